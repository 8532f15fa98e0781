import PyProof.Rows.All
import Wide.All
import OpenK.AllK
import Wide.FinOn
import Lean
import PyProof.EqAt
import PyProof.EqKinds
import PyProof.TupleCall
import PyProof.Draws
import PyProof.EnumMake
import PyProof.EnumFor
import PyProof.ZipIter
import PyProof.ListMulRoad
import PyProof.NeData
import PyProof.SumWalkG
import KE.KSortedM
import PyProof.FactsAll.subtypes_4
import PyProof.Rows.SortShell
import KE.KSortTup
import KE.KItemsList
import PyProof.DictItemsLoops
import PySem.Challenge.RW_sharetrail_k26_where_loads_come_from
set_option Elab.async false
set_option linter.all false
set_option maxRecDepth 100000
set_option maxHeartbeats 4000000
set_option exponentiation.threshold 10000
open _root_ renaming Option->nB,of_decide_eq_true->nT,if_pos->nh,if_neg->oE,Array->oH,Bool->oO,decide_eq_true->pJ,or_false->qA,decide_eq_false->qE,String->qj,False->sH,if_false->sZ,beq_eq_false_iff_ne->tJ,bne_self_eq_false->uJ,if_true->uW,not_or->wG,DecidableEq->wt,beq_iff_eq->xw,decide_eq_true_eq->yx,True->z6
open Array renaming length_toList->pP,getElem?_toList->qv,toArray_toList->rD,getD->tV,toList_map->vy,getElem?_map->yC,size_append->ye,toList_push->yn
open Bool renaming and_eq_true->nW,false_ne_true->ou,or_eq_true->pq,noConfusion->qH,false_eq_true->qR
open False renaming elim->rf
open ForInStep renaming yield->ui
open Int renaming toNat_of_nonneg->ox,natAbs_natCast->qU,mul_pos->qX,emod_nonneg->q9,natAbs_mul->rY,emod_lt_of_pos->sG,toNat_natCast->sS,lt_of_lt_of_le->tW,lt_trans->uK,mul_le_mul_of_nonneg_right->uV,mul_ediv_cancel_left->vb,pow_succ->wO,natCast_mul->wX,le_refl->xQ,natAbs_add_le->yv,emod_eq_of_lt->yy
open List renaming mem_cons_of_mem->nC,getElem?_append_left->nF,getElem?_set_ne->nI,getD_eq_getElem?_getD->nJ,mem_cons->nK,getElem?_eq_getElem->nN,mem_cons_self->nO,getElem?_eq_some_iff->nP,size_toArray->nQ,map_cons->nR,getElem?_set_self->nU,replicate->nX,getElem?_concat_length->nY,mem_of_getElem?->nZ,getElem?_map->ng,mem_append->oC,not_mem_nil->oD,range->oF,length_map->oG,mem_singleton->oK,nil_append->oM,getElem?_append_right->oP,mem_map->oR,map_map->oS,length_cons->oT,mem_append_right->oZ,map_nil->oy,sum_cons->pB,cons_append->pC,length_append->pF,filterMap_cons->pI,getElem?_eq_none->pO,replicate_succ->pS,prefix_rfl->pU,lookup_cons->qF,mem_filter->qM,nodup_cons->qN,drop_eq_getElem_cons->qP,getElem_mem->qT,filter_cons->qV,length_set->qZ,map_append->qa,any_cons->qi,length_filter_le->qx,mem_or_eq_of_mem_set->q5,flatten_cons->rA,map_congr_left->rS,any_eq_true->rW,ext_getElem->rX,take_of_length_le->sC,prefix_append->sD,of_mem_zip->sJ,find?_cons->sM,length_nil->sN,mem_iff_getElem?->sR,append_assoc->sU,nodup_append->sW,mem_append_left->sX,mem_iff_getElem->se,getElem_inj->sf,getElem?_eq_none_iff->tF,lookup_append->tU,mem_range->tw,getElem?_inj->uC,drop_eq_nil_of_le->uE,pairwise_lt_range->uG,pairwise_map->uL,zipWith->uM,map_set->uN,mem_range'_1->uO,range_succ_eq_map->uP,all_cons->uX,getElem?_zipWith_eq_some->ue,append_nil->uh,pairwise_cons->vF,zip_cons_cons->vH,nodup_iff_pairwise_ne->vJ,getElem?_zip_eq_some->vK,pairwise_iff_getElem->vM,length_range->vV,ext_getElem?->vX,set_eq_of_length_le->vd,length_take->vf,getElem?_replicate->vg,pairwise_mergeSort->vt,getElem?_cons_zero->vz,map_fst_zip->v7,zipWith_cons_cons->wM,foldl_cons->wR,forIn_cons->wV,length_replicate->we,length_singleton->wg,set_append_right->wo,forIn_nil->xA,drop_eq_nil_iff->xG,length_eraseIdx->xM,set_append_left->xP,getElem?_append->xR,length_pos_iff->xX,mergeSort_perm->xY,getElem?_range->xf,Pairwise->xm,mem_filterMap->xq,foldl->xu,set_cons_zero->yD,map_replicate->yF,any_eq_false->yL,take_sublist->yQ,length_drop->zD,zipIdx_cons->zG,take->zJ,map_snd_zip->zP,getElem_zip->zQ,cons_ne_nil->zR,length->zV,range'->zb,zipIdx_nil->zf,sum_append->zg
open List.MergeSort.Internal renaming splitInTwo->yE
open List.Pairwise renaming nil->vS,sublist->wk
open List.Perm renaming refl->uI
open Nat renaming lt_of_lt_of_le->nE,le_refl->nG,le_trans->nL,ne_of_lt->nV,mul_le_mul_right->pK,lt_irrefl->pL,lt_of_le_of_lt->pM,lt_succ_of_lt->pX,zero_le->pY,le_succ_of_le->p0,pow_le_pow_right->qB,le_of_lt->qJ,lt_succ_self->qS,le_succ->rC,mul_comm->rm,lt_trans->r9,pos_of_ne_zero->sF,le_of_succ_le->sV,ne_of_gt->sg,zero_add->uF,mul_pos->uc,gcd->uu,one_lt_two_pow->vI,mul_assoc->vc,le_add_right->vp,add_comm->wD,gcd_comm->wL,lt_or_ge->wN,mul_le_mul->xO,mod_lt->yB,lt_trichotomy->yk,pow_succ->yu,min_le_right->zC,not_lt_zero->zw,div_le_self->zx
open Ne renaming symm->pV
open Option renaming some->Gc,bind_some->uU,isSome_some->xy,map->x9,getD_none->zE,getD_some->zF,map_some->zt
open Option.some renaming inj->pD,injEq->yt
open Or renaming inr->xv
open PyProof.Rows renaming slot_tuple_getitem->pH,callWith_type1->qI,IntsAre->qO,step_dedup->qc,boot_tuple->rP,envOfC->tM,assignInOrder_cons->uy,sortedAll_old->vE,sortedAll_at->vL,AllBare->vP,boot_sorted->vW,listUpdate_at->va,subscriptTail_builtinR->wB,entry_list_sort->wY,slot_list_sort->xI,args_list_sort->xJ,entry_tuple_getitem->xV,getElem?_mirror_all->xc,args_tuple_getitem->xt,assignInOrder_nil->yK,listItems_at->yf,plain_sorted->yg,entry_sorted->yh,args_sorted1->yi,callWith_builtin1->zB,boot_list->zM,kind_sorted->zX,seqEpoch_at->zZ,get?_update_seq->zh,getElem?_bubble->zu,boot_isinstance->zv
open PyProof.Rows.F renaming plain_set_update_loop->tu,entry_set_update_loop->vv
open PyProof.Rows.IsTup renaming new->tK
open PySem renaming wpAny_bind->Wp,Value->mz,Shared->m8,wpAny_pure->m9,Addr->nH,Program->nq,starEach->nv,Expr->oI,World->oN,Heap->oQ,Around->oU,wpAny_call_entry->oW,wpAny_callSpecial?_slot->oo,wpAny_holding->oq,wpAny_newObj_type->pE,Stmt->pN,mem_of_lookup->pQ,Builtin->qK,wpAny_pyIter_list->qL,wpAny_pyIter_tuple->qQ,wpAny_seqItems->qW,codeAny_builtin->qb,FuncData->qd,boot_len->qe,wpAny_field->qh,wpAny_Call_Name_kw->qm,wpAny_setField->qp,wpAny_setField_rec->qq,wpAny_passesOwn->q8,wpAny_setState_of->rE,wpAny_rule->rG,IsPair->rK,Scope->rQ,wpAny_setEntries_of->rR,wpAny_getItem_str_slice->rT,wpAny_typeOf->rh,NameKind->sI,wpAny_updateSeq->sP,wpAny_isInstance->sv,wpAny_binaryOp_repeat_ref->tE,wpAny_standAt->tN,wpAny_attempt->tQ,wpAny_newList->tR,call_meets->tT,sizeLine_eq->tZ,wpAny_truthy_bool->tz,wpAny_pyNext_list_item->t7,fits_of_scanBound->uH,wpAny_pyNext_list_end->uQ,typeIs_int->uS,plainId_quiet->uY,wpAny_updateSeq_pair->ub,wpAny_execs_nil->ug,post_val_or_str->um,codeAny_mono->uo,wpAny_mono->uw,IsZip->vC,wpAny_fieldsOf->vG,Keyword->vQ,wpAny_setEpoch_of->vU,wpAny_comprehension_free->vY,wpAny_onRaise->vZ,noFill_tuple_add->vh,wpAny_askSetting->vx,IsPart->v9,typeIs_str->wC,ElemsOf->wI,wpAny_specialOf->wW,wpAny_pyIter_listiter->wd,builtinLookup_eq_fast->wm,wpAny_letGo->xB,wpAny_newTuple->xC,isSubtype_stop->xD,intBits_le_iff->xF,wpAny_runValue->xH,isSubtype_type->xK,codeAny_extend_loopS->xN,seq_tuple_add->xk,tupleKind_room_in1->x5,wpAny_assign_Name->yJ,BindsTo->yP,concat_meets->yR,wpAny_sequenceKey->yS,slot_list_getitem->yT,wpAny_Call_method->yV,ZipApart->yX,wpAny_pyIter_enum->ya,wpAny_storeSet_of->ym,wpAny_pyIter_slot->yo,wpAny_eqBool_int->y7,wpAny_execs_cons->y8,PassesOwn->y9,wpAny_pyIter_zip->zI,seqIndex_of->zW,wpAny_of_eq->zY,pushCells_keeps->ze,codeAny_of_tree->zk,typeLookup_type->zp,GenState->z7,wpAny_Name->z8,wpAny_bindName->z9,wpAny_load->AAA
open PySem.Around renaming under_plainId->rF
open PySem.AutoListH renaming list___mul___list_int_3->yG
open PySem.AutoSeq1 renaming wpAny_loadPart'->oA,list_extend_list_list_0->yU
open PySem.Builtin.Frozenset renaming updateFrom->zo
open PySem.Builtin.List renaming listExtendWith->pA,listTooLong->qC,listLengthHint->qg,listSameRef->rO,listItems->wK
open PySem.Builtin.Slice renaming slicePlaces->qz,sliceAdjust->sx,sliceApplied->vA,slicePartIndex->zd
open PySem.Builtin.SmallTypes renaming nextOf->oY,ownedTupleIsFree->qD,ownedTupleHandOut->tL,stopIteration->yW
open PySem.Builtin.Tuple renaming tupleExact->rJ,tupleItemsOf->vB,tupleTooMany->vD
open PySem.Calls renaming spliced_cons->qy,spliced_nil->sY,call_function_entry->tH,callWith_builtin->uA,Name_function_global->ux,evalArgs_plain->wy
open PySem.Challenge renaming pw_sharetrail_k26_where_loads_come_from->uf
open PySem.Code renaming quiet_builtin->yA
open PySem.Data renaming fields->zU
open PySem.Expr renaming Call->zL
open PySem.F renaming slot_list_append->ny,type_list_append->oB,slot_tuple_iterator_next->qo,slot_str_getitem->rL,called_set->sE,slot_int_rmul->sL,args_tuple_add_2->tP,entry_tuple_add->tm,slot_tuple_add->t9,slot_dict_get->uR,slot_tuple_mul->uT,slot_list_extend->uZ,args_tuple_iterator_next_1->uj,slot_zip_next->uk,entry_tuple_iterator_next->uq,args_int_rmul_2->vR,slot_int_index->vk,entry_int_rmul->vm,args_dict_get_3->vn,plainAttrs_dict->vo,plainAttrs_list->vq,slot_dict_items->v5,entry_dict_get->wF,fills_int_mul->wU,args_list_extend_2->w6,slot_list_clear->w9,entry_list_extend->xW,plain_extend_loop->xZ,args_tuple_mul_2->x8,args_zip_next_1->yY,slot_tuple_rmul->yc,entry_tuple_mul->yd,plain_list_iadd->yq,entry_zip_next->zH,plain_set_new->zl,slot_set_iter->zq
open PySem.Heap renaming get?_push_of_some->my,get?_push_size->nM,lt_size->nS,size_push->oJ,get?_update_self->og,get?_update_other->pZ,SameBut->qf,ExtBut->tq,IsTuple->ur,IsList->xE,size_update->zK
open PySem.Heap.SameBut renaming update->pT,refl->yZ
open PySem.NameKind renaming free->pW,cell->sQ
open PySem.Obj renaming mapSeq->oV,data_mapFields->p9,isFreed_of_fields->qu,cls_mapFields->uB,putSet->wJ,mapFields->xl
open PySem.Paired renaming length->xh
open PySem.PassesOwn renaming never->om
open PySem.PyData renaming strOk->qG,canLayAll0->uD,depthAll->wZ,depth->yz
open PySem.SeqAt.EqAt renaming int_str->xn,str_int->xo
open PySem.SetTable renaming below->pG,grown->rV,has->yl
open PySem.SetTable.below renaming go->yj
open PySem.SetTable.probe renaming go->vT
open PySem.Shared renaming heap->rB
open PySem.Str renaming ofString->pR
open PySem.Txt renaming slice_le->wH
open PySem.Value renaming ref->oX,none->pz,type->rZ,int->tY,isInt_shape->vN,str->ve,isInt->wq,isStrOf->xg,bool->xp
open PySem.W renaming Frag->mx,kia_one->pf,keepIn->qk,kitOne->ql,fnOf->su,findIn->t8,OpenLaw->ua,codeIn->uz,methodObj->vO,cellsFrom_some->v8,instObj->wQ,lookIn->wu,kas_rev->xU,kitx_tuple->xr,specialIn->yM,kitx_list->yN,kitx_dict->yO,nsIn->yb,kas_desc->yr,plainGet->zA,kas_tail3->zN,kas_place->zO,WalkO->zy
open PySem.W.KasT renaming kasWp_bind->tS
open PySem.pickOrder renaming go->yp
open Rat renaming intCast_eq_zero_iff->qY,le_of_lt->uv,le_antisymm->wc,num_nonneg->xS,mkRat_eq_div->zS,mul_pos->zc
open Sum renaming inl->qt,inr->xT
open True renaming intro->rH
noncomputable section
namespace L2
open PySem PySem.Spec PyProof.Rows
abbrev Key:=Sum Int Str
noncomputable def Pt:Key->mz->oO
 | .inl k,v=>wq k v
 | .inr x,v=>xg x v
noncomputable def lB(w:oN):Key->Int
 | .inl k=>hashInt k
 | .inr x=>hashStr w x
theorem Bk:∀{k:Key} {v:mz},Pt k v=true->(∃i t,k=qt i/\v=tY i t)\/(∃x t,k=xT x/\v=ve x t)
 | .inl i,v,h=>by
   obtain⟨t,e⟩:=vN (k:=i) (v:=v) h
   exact .inl ⟨i,t,rfl,e⟩
 | .inr x,v,h=>by
   obtain⟨t,e⟩:=Value.isStrOf_shape (x:=x) (v:=v) h
   exact .inr ⟨x,t,rfl,e⟩
theorem Te(i:Int)(t:Tok):Pt (.inl i) (.int i t)=true:=by simp[Pt,wq]
theorem UW(x:Str)(t:Tok):Pt (.inr x) (.str x t)=true:=by simp[Pt,xg]
theorem cG(a b:Int):decide ((qt a:Key)=qt b)=(a==b):=by
 by_cases e:a=b
 .subst e;simp
 .have h:¬(qt a:Key)=qt b:=λq=>e (Sum.inl.inj q)
  rw[qE h]
  exact(tJ.mpr e).symm
theorem dD(a b:Str):decide ((xT a:Key)=xT b)=decide (a=b):=by
 by_cases e:a=b
 .subst e;simp
 .have h:¬(xT a:Key)=xT b:=λq=>e (Sum.inr.inj q)
  rw[qE h,qE e]
theorem dB(a:Int)(b:Str):decide ((qt a:Key)=xT b)=false:=qE (λq=>nomatch q)
theorem bH(a:Str)(b:Int):decide ((xT a:Key)=qt b)=false:=qE (λq=>nomatch q)
noncomputable def B8(prog:nq)(w:oN):PySem.KeyKind prog w Key where
 is:=Pt
 hash:=lB w
 inj:=λv a b ha hb=>by
  rcases Bk ha with⟨i,t,rfl,rfl⟩|⟨x,t,rfl,rfl⟩
  .rcases Bk hb with⟨j,u,rfl,e⟩|⟨y,u,rfl,e⟩
   .injection e with e1 _;rw[e1]
   .exact nomatch e
  .rcases Bk hb with⟨j,u,rfl,e⟩|⟨y,u,rfl,e⟩
   .exact nomatch e
   .injection e with e1 _;rw[e1]
 byValue:=λk v h=>by
  rcases Bk h with⟨i,t,rfl,rfl⟩|⟨x,t,rfl,rfl⟩<;>rfl
 pyHash:=λhv h=>by
  rcases Bk hv with⟨i,t,rfl,rfl⟩|⟨x,t,rfl,rfl⟩
  .exact wpAny_pyHash_int h
  .exact wpAny_pyHash_str h
 eqBool:=λhu hv h=>by
  rcases Bk hu with⟨i,t,rfl,rfl⟩|⟨x,t,rfl,rfl⟩
  .rcases Bk hv with⟨j,u,rfl,rfl⟩|⟨y,u,rfl,rfl⟩
   .rw[cG]at h;exact y7 h
   .rw[dB]at h;exact xn i t y u _ _ _ _ h
  .rcases Bk hv with⟨j,u,rfl,rfl⟩|⟨y,u,rfl,rfl⟩
   .rw[bH]at h;exact xo x t j u _ _ _ _ h
   .rw[dD]at h;exact wpAny_eqBool_str h
 «strs» :=λk x t v h=>by
  rcases Bk h with⟨i,u,rfl,e⟩|⟨y,u,rfl,e⟩
  .exact nomatch e
  .injection e with e1 _
   subst e1
   cases v<;>rfl
theorem QN(prog:nq)(w:oN)(i:Int)(t:Tok):(B8 prog w).is (.inl i) (.int i t)=true:=Te i t
theorem Pu(prog:nq)(w:oN)(x:Str)(t:Tok):(B8 prog w).is (.inr x) (.str x t)=true:=UW x t
end L2
namespace L2
open PySem PySem.Spec PyProof.Rows
inductive V where
 |non|bl (b:oO)|int (i:Int)|str (x:Str)|byt (b:oH UInt8)|flt (b:UInt64)|ref (a:nH)|ty (n:qj)
 deriving wt
def RelV:V->mz->Prop
 | .non,u=>u=pz
 | .bl b,u=>u=xp b
 | .int i,u=>∃t,u=tY i t
 | .str x,u=>∃t,u=ve x t
 | .byt b,u=>∃t,u=Value.bytes b t
 | .flt b,u=>∃t,u=Value.float b t
 | .ref a,u=>u=oX a
 | .ty n,u=>u=rZ n
abbrev Vals:List V->List mz->Prop:=Paired RelV
theorem Vals.length{xs:List V}{us:List mz}(r:Vals xs us):xs.length=us.length:=xh r
theorem Vals.get:∀{xs:List V} {us:List mz} {i:Nat} {x:V},Vals xs us->xs[i]?=Gc x->∃u,us[i]?=Gc u/\RelV x u
 |_,_,_,_,.nil,e=>by simp at e
 |_,_,0,_,.cons r _,e=>by simp at e;subst e;exact⟨_,rfl,r⟩
 |_,_,i+1,x,.cons _ t,e=>by
  obtain⟨u,h1,h2⟩:=Vals.get (i:=i) (x:=x) t (by simpa using e)
  exact⟨u,by simpa using h1,h2⟩
theorem Vals.set{x:V}{u:mz}(r:RelV x u):∀{xs:List V} {us:List mz} (i:Nat),Vals xs us->Vals (xs.set i x) (us.set i u)
 |_,_,_,.nil=>.nil
 |_,_,0,.cons _ t=>.cons r t
 |_,_,i+1,.cons q t=>.cons q (Vals.set r i t)
theorem Vals.append:∀{xs ys:List V} {us ws:List mz},Vals xs us->Vals ys ws->Vals (xs++ys) (us++ws)
 |_,_,_,_,.nil,s=>s
 |_,_,_,_,.cons r t,s=>.cons r (Vals.append t s)
theorem Vals.take:∀{xs:List V} {us:List mz} (n:Nat),Vals xs us->Vals (xs.take n) (us.take n)
 |_,_,0,_=>.nil
 |_,_,_+1,.nil=>.nil
 |_,_,n+1,.cons r t=>.cons r (Vals.take n t)
theorem Vals.drop:∀{xs:List V} {us:List mz} (n:Nat),Vals xs us->Vals (xs.drop n) (us.drop n)
 |_,_,0,r=>r
 |_,_,_+1,.nil=>.nil
 |_,_,n+1,.cons _ t=>Vals.drop n t
def Vb:nB V->nB mz->Prop
 |some v,Gc u=>RelV v u
 |none,none=>z6
 |_,_=>sH
def KV{κ:Type}:List (κ×V)->List (κ×mz)->Prop:=Paired λ(p:κ×V) (q:κ×mz)=>p.1=q.1/\RelV p.2 q.2
noncomputable def kV:Key->V
 | .inl i=>.int i
 | .inr x=>.str x
inductive HO where
 |lst (xs:List V)
 |tup (xs:List V)
 |dK (kvs:List (Key×V))|dT (kvs:List (List Key×V))
 |set (S:Int->oO) (n:Nat)
 |ins (C dx:nH) (fs:List (Str×V))
 |own (x:nH)
 |xd (fs:List (Str×V))
 |met (f x:nH)
 |rng (lo hi:Int)
 |frz (o:Obj) (u:HO)
 |tbl (ps:oH mz)
 |ext (φ:oQ->Prop)
abbrev Hp:=nH->nB HO
noncomputable def upd(H:Hp)(a:nH)(o:HO):Hp:=λb=>if b=a then Gc o else H b
theorem Ay{H:Hp}{a:nH}{o:HO}:upd H a o a=Gc o:=by unfold upd;rw[nh rfl]
theorem AY{H:Hp}{a b:nH}{o:HO}(h:b≠a):upd H a o b=H b:=by unfold upd;rw[oE h]
theorem Sm{H:Hp}{a:nH}{o u:HO}:upd (upd H a o) a u=upd H a u:=by
 funext b;unfold upd;split<;>rfl
theorem jQ{H:Hp}{a b:nH}{o u:HO}(h:H a=Gc o)(h':H b=Gc u)(d:o≠u):a≠b:=by
 intro e;subst e;rw[h]at h';exact d (pD h')
theorem BN{H:Hp}{a b:nH}{o:HO}(h:H a=Gc o)(h':H b=none):a≠b:=by
 intro e;subst e;rw[h]at h';cases h'
section
variable(P:nq)(w:oN)
def Dr(H:Hp)(h:oQ)(a:nH):HO->Prop
 | .lst xs=>xs.length<=sizeLine/\∃(its:List mz) (n:Nat),Vals xs its/\h.get? a=Gc {cls:=.type "list",data:=.seq its.toArray n}
 | .tup xs=>xs.length<=sizeLine/\∃its:List mz,Vals xs its/\IsTup h a its.toArray
 | .dK kvs=>kvs.length<=sizeLine/\(a==sysModules)=false/\∃vs,KV kvs vs/\h.DictOf (B8 P w) a vs
 | .dT kvs=>kvs.length<=sizeLine/\(a==sysModules)=false/\∃xs:List (List Key×nH×mz),
    Paired (λ(p:List Key×V) (q:List Key×nH×mz)=>p.1=q.1/\H q.2.1=Gc (.tup (p.1.map kV))/\RelV p.2 q.2.2) kvs xs/\
    ∃o es ep,h.get? a=Gc o/\o.ExactDict/\o.data=.dict es ep/\es.toList=xs.map (entryOfKey (tupleKind (B8 P w)))/\(xs.map (·.1)).Nodup
 | .set S n=>h.SetOf (intKind P w) a S n
 | .ins C dx fs=>H dx=Gc (.own a)/\fs.length<=1000/\dx≠a/\h.get? a=Gc (wQ C dx)/\
    ∃mA,h.Ns1 dx mA/\(∀f,Vb (fs.lookup f) (mA f))/\PySem.Within mA (fs.map (·.1))
 | .own _=>∃o,h.get? a=Gc o
 | .xd fs=>∃mA,h.Ns1 a mA/\∀f,Vb (fs.lookup f) (mA f)
 | .rng lo hi=>∃t u v,h.get? a=Gc {cls:=.type "range",data:=.fields #[.int lo t,.int hi u,.int 1 v]}
 | .frz o u=>h.get? a=Gc o/\Dr H h a u
 | .tbl ps=>h.get? a=Gc {cls:=.none,data:=.fields ps}
 | .met f x=>h.get? a=Gc (vO (.ref f) (.ref x))
 | .ext φ=>φ h/\(∃o,h.get? a=Gc o)/\∀h1 h2:oQ,φ h1->(∀o,h1.get? a=Gc o->h2.get? a=Gc o)->φ h2
def HOk(H:Hp)(h:oQ):Prop:=∀a o,H a=Gc o->Dr P w H h a o
end
section
variable{P:nq}{w:oN}{H H':Hp}{h h':oQ}{a:nH}{o:HO}
theorem Dr.lt(x:Dr P w H h a o):a<h.objs.size:=by
 cases o with
 |lst xs=>obtain⟨_,_,_,_,e⟩:=x;exact nS e
 |tup xs=>obtain⟨_,_,_,p⟩:=x;exact p.lt
 |dK kvs=>obtain⟨_,_,_,_,o,_,_,e,_⟩:=x;exact nS e
 |dT kvs=>obtain⟨_,_,_,_,o,_,_,e,_⟩:=x;exact nS e
 |set S n=>obtain⟨o,_,_,_,e,_⟩:=x;exact nS e
 |ins C dx fs=>obtain⟨_,_,_,e,_⟩:=x;exact nS e
 |own y=>obtain⟨_,e⟩:=x;exact nS e
 |xd fs=>obtain⟨_,⟨_,_,_,e,_⟩,_⟩:=x;exact nS e
 |rng lo hi=>obtain⟨_,_,_,e⟩:=x;exact nS e
 |frz ob u=>obtain⟨e,_⟩:=x;exact nS e
 |tbl ps=>exact nS (show h.get? a=Gc _ from x)
 |met f y=>exact nS (show h.get? a=Gc _ from x)
 |ext φ=>obtain⟨_,⟨_,e⟩,_⟩:=x;exact nS e
theorem Paired.jG{α β:Type}{F G:α->β->Prop}:∀{l₁:List α} {l₂:List β},Paired F l₁ l₂->(∀a b,F a b->G a b)->Paired G l₁ l₂
 |_,_,.nil,_=>.nil
 |_,_,.cons r t,f=>.cons (f _ _ r) (Paired.jG t f)
theorem Dr.We(x:Dr P w H h a o)(k:∀b u,(b=a\/H b=Gc (.own a))->h.get? b=Gc u->h'.get? b=Gc u)(ho:∀b,H b=Gc (.own a)->H' b=Gc (.own a))(ht:∀b xs,H b=Gc (.tup xs)->H' b=Gc (.tup xs)):Dr P w H' h' a o:=by
 induction o with
 |lst xs=>obtain⟨z,its,n,r,e⟩:=x;exact⟨z,its,n,r,k _ _ (.inl rfl) e⟩
 |tup xs=>obtain⟨z,its,r,ob,e,c⟩:=x;exact⟨z,its,r,ob,k _ _ (.inl rfl) e,c⟩
 |dK kvs=>obtain⟨z,y,vs,r,ob,es,ep,e,c⟩:=x;exact⟨z,y,vs,r,ob,es,ep,k _ _ (.inl rfl) e,c⟩
 |dT kvs=>
  obtain⟨z,y,xs,r,ob,es,ep,e,c⟩:=x
  exact⟨z,y,xs,Paired.jG r λp q z=>⟨z.1,ht _ _ z.2.1,z.2.2⟩,ob,es,ep,k _ _ (.inl rfl) e,c⟩
 |set S n=>obtain⟨ob,es,ep,t,e,c⟩:=x;exact⟨ob,es,ep,t,k _ _ (.inl rfl) e,c⟩
 |ins C dx fs=>
  obtain⟨d,z,ne,e,mA,⟨od,es,ep,e2,c⟩,r⟩:=x
  exact⟨ho _ d,z,ne,k _ _ (.inl rfl) e,mA,⟨od,es,ep,k _ _ (.inr d) e2,c⟩,r⟩
 |own y=>obtain⟨ob,e⟩:=x;exact⟨ob,k _ _ (.inl rfl) e⟩
 |xd fs=>obtain⟨mA,⟨od,es,ep,e,c⟩,r⟩:=x;exact⟨mA,⟨od,es,ep,k _ _ (.inl rfl) e,c⟩,r⟩
 |rng lo hi=>obtain⟨t,u,v,e⟩:=x;exact⟨t,u,v,k _ _ (.inl rfl) e⟩
 |frz ob u ih=>obtain⟨e,q⟩:=x;exact⟨k _ _ (.inl rfl) e,ih q⟩
 |tbl ps=>
  have e:h.get? a=Gc {cls:=.none,data:=.fields ps}:=x
  show h'.get? a=Gc {cls:=.none,data:=.fields ps}
  exact k a _ (.inl rfl) e
 |met f y=>
  have e:h.get? a=Gc (vO (.ref f) (.ref y)):=x
  show h'.get? a=Gc (vO (.ref f) (.ref y))
  exact k a _ (.inl rfl) e
 |ext φ=>obtain⟨p,⟨o,e⟩,st⟩:=x;exact⟨st _ _ p λo q=>k _ _ (.inl rfl) q,⟨o,k _ _ (.inl rfl) e⟩,st⟩
theorem HOk.lt(x:HOk P w H h)(e:H a=Gc o):a<h.objs.size:=(x a o e).lt
theorem HOk.fresh(x:HOk P w H h)(e:h.objs.size<=a):H a=none:=by
 cases q:H a with
 |none=>rfl
 |some u=>exact absurd (nE (x.lt q) e) (pL _)
theorem HOk.kept(x:HOk P w H h)(k:∀b u,h.get? b=Gc u->h'.get? b=Gc u):HOk P w H h':=λa o e=>
 (x a o e).We (λb u _ q=>k b u q) (λ_ q=>q) λ_ _ q=>q
theorem HOk.laid(x:HOk P w H h)(k:∀b u,h.get? b=Gc u->h'.get? b=Gc u)(hp:h.objs.size<=a)(new:Dr P w (upd H a o) h' a o):HOk P w (upd H a o) h':=λb u e=>by
 have hn:=x.fresh hp
 by_cases hb:b=a
 .subst hb;rw[Ay]at e;cases e;exact new
 .rw[AY hb]at e
  exact(x b u e).We (λc v _ q=>k c v q) (λc q=>by rw[AY (BN q hn)];exact q) λc xs q=>by rw[AY (BN q hn)];exact q
end
def Rd(H:Hp)(a:nH)(u:HO):Prop:=H a=Gc u\/∃o,H a=Gc (.frz o u)
theorem Rd.ok{P:nq}{w:oN}{H:Hp}{h:oQ}{a:nH}{u:HO}(r:Rd H a u)(x:HOk P w H h):Dr P w H h a u:=by
 rcases r with r|⟨o,r⟩
 .exact x a u r
 .obtain⟨_,q⟩:=x a _ r
  exact q
def Mut:nB HO->Prop
 |some (.lst _)=>z6
 |some (.dK _)=>z6
 |some (.dT _)=>z6
 |some (.set _ _)=>z6
 |some (.ins _ _ _)=>z6
 |some (.ext _)=>z6
 |_=>sH
section
variable{P:nq}{w:oN}{H:Hp}{h h':oQ}{x e:nH}{o':HO}
theorem HOk.write(ok:HOk P w H h)(mu:Mut (H x))(he:e=x\/H e=Gc (.own x))(k:∀b u,b≠e->h.get? b=Gc u->h'.get? b=Gc u)(heo:∃u,h'.get? e=Gc u)(new:Dr P w (upd H x o') h' x o'):HOk P w (upd H x o') h':=λb u q=>by
 have nown:∀c y,H c=Gc (.own y)->c≠x:=λc y r z=>by subst z;rw[r]at mu;exact mu
 have ntup:∀c xs,H c=Gc (.tup xs)->c≠x:=λc xs r z=>by subst z;rw[r]at mu;exact mu
 by_cases hb:b=x
 .subst hb;rw[Ay]at q;cases q;exact new
 .rw[AY hb]at q
  by_cases hbe:b=e
  .have q':H b=Gc (.own x):=by
    rcases he with z|z
    .exact absurd (hbe.trans z) hb
    .rw[hbe];exact z
   rw[q]at q';cases q'
   obtain⟨v,hv⟩:=heo
   exact⟨v,by rw[hbe];exact hv⟩
  .refine(ok b u q).We (λc v hc r=>k c v ?_ r) (λc r=>by rw[AY (nown c b r)];exact r) λc xs r=>by rw[AY (ntup c xs r)];exact r
   rcases hc with rfl|hc
   .exact hbe
   .rintro rfl
    rcases he with z|z
    .exact nown c b hc z
    .rw[hc]at z;cases z;exact hb rfl
end
structure Un(fs ex:List nH)(H H':Hp)(h h':oQ):Prop where
 keep:∀b o,h.get? b=Gc o->H b=none->b∉fs->b∉ex->h'.get? b=Gc o
 slot:∀b o,h.get? b=Gc o->H b=none->b∈fs->b∉ex->∃sl,h'.get? b=Gc {o with slots:=sl}
 free:∀b o,h.get? b=Gc o->H b=none->b∉ex->H' b=none
 there:∀b o,h.get? b=Gc o->b∉ex->∃o',h'.get? b=Gc o'
 Up:∀b xs,H b=Gc (.tup xs)->H' b=Gc (.tup xs)
 Xz:∀b o u,H b=Gc (.frz o u)->H' b=Gc (.frz o u)
 YD:∀b ps,H b=Gc (.tbl ps)->∃more,H' b=Gc (.tbl (ps++more))
section
variable{fs fs' ex ex':List nH}{H H1 H2:Hp}{h h1 h2 h':oQ}{a x e:nH}{o:HO}
theorem Un.any(u:Un fs ex H H1 h h1){b:nH}{ob:Obj}(q:h.get? b=Gc ob)(n:H b=none)(hx:b∉ex):∃sl,h1.get? b=Gc {ob with slots:=sl}:=by
 by_cases hb:b∈fs
 .exact u.slot b ob q n hb hx
 .exact⟨ob.slots,u.keep b ob q n hb hx⟩
theorem Un.kept(k:∀b u,h.get? b=Gc u->h'.get? b=Gc u):Un fs ex H H h h':=
 ⟨λb ob q _ _ _=>k b ob q,λb ob q _ _ _=>⟨ob.slots,k b ob q⟩,λ_ _ _ n _=>n,λb ob q _=>⟨ob,k b ob q⟩,λ_ _ q=>q,λ_ _ _ q=>q,λ_ ps q=>⟨#[],by rw[q];simp⟩⟩
theorem Un.refl:Un fs ex H H h h:=Un.kept λ_ _ q=>q
theorem Un.laid(k:∀b u,h.get? b=Gc u->h'.get? b=Gc u)(hp:h.objs.size<=a)(hn:H a=none):Un fs ex H (upd H a o) h h' where
 keep:=λb u q _ _ _=>k b u q
 slot:=λb u q _ _ _=>⟨u.slots,k b u q⟩
 free:=λb u q n _=>by rw[AY (nV (nE (nS q) hp))];exact n
 there:=λb u q _=>⟨u,k b u q⟩
 Up:=λb xs q=>by rw[AY (BN q hn)];exact q
 Xz:=λb u xs q=>by rw[AY (BN q hn)];exact q
 YD:=λb ps q=>⟨#[],by rw[AY (BN q hn),q];simp⟩
theorem Un.write(mu:Mut (H x))(he:e=x\/H e=Gc (.own x))(k:∀b u,b≠e->h.get? b=Gc u->h'.get? b=Gc u)(heo:∃u,h'.get? e=Gc u):Un fs ex H (upd H x o) h h':=by
 have hx:∀b,H b=none->b≠x:=λb n z=>by subst z;rw[n]at mu;exact mu
 have hb:∀b,H b=none->b≠e:=λb n z=>by
  subst z
  rcases he with r|r
  .exact hx b n r
  .rw[n]at r;cases r
 have hm:∀b u,H b=Gc u->¬Mut (Gc u)->b≠x:=λb u q nm z=>by subst z;rw[q]at mu;exact nm mu
 refine⟨λb u q n _ _=>k b u (hb b n) q,λb u q n _ _=>⟨u.slots,k b u (hb b n) q⟩,λb u q n _=>by rw[AY (hx b n)];exact n,λb u q _=>?_,
  λb xs q=>by rw[AY (hm b _ q λz=>z)];exact q,λb u xs q=>by rw[AY (hm b _ q λz=>z)];exact q,λb ps q=>⟨#[],by rw[AY (hm b _ q λz=>z),q];simp⟩⟩
 by_cases hbe:b=e
 .subst hbe;exact heo
 .exact⟨u,k b u hbe q⟩
end
noncomputable def trk(h:oQ)(H:Hp):List nH:=(oF h.objs.size).filter λa=>(H a).isSome
noncomputable def W8(h:oQ)(H:Hp):oQ:=PySem.W.hideAll h (trk h H)
theorem SG(h:oQ)(H:Hp):(W8 h H).objs.size=h.objs.size:=PySem.W.hideAll_size _ _
theorem Wk{h:oQ}{H:Hp}{b:nH}{o:Obj}(e:h.get? b=Gc o)(n:H b=none):(W8 h H).get? b=Gc o:=
 PySem.W.hideAll_get _ e λhm=>by
  have q:(H b).isSome=true:=(qM.mp hm).2
  rw[n]at q;simp at q
theorem ZD{h:oQ}{H:Hp}{b:nH}{o:Obj}(e:(W8 h H).get? b=Gc o):h.get? b=Gc o/\H b=none:=by
 have e':h.get? b=Gc o:=PySem.W.of_hideAll (trk h H) e
 refine⟨e',?_⟩
 cases q:H b with
 |none=>rfl
 |some x=>
  have hm:b∈trk h H:=qM.mpr ⟨tw.mpr (nS e'),by simp[q]⟩
  have z:(W8 h H).get? b=none:=PySem.W.hideAll_none (trk h H) hm
  rw[z]at e;cases e
noncomputable def ZF(g h:oQ)(L:nH):List (nH×Obj):=(oF h.objs.size).filterMap λa=>if a=L\/(g.get? a).isSome=true then none else(h.get? a).map λo=>(a,o)
noncomputable def rest(g h:oQ)(L d:nH):List (nH×Obj):=(ZF g h L).filter λp=>decide (p.1≠d)
end L2
namespace L2
open PySem PySem.Spec PyProof.Rows
structure Mod(K:mx)(mg:Str->nB mz)(base:oQ):Prop where
 kin:K.In base
 glob:base.Ns mainGlobals mg
 blt:∃mb,base.Ns builtinsNs mb/\∀x:Str,x≠ "__name__"->mb x=bootBuiltins x
 nolimit:base.NoLimit
structure Cx where
 prog:nq
 w:oN
 K:mx
 mg:Str->nB mz
 base:oQ
 A:oU
 N:List Str
 s₀:m8
 H₀:Hp
 env:Env
 outer:List Env
 stack:List Env
 ex:List nH
 fn:Str->oO
 calm:oO
 pn:List (nH×Obj)
 xe:mz->m8->Prop
noncomputable def frs(l:List Env):List nH:=l.filterMap (·.frame)
abbrev Cx.fs(X:Cx):List nH:=frs X.outer
def Vis(sc:rQ)(x:Str):Prop:=sc.names.lookup x=Gc .local\/sc.names.lookup x=Gc .cell\/sc.names.lookup x=Gc .free
def Loc(sc:rQ)(x:Str):Prop:=sc.names.lookup x=Gc .local\/sc.names.lookup x=Gc .cell
def Look(env:Env)(h:oQ)(m:Str->nB mz)(x:Str)(u:mz):Prop:=
 (env.kindOf x=Gc .local/\m x=Gc u)\/((env.kindOf x=Gc .cell\/env.kindOf x=Gc .free)/\∃c,env.cells.lookup x=Gc c/\h.IsCell c (Gc u))
structure Cx.Ok(X:Cx):Prop where
 mod:Mod X.K X.mg X.base
 kind:X.env.scope.kind=.function
 glob:X.env.globals=mainGlobals
 blt:X.env.builtins=builtinsNs
 above:X.s₀.heap.objs.size<=X.env.locals
 inj:∀x y c,X.env.cells.lookup x=Gc c->X.env.cells.lookup y=Gc c->x=y
 has:∀x,(X.env.kindOf x=Gc .cell\/X.env.kindOf x=Gc .free)->∃c,X.env.cells.lookup x=Gc c
 cab:∀x c,X.fn x=true->X.env.cells.lookup x=Gc c->X.s₀.heap.objs.size<=c
 hd:X.calm=true->X.A.handled=none
 frames:X.A.frames=Gc X.stack
 stk:X.stack=X.outer\/(X.stack=X.env::X.outer/\X.env.frame=Gc X.env.locals)
 exf:∀b∈X.ex,b≠X.env.locals/\∀x c,X.env.cells.lookup x=Gc c->c≠b
 bs:∀b o,X.base.get? b=Gc o->X.s₀.heap.get? b=Gc o/\X.H₀ b=none
 bsz:X.base.objs.size<=X.s₀.heap.objs.size
 ZY:∀b o,X.base.get? b=Gc o->b∉X.ex
 bE:∀b∈X.ex,b∉X.fs
 US:X.s₀.heap.FunFrames X.base X.outer
 frf:∀b∈X.fs,X.H₀ b=none
structure Inv(X:Cx)(pins:List (nH×Obj))(σ:List (nB V))(H:Hp)(s:m8):Prop where
 ok:X.Ok
 os:s.os=X.s₀.os
 bare:vP s.gens
 base:Un X.fs X.ex X.H₀ H X.s₀.heap s.heap
 loc:∃m,s.heap.Ns X.env.locals m/\∀(i:Nat) (x:Str) (v:V),X.N[i]?=Gc x->σ[i]?=Gc (Gc v)->Vis X.env.scope x->∃u,RelV v u/\Look X.env s.heap m x u
 cell:∀x c,X.env.cells.lookup x=Gc c->∃v,s.heap.IsCell c v
 free:H X.env.locals=none
 Lv:∀x c,X.env.cells.lookup x=Gc c->H c=none
 pin:∀p∈X.pn++pins,s.heap.get? p.1=Gc p.2/\H p.1=none/\p.1≠X.env.locals/\p.1∉X.fs/\∀v,p.2.data≠.cell v
 hok:HOk X.prog X.w H s.heap
 len:σ.length=X.N.length
section
variable{X:Cx}{pins:List (nH×Obj)}{σ:List (nB V)}{H H':Hp}{s:m8}{h':oQ}
theorem Cx.Ok.mH(ok:X.Ok){b:nH}{o:Obj}(e:X.base.get? b=Gc o):b∉X.fs:=λhb=>by
 have:=(ok.US.mem hb).1
 rw[e]at this;cases this
theorem Inv.bs(I:Inv X pins σ H s):∀b o,X.base.get? b=Gc o->s.heap.get? b=Gc o/\H b=none:=λb o e=>
 ⟨I.base.keep b o (I.ok.bs b o e).1 (I.ok.bs b o e).2 (I.ok.mH e) (I.ok.ZY b o e),I.base.free b o (I.ok.bs b o e).1 (I.ok.bs b o e).2 (I.ok.ZY b o e)⟩
theorem Inv.bk(I:Inv X pins σ H s):∀b o,X.base.get? b=Gc o->s.heap.get? b=Gc o:=λb o e=>(I.bs b o e).1
theorem Inv.mod(I:Inv X pins σ H s):Mod X.K X.mg X.base:=I.ok.mod
theorem Inv.kIn(I:Inv X pins σ H s):X.K.In s.heap:=I.ok.mod.kin.keeps I.bk
theorem Inv.lt(I:Inv X pins σ H s):X.env.locals<s.heap.objs.size:=let⟨_,hn,_⟩:=I.loc;hn.lt
theorem Inv.sz(I:Inv X pins σ H s):X.s₀.heap.objs.size<=s.heap.objs.size:=nL I.ok.above (qJ I.lt)
theorem Inv.mB(I:Inv X pins σ H s){a:nH}(h:s.heap.objs.size<=a):a∉X.fs:=λhb=>by
 obtain⟨_,o,ho,_⟩:=I.ok.US.mem hb
 exact absurd (nE (nS ho) (nL I.sz h)) (pL _)
theorem Inv.cne(I:Inv X pins σ H s):∀x c,X.env.cells.lookup x=Gc c->c≠X.env.locals:=λx c e z=>by
 obtain⟨v,o,ho,hd⟩:=I.cell x c e
 obtain⟨m,⟨o',es,ep,ho',hd',_⟩,_⟩:=I.loc
 rw[z,ho']at ho;cases ho;rw[hd']at hd;cases hd
theorem Inv.US(I:Inv X pins σ H s):s.heap.FunFrames X.base X.outer:=by
 have all:∀(l:List Env),(∀b∈frs l,b∈X.fs)->X.s₀.heap.FunFrames X.base l->s.heap.FunFrames X.base l:=by
  intro l
  induction l with
  |nil=>intro _ _;trivial
  |cons env r ih=>
   intro hs hl
   obtain⟨hk,⟨L,o,hf,hn,ho,hd⟩,hr⟩:=hl
   have hL:L∈X.fs:=hs L (by unfold frs;rw[pI,hf];exact nO)
   obtain⟨sl,e⟩:=I.base.slot L o ho (I.ok.frf L hL) hL λz=>I.ok.bE L z hL
   exact⟨hk,⟨L,_,hf,hn,e,hd⟩,ih (λb hb=>hs b (by unfold frs;rw[pI,hf];exact nC _ hb)) hr⟩
 exact all X.outer (λ_ hb=>hb) I.ok.US
theorem Inv.stack(I:Inv X pins σ H s):s.heap.FunFrames X.base X.stack:=by
 rcases I.ok.stk with e|⟨e,hf⟩
 .rw[e];exact I.US
 .rw[e]
  obtain⟨m,hn,_⟩:=I.loc
  refine .cons (by rw[I.ok.kind];decide) hf hn ?_ I.US
  exact Heap.get?_none_of_le (nL I.ok.bsz I.ok.above)
theorem Inv.SY(I:Inv X pins σ H s):∀b∈frs X.stack,b∈X.env.locals::X.fs:=λb hb=>by
 rcases I.ok.stk with e|⟨e,hf⟩
 .rw[e]at hb;exact nC _ hb
 .rw[e]at hb
  unfold frs at hb
  rw[pI,hf]at hb
  exact hb
theorem Inv.TJ(I:Inv X pins σ H s):∀b∈frs X.stack,H b=none:=λb hb=>by
 rcases nK.mp (I.SY b hb)with e|hb
 .rw[e];exact I.free
 .obtain⟨_,o,ho,_⟩:=I.ok.US.mem hb
  exact I.base.free b o ho (I.ok.frf b hb) λz=>I.ok.bE b z hb
theorem Inv.step{g':oH z7}{t':Nat}{d':Drawn}{ch:List nH}(I:Inv X pins σ H s)(hch:∀b∈ch,(b∈X.ex\/X.s₀.heap.objs.size<=b)/\b≠X.env.locals/\(∀x c,X.env.cells.lookup x=Gc c->c≠b)/\∀p∈X.pn++pins,p.1≠b)(keep:∀b o,b≠X.env.locals->b∉X.fs->b∉ch->s.heap.get? b=Gc o->H b=none->h'.get? b=Gc o)(slot:∀b o,b≠X.env.locals->b∈X.fs->b∉ch->s.heap.get? b=Gc o->H b=none->∃sl,h'.get? b=Gc {o with slots:=sl})(free:∀b o,b∉ch->s.heap.get? b=Gc o->H b=none->H' b=none)(there:∀b o,b∉ch->s.heap.get? b=Gc o->∃o',h'.get? b=Gc o')(Up:∀b xs,H b=Gc (.tup xs)->H' b=Gc (.tup xs))(Xz:∀b o u,H b=Gc (.frz o u)->H' b=Gc (.frz o u))(YD:∀b ps,H b=Gc (.tbl ps)->∃more,H' b=Gc (.tbl (ps++more)))(ns:∀m,s.heap.Ns X.env.locals m->h'.Ns X.env.locals m)(hok:HOk X.prog X.w H' h')(hg:vP g'):Inv X pins σ H' {s with heap:=h',gens:=g',drawn:=d',toks:=t'}:=by
 have neL:∀b o,X.s₀.heap.get? b=Gc o->b≠X.env.locals:=λb o e=>nV (nE (nS e) I.ok.above)
 have neC:∀b o,X.s₀.heap.get? b=Gc o->b∉X.ex->b∉ch:=λb o e hx hb=>by
  rcases(hch b hb).1 with z|z
  .exact hx z
  .exact absurd (nE (nS e) z) (pL _)
 have cellK:∀x c,X.env.cells.lookup x=Gc c->∀v,s.heap.IsCell c v->h'.IsCell c v:=λx c e v ⟨o,ho,hd⟩=>by
  have nch:c∉ch:=λz=>(hch c z).2.2.1 x c e rfl
  by_cases hc:c∈X.fs
  .obtain⟨sl,q⟩:=slot c o (I.cne x c e) hc nch ho (I.Lv x c e)
   exact⟨_,q,hd⟩
  .exact⟨o,keep c o (I.cne x c e) hc nch ho (I.Lv x c e),hd⟩
 refine⟨I.ok,I.os,hg,⟨λb o e n hb hx=>?_,λb o e n hb hx=>?_,λb o e n hx=>?_,λb o e hx=>?_,λb xs e=>Up b xs (I.base.Up b xs e),λb o xs e=>Xz b o xs (I.base.Xz b o xs e),λb ps e=>?_⟩,?_,λx c e=>?_,?_,λx c e=>?_,λp hp=>?_,hok,I.len⟩
 .exact keep b o (neL b o e) hb (neC b o e hx) (I.base.keep b o e n hb hx) (I.base.free b o e n hx)
 .obtain⟨sl,e1⟩:=I.base.slot b o e n hb hx
  obtain⟨sl',e2⟩:=slot b _ (neL b o e) hb (neC b o e hx) e1 (I.base.free b o e n hx)
  exact⟨sl',e2⟩
 .obtain⟨o',e1⟩:=I.base.there b o e hx
  exact free b o' (neC b o e hx) e1 (I.base.free b o e n hx)
 .obtain⟨o',e1⟩:=I.base.there b o e hx
  exact there b o' (neC b o e hx) e1
 .obtain⟨m1,e1⟩:=I.base.YD b ps e
  obtain⟨m2,e2⟩:=YD b _ e1
  exact⟨m1++m2,by rw[e2,Array.append_assoc]⟩
 .obtain⟨m,hn,hl⟩:=I.loc
  refine⟨m,ns m hn,λi x v e1 e2 e3=>?_⟩
  obtain⟨u,r,l⟩:=hl i x v e1 e2 e3
  refine⟨u,r,?_⟩
  rcases l with l|⟨k,c,e,z⟩
  .exact .inl l
  .exact .inr ⟨k,c,e,cellK x c e _ z⟩
 .obtain⟨v,z⟩:=I.cell x c e
  exact⟨v,cellK x c e v z⟩
 .obtain⟨m,⟨o,_,_,ho,_⟩,_⟩:=I.loc
  exact free _ o (λz=>(hch _ z).2.1 rfl) ho I.free
 .obtain⟨v,o,ho,hd⟩:=I.cell x c e
  exact free c o (λz=>(hch c z).2.2.1 x c e rfl) ho (I.Lv x c e)
 .obtain⟨e,n,ne,nf,d⟩:=I.pin p hp
  have nch:p.1∉ch:=λz=>(hch p.1 z).2.2.2 p hp rfl
  exact⟨keep p.1 p.2 ne nf nch e n,free p.1 p.2 nch e n,ne,nf,d⟩
theorem Inv.un{t':Nat}(I:Inv X pins σ H s)(u:Un X.fs [] H H' s.heap h')(hok:HOk X.prog X.w H' h'):Inv X pins σ H' {s with heap:=h',toks:=t'}:=by
 obtain⟨m,⟨o,es,ep,ho,r⟩,_⟩:=id I.loc
 obtain⟨sl,hL⟩:=u.any ho I.free (by simp)
 exact I.step (g':=s.gens) (d':=s.drawn) (ch:=[]) (λ_ z=>nomatch z) (λb o _ hb _ e n=>u.keep b o e n hb (by simp)) (λb o _ hb _ e n=>u.slot b o e n hb (by simp)) (λb o _ e n=>u.free b o e n (by simp)) (λb o _ e=>u.there b o e (by simp)) u.Up u.Xz u.YD (λm' hm=>by
  obtain⟨o',es',ep',ho',r'⟩:=hm
  rw[ho]at ho';cases ho'
  exact⟨_,es',ep',hL,r'⟩) hok I.bare
theorem Inv.call{g':oH z7}{t':Nat}{d':Drawn}{ch:List nH}(I:Inv X pins σ H s)(u:Un (frs X.stack) ch H H' s.heap h')(hok:HOk X.prog X.w H' h')(hg:vP g')(hch:∀b∈ch,(b∈X.ex\/X.s₀.heap.objs.size<=b)/\b≠X.env.locals/\(∀x c,X.env.cells.lookup x=Gc c->c≠b)/\∀p∈X.pn++pins,p.1≠b):Inv X pins σ H' {s with heap:=h',gens:=g',drawn:=d',toks:=t'}:=by
 obtain⟨m,⟨o,es,ep,ho,r⟩,_⟩:=id I.loc
 obtain⟨sl,hL⟩:=u.any ho I.free λz=>(hch _ z).2.1 rfl
 exact I.step (ch:=ch) hch (λb o hL hb hc e n=>u.keep b o e n (λz=>(nK.mp (I.SY b z)).elim hL hb) hc) (λb o _ _ hc e n=>u.any e n hc) (λb o hc e n=>u.free b o e n hc) (λb o hc e=>u.there b o e hc) u.Up u.Xz u.YD (λm' hm=>by
  obtain⟨o',es',ep',ho',r'⟩:=hm
  rw[ho]at ho';cases ho'
  exact⟨_,es',ep',hL,r'⟩) hok hg
theorem Inv.turned{t':Nat}{it:nH}(I:Inv X pins σ H s)(k:∀b o,b≠it->s.heap.get? b=Gc o->h'.get? b=Gc o)(hn:H it=none)(hL:it≠X.env.locals)(h1:it∈X.ex\/X.s₀.heap.objs.size<=it)(h2:∀x c,X.env.cells.lookup x=Gc c->c≠it)(h3:∀p∈X.pn++pins,p.1≠it):Inv X pins σ H {s with heap:=h',toks:=t'}:=by
 have nit:∀b u,H b=Gc u->b≠it:=λb u e z=>by rw[z,hn]at e;cases e
 refine I.step (g':=s.gens) (d':=s.drawn) (ch:=[it]) (λb hb=>?_) (λb o _ _ hc e _=>k b o (λz=>hc (by simp[z])) e) (λb o _ _ hc e _=>⟨o.slots,k b o (λz=>hc (by simp[z])) e⟩) (λ_ _ _ _ n=>n)
  (λb o hc e=>⟨o,k b o (λz=>hc (by simp[z])) e⟩) (λ_ _ e=>e) (λ_ _ _ e=>e) (λb ps e=>⟨#[],by rw[e];simp⟩) (λm hm=>?_) (λb u e=>?_) I.bare
 .have e:b=it:=by simpa using hb
  subst e
  exact⟨h1,hL,h2,h3⟩
 .obtain⟨o,es,ep,ho,r⟩:=hm
  exact⟨o,es,ep,k _ o (pV hL) ho,r⟩
 .refine(I.hok b u e).We (λc v hc q=>k c v ?_ q) (λ_ q=>q) λ_ _ q=>q
  rcases hc with z|z
  .rw[z];exact nit b u e
  .exact nit c _ z
theorem Inv.tok(I:Inv X pins σ H s)(t:Nat):Inv X pins σ H {s with toks:=t}:=I.un (h':=s.heap) (t':=t) Un.refl I.hok
theorem Inv.kept{t':Nat}(I:Inv X pins σ H s)(k:∀b u,s.heap.get? b=Gc u->h'.get? b=Gc u):Inv X pins σ H {s with heap:=h',toks:=t'}:=I.un (Un.kept k) (I.hok.kept k)
theorem Inv.laid{a:nH}{o:HO}{t':Nat}(I:Inv X pins σ H s)(k:∀b u,s.heap.get? b=Gc u->h'.get? b=Gc u)(hp:s.heap.objs.size<=a)(new:Dr X.prog X.w (upd H a o) h' a o):Inv X pins σ (upd H a o) {s with heap:=h',toks:=t'}:=I.un (Un.laid k hp (I.hok.fresh hp)) (I.hok.laid k hp new)
theorem Inv.write{x e:nH}{o:HO}{t':Nat}(I:Inv X pins σ H s)(mu:Mut (H x))(he:e=x\/H e=Gc (.own x))(k:∀b u,b≠e->s.heap.get? b=Gc u->h'.get? b=Gc u)(heo:∃u,h'.get? e=Gc u)(new:Dr X.prog X.w (upd H x o) h' x o):Inv X pins σ (upd H x o) {s with heap:=h',toks:=t'}:=I.un (Un.write mu he k heo) (I.hok.write mu he k heo new)
theorem Inv.To{pins':List (nH×Obj)}(I:Inv X pins σ H s)(h:∀p∈pins',s.heap.get? p.1=Gc p.2/\H p.1=none/\p.1≠X.env.locals/\p.1∉X.fs/\∀v,p.2.data≠.cell v):Inv X pins' σ H s:=
 ⟨I.ok,I.os,I.bare,I.base,I.loc,I.cell,I.free,I.Lv,λp hp=>(oC.mp hp).elim (λz=>I.pin p (sX _ z)) (h p),I.hok,I.len⟩
theorem Q3{N:List Str}(hN:N.Nodup){i j:Nat}{x:Str}(a:N[i]?=Gc x)(b:N[j]?=Gc x):i=j:=by
 obtain⟨h1,e1⟩:=nP.mp a
 obtain⟨h2,e2⟩:=nP.mp b
 exact(sf hN).mp (e1.trans e2.symm)
theorem OP{M:Model}{A:oU}{E:mz->m8->Prop}{i:Nat}{x:Str}{v:V}{u:mz}{Q:Unit->m8->Prop}(I:Inv X pins σ H s)(hN:X.N.Nodup)(hi:X.N[i]?=Gc x)(hx:Loc X.env.scope x)(r:RelV v u)(h:∀s',Inv X pins (σ.set i (Gc v)) H s'->(∃a,qf a s.heap s'.heap/\(a=X.env.locals\/X.env.cells.lookup x=Gc a))->Q () s')(hf:X.fn x=true\/X.env.scope.names.lookup x=Gc .local:=by first|exact .inl rfl|exact .inr rfl|assumption):wpAny M A (storeName X.env x u) Q E s:=by
 obtain⟨m,hn,hl⟩:=id I.loc
 have hcls:(X.env.scope.kind== .class||(X.env.scope.kind== .module && X.env.locals !=X.env.globals))=false:=by rw[I.ok.kind];rfl
 have hiσ:i<σ.length:=by rw[I.len];exact(nP.mp hi).1
 have cne:=I.cne
 have tracked:∀{a:nH} {h':oQ},(∃o,s.heap.get? a=Gc o/\H a=none)->qf a s.heap h'->HOk X.prog X.w H h':=λ{a h'} ha hs b ob e=>by
  obtain⟨_,_,hfree⟩:=ha
  refine(I.hok b ob e).We (λc w' hc q=>(hs.2 c ?_).trans q) (λ_ q=>q) λ_ _ q=>q
  rintro rfl
  rcases hc with rfl|hc
  .rw[hfree]at e;cases e
  .rw[hfree]at hc;cases hc
 rcases hx with hk|hk
 .refine wpAny_storeName_local hk hn (λh' hn' hs=>?_) hcls
  obtain⟨oL,_,_,hoL,_⟩:=id hn
  refine h _ ⟨I.ok,I.os,I.bare,⟨λb o e n hb hx=>?_,λb o e n hb hx=>?_,I.base.free,λb o e hx=>?_,I.base.Up,I.base.Xz,I.base.YD⟩,⟨_,hn',λj y v' e1 e2 e3=>?_⟩,λy c e=>?_,I.free,I.Lv,λp hp=>?_,tracked ⟨oL,hoL,I.free⟩ hs,by simpa using I.len⟩ ⟨_,hs,.inl rfl⟩
  .exact(hs.2 b (nV (nE (nS e) I.ok.above))).trans (I.base.keep b o e n hb hx)
  .obtain⟨sl,e1⟩:=I.base.slot b o e n hb hx
   exact⟨sl,(hs.2 b (nV (nE (nS e) I.ok.above))).trans e1⟩
  .obtain⟨o',e1⟩:=I.base.there b o e hx
   exact⟨o',(hs.2 b (nV (nE (nS e) I.ok.above))).trans e1⟩
  .by_cases hj:j=i
   .subst hj
    rw[hi]at e1;cases e1
    rw[nU hiσ]at e2
    cases e2
    exact⟨u,r,.inl ⟨hk,by simp⟩⟩
   .rw[nI (pV hj)]at e2
    obtain⟨u',r',q⟩:=hl j y v' e1 e2 e3
    refine⟨u',r',?_⟩
    rcases q with⟨k,e⟩|⟨k,c,e,z⟩
    .refine .inl ⟨k,?_⟩
     have:y≠x:=λe=>hj (Q3 hN e1 (e▸hi))
     simp[this,e]
    .exact .inr ⟨k,c,e,z.sameBut hs (cne y c e)⟩
  .obtain⟨w',z⟩:=I.cell y c e
   exact⟨w',z.sameBut hs (cne y c e)⟩
  .obtain⟨e,n,ne,nf,d⟩:=I.pin p hp
   exact⟨(hs.2 p.1 ne).trans e,n,ne,nf,d⟩
 .have hfn:X.fn x=true:=by
   rcases hf with z|z
   .exact z
   .rw[z]at hk;cases hk
  obtain⟨c,hc⟩:=I.ok.has x (.inl hk)
  obtain⟨w',z⟩:=I.cell x c hc
  refine wpAny_storeName_cell I.ok.kind hk hc z (λh' hc' hs=>?_)
  obtain⟨oc,hoc,hocd⟩:=id z
  refine h {s with heap:=h'} ⟨I.ok,I.os,I.bare,⟨λb o e n hb hx=>?_,λb o e n hb hx=>?_,I.base.free,λb o e hx=>?_,I.base.Up,I.base.Xz,I.base.YD⟩,⟨m,hn.sameBut hs (pV (cne x c hc)),λj y v' e1 e2 e3=>?_⟩,λy c' e=>?_,I.free,I.Lv,λp hp=>?_,tracked ⟨oc,hoc,I.Lv x c hc⟩ hs,by simpa using I.len⟩ ⟨c,hs,.inr hc⟩
  .exact(hs.2 b (nV (nE (nS e) (I.ok.cab x c hfn hc)))).trans (I.base.keep b o e n hb hx)
  .obtain⟨sl,e1⟩:=I.base.slot b o e n hb hx
   exact⟨sl,(hs.2 b (nV (nE (nS e) (I.ok.cab x c hfn hc)))).trans e1⟩
  .obtain⟨o',e1⟩:=I.base.there b o e hx
   exact⟨o',(hs.2 b (nV (nE (nS e) (I.ok.cab x c hfn hc)))).trans e1⟩
  .by_cases hj:j=i
   .subst hj
    rw[hi]at e1;cases e1
    rw[nU hiσ]at e2
    cases e2
    exact⟨u,r,.inr ⟨.inl hk,c,hc,hc'⟩⟩
   .rw[nI (pV hj)]at e2
    obtain⟨u',r',q⟩:=hl j y v' e1 e2 e3
    refine⟨u',r',?_⟩
    rcases q with q|⟨k,c',e,z'⟩
    .exact .inl q
    .refine .inr ⟨k,c',e,z'.sameBut hs ?_⟩
     rintro rfl
     exact hj (Q3 hN e1 (I.ok.inj _ _ _ e hc▸hi))
  .by_cases hcc:c'=c
   .subst hcc;exact⟨_,hc'⟩
   .obtain⟨w2,z2⟩:=I.cell y c' e
    exact⟨w2,z2.sameBut hs hcc⟩
  .obtain⟨e,n,ne,nf,d⟩:=I.pin p hp
   refine⟨(hs.2 p.1 ?_).trans e,n,ne,nf,d⟩
   intro q
   rw[q,hoc]at e
   have q':oc=p.2:=pD e
   exact d w' (by rw[<-q'];exact hocd)
theorem Kq{M:Model}{A:oU}{E:mz->m8->Prop}{i:Nat}{x:Str}{v:V}{u:mz}{Q:Unit->m8->Prop}(I:Inv X pins σ H s)(hN:X.N.Nodup)(hi:X.N[i]?=Gc x)(hx:Loc X.env.scope x)(r:RelV v u)(h:∀s',Inv X pins (σ.set i (Gc v)) H s'->Q () s')(hf:X.fn x=true\/X.env.scope.names.lookup x=Gc .local:=by first|exact .inl rfl|exact .inr rfl|assumption):wpAny M A (storeName X.env x u) Q E s:=
 OP I hN hi hx r (λs' I' _=>h s' I') hf
theorem Inv.iH{s':m8}{ch:List nH}(I:Inv X pins σ H s)(ho:s'.os=s.os)(u:Un (frs X.stack) ch H H' s.heap s'.heap)(hok:HOk X.prog X.w H' s'.heap)(hg:vP s'.gens)(hch:∀b∈ch,(b∈X.ex\/X.s₀.heap.objs.size<=b)/\b≠X.env.locals/\(∀x c,X.env.cells.lookup x=Gc c->c≠b)/\∀p∈X.pn++pins,p.1≠b):Inv X pins σ H' s':=by
 obtain⟨h',g',d',t',o'⟩:=s'
 have e:o'=s.os:=ho
 subst e
 exact I.call (g':=g') (t':=t') (d':=d') u hok hg hch
end
abbrev XK:=mz->nB nH->Hp->Prop
abbrev St:=List (nB V)
abbrev VK:=V->Hp->Prop
abbrev TE:=St->Hp->VK->Prop
abbrev TT:=St->Hp->(oO->Hp->Prop)->Prop
abbrev TA:=St->Hp->(List V->Hp->Prop)->Prop
structure Ends where
 nx:St->Hp->Prop
 rt:VK
 bk:St->Hp->Prop:=λ_ _=>sH
 ct:St->Hp->Prop:=λ_ _=>sH
abbrev TS:=Ends->St->Hp->Prop
def EP(X:Cx)(pins:List (nH×Obj))(σ:St)(Q:VK)(u:mz)(s':m8):Prop:=∃v H',Inv X pins σ H' s'/\RelV v u/\Q v H'
def TP(X:Cx)(pins:List (nH×Obj))(σ:St)(Q:oO->Hp->Prop)(b:oO)(s':m8):Prop:=∃H',Inv X pins σ H' s'/\Q b H'
def AP(X:Cx)(pins:List (nH×Obj))(σ:St)(Q:List V->Hp->Prop)(us:List mz)(s':m8):Prop:=∃vs H',Inv X pins σ H' s'/\Vals vs us/\Q vs H'
def SP(X:Cx)(pins:List (nH×Obj))(D:Ends)(f:Flow)(s':m8):Prop:=
 match f with
 | .next=>∃σ' H',Inv X pins σ' H' s'/\D.nx σ' H'
 | .brk=>∃σ' H',Inv X pins σ' H' s'/\D.bk σ' H'
 | .cont=>∃σ' H',Inv X pins σ' H' s'/\D.ct σ' H'
 | .ret u=>∃v σ' H',Inv X pins σ' H' s'/\RelV v u/\D.rt v H'
def PE(X:Cx)(e:oI)(t:TE):Prop:=
 ∀(pins:List (nH×Obj)) (s:m8) (σ:St) (H:Hp) (Q:VK),Inv X pins σ H s->t σ H Q->wpAny (model X.prog X.w) X.A (eval e X.env) (EP X pins σ Q) X.xe s
def PT(X:Cx)(e:oI)(t:TT):Prop:=
 ∀(pins:List (nH×Obj)) (s:m8) (σ:St) (H:Hp) (Q:oO->Hp->Prop),Inv X pins σ H s->t σ H Q->wpAny (model X.prog X.w) X.A (isTrue e X.env (eval e X.env)) (TP X pins σ Q) X.xe s
def PW(X:Cx)(e:oI)(t:TT):Prop:=
 ∀(whole:Sem mz) (pins:List (nH×Obj)) (s:m8) (σ:St) (H:Hp) (Q:oO->Hp->Prop),Inv X pins σ H s->t σ H Q->wpAny (model X.prog X.w) X.A (isTrue e X.env whole) (TP X pins σ Q) X.xe s
theorem PW.pt{X:Cx}{e:oI}{t:TT}(h:PW X e t):PT X e t:=h _
def PA(X:Cx)(es:List oI)(t:TA):Prop:=
 ∀(pos:Pos) (pins:List (nH×Obj)) (s:m8) (σ:St) (H:Hp) (Q:List V->Hp->Prop),Inv X pins σ H s->t σ H Q->wpAny (model X.prog X.w) X.A (spliced (backTo pos (nv es X.env))) (AP X pins σ Q) X.xe s
def PS(X:Cx)(st:pN)(t:TS):Prop:=
 ∀(pins:List (nH×Obj)) (s:m8) (σ:St) (H:Hp) (D:Ends),Inv X pins σ H s->t D σ H->wpAny (model X.prog X.w) X.A (exec st X.env) (SP X pins D) X.xe s
def PSs(X:Cx)(st:List pN)(t:TS):Prop:=
 ∀(pins:List (nH×Obj)) (s:m8) (σ:St) (H:Hp) (D:Ends),Inv X pins σ H s->t D σ H->wpAny (model X.prog X.w) X.A (execs st X.env) (SP X pins D) X.xe s
theorem thn{α:Type}{t:Sem α}{Q Q':α->m8->Prop}{M:Model}{A:oU}{E:mz->m8->Prop}{s:m8}(h:wpAny M A t Q E s)(hQ:∀a s,Q a s->Q' a s):wpAny M A t Q' E s:=uw h hQ λ_ _ x=>x
end L2
namespace L2
open PySem PySem.Spec PyProof.Rows
section
variable{X:Cx}
noncomputable def kB(i:Nat):TE:=λσ H Q=>∃v,σ[i]?=Gc (Gc v)/\Q v H
noncomputable def tC(v:V):TE:=λ_ H Q=>Q v H
theorem YM{i:Nat}{x:Str}{pos:Pos}(hN:X.N[i]?=Gc x)(hv:Vis X.env.scope x)(hd:(x==("__debug__":Str))=false:=by decide)(hcd:(x==("__classdict__":Str))=false:=by decide):PE X (.Name x pos) (kB i):=by
 intro pins s σ H Q I h
 obtain⟨v,e,h⟩:=h
 obtain⟨m,hn,hl⟩:=I.loc
 obtain⟨u,r,l⟩:=hl i x v hN e hv
 have fin:EP X pins σ Q u s:=⟨v,H,I,r,h⟩
 rcases l with⟨hk,hm⟩|⟨hk,c,hc,hcell⟩
 .exact z8 (wpAny_loadName_local I.ok.kind hk hn hm fin) hd
 .rcases hk with hk|hk
  .exact z8 (wpAny_loadName_cell I.ok.kind hk hc hcell fin) hd
  .exact z8 (wpAny_loadName_free I.ok.kind hk hc hcell fin hcd) hd
theorem dQ{i j pos}:PE X (.Constant (.int i) j pos) (tC (.int i)):=λ_ _ _ H _ I h=>wpAny_Constant_int ⟨.int i,H,I.tok _,⟨_,rfl⟩,h⟩
theorem jF{b j pos}:PE X (.Constant (.bool b) j pos) (tC (.bl b)):=λ_ _ _ H _ I h=>Constant_bool ⟨.bl b,H,I,rfl,h⟩
theorem bF{j pos}:PE X (.Constant .none j pos) (tC .non):=λ_ _ _ H _ I h=>Constant_none ⟨.non,H,I,rfl,h⟩
theorem dg{x j pos}:PE X (.Constant (.str x) j pos) (tC (.str x)):=λ_ _ _ H _ I h=>Calls.Constant_str ⟨.str x,H,I.tok _,⟨_,rfl⟩,h⟩
def Gl(X:Cx)(x:Str):Prop:=X.env.kindOf x=Gc .globalImplicit
theorem SF{E:mz->m8->Prop}{pins:List (nH×Obj)}{s:m8}{σ:St}{H:Hp}{x:Str}{u:mz}{pos:Pos}{Q:mz->m8->Prop}(I:Inv X pins σ H s)(hg:Gl X x)(hm:X.mg x=Gc u)(h:Q u s)(hd:(x==("__debug__":Str))=false:=by decide):wpAny (model X.prog X.w) X.A (eval (.Name x pos) X.env) Q E s:=
 ux I.ok.kind hg (Calls.loadGlobal_global (by rw[I.ok.glob];exact I.mod.glob.keeps I.bk) hm h) hd
theorem JW{E:mz->m8->Prop}{pins:List (nH×Obj)}{s:m8}{σ:St}{H:Hp}{x:Str}{u:mz}{pos:Pos}{Q:mz->m8->Prop}(I:Inv X pins σ H s)(hg:Gl X x)(hm:X.mg x=none)(hv:bootBuiltins x=Gc u)(h:Q u s)(hn:x≠ "__name__":=by decide)(hd:(x==("__debug__":Str))=false:=by decide):wpAny (model X.prog X.w) X.A (eval (.Name x pos) X.env) Q E s:=by
 obtain⟨mb,h1,h2⟩:=I.mod.blt
 exact ux I.ok.kind hg (Calls.loadGlobal_builtin (by rw[I.ok.glob];exact I.mod.glob.keeps I.bk) hm (by rw[I.ok.blt];exact h1.keeps I.bk) ((h2 x hn).trans hv) h) hd
theorem Z3{x:Str}{v:V}{u:mz}{pos:Pos}(hg:Gl X x)(hm:X.mg x=Gc u)(r:RelV v u)(hd:(x==("__debug__":Str))=false:=by decide):PE X (.Name x pos) (tC v):=
 λ_ _ _ H _ I h=>SF I hg hm ⟨v,H,I,r,h⟩ hd
theorem ZI{x:Str}{v:V}{u:mz}{pos:Pos}(hg:Gl X x)(hm:X.mg x=none)(hv:bootBuiltins x=Gc u)(r:RelV v u)(hn:x≠ "__name__":=by decide)(hd:(x==("__debug__":Str))=false:=by decide):PE X (.Name x pos) (tC v):=
 λ_ _ _ H _ I h=>JW I hg hm hv ⟨v,H,I,r,h⟩ hn hd
variable{a b:oI}{ta tb:TE}{pos:Pos}
noncomputable def tB(t:TE):TT:=λσ H Q=>t σ H λx H1=>∃c,x=.bl c/\Q c H1
theorem bX{e:oI}{t:TE}(h:PE X e t)(he:∀whole,isTrue e X.env whole=(do let v<-whole;standAt e.pos;holding [v] (truthy v)):=by intro _;rfl):PT X e (tB t):=by
 intro pins s σ H Q I hw
 refine isTrue_plain (thn (h pins s σ H _ I hw) λv s1 ⟨x,H1,I1,r1,q1⟩=>?_) (he _)
 obtain⟨d,rfl,q⟩:=q1
 cases r1
 exact tz ⟨H1,I1,q⟩
variable{tA tB':TT}{rest:List oI}
noncomputable def lM(t u:TT):TT:=λσ H Q=>t σ H λc H1=>if c=true then u σ H1 Q else Q false H1
noncomputable def tOr(t u:TT):TT:=λσ H Q=>t σ H λc H1=>if c=true then Q true H1 else u σ H1 Q
noncomputable def ko(t:TT):TT:=λσ H Q=>t σ H λc H1=>Q (!c) H1
theorem Y1(ha:PT X a tA):PW X (.BoolOp .And [a] pos) tA:=by
 intro wh pins s σ H Q I h
 refine isTrue_and (thn (ha pins s σ H Q I h) λc s1 e=>?_)
 cases c with
 |true=>exact isTrue_and_nil e
 |false=>exact e
theorem bI(ha:PT X a tA):PW X (.BoolOp .Or [a] pos) tA:=by
 intro wh pins s σ H Q I h
 refine isTrue_or (thn (ha pins s σ H Q I h) λc s1 e=>?_)
 cases c with
 |false=>exact isTrue_or_nil e
 |true=>exact e
theorem cP(ha:PT X a tA)(hb:PW X (.BoolOp .And (b::rest) pos) tB'):PW X (.BoolOp .And (a::b::rest) pos) (lM tA tB'):=by
 intro wh pins s σ H Q I h
 refine isTrue_and (thn (ha pins s σ H _ I h) λc s1 ⟨H1,I1,q1⟩=>?_)
 cases c with
 |true=>exact hb wh pins s1 σ H1 Q I1 q1
 |false=>exact⟨H1,I1,q1⟩
theorem jD(ha:PT X a tA)(hb:PW X (.BoolOp .Or (b::rest) pos) tB'):PW X (.BoolOp .Or (a::b::rest) pos) (tOr tA tB'):=by
 intro wh pins s σ H Q I h
 refine isTrue_or (thn (ha pins s σ H _ I h) λc s1 ⟨H1,I1,q1⟩=>?_)
 cases c with
 |true=>exact⟨H1,I1,q1⟩
 |false=>exact hb wh pins s1 σ H1 Q I1 q1
theorem dh(ha:PT X a tA):PT X (.UnaryOp .Not a pos) (ko tA):=by
 intro pins s σ H Q I h
 exact isTrue_not (ha pins s σ H (λc H1=>Q (!c) H1) I h)
noncomputable def jW(ta tb:TE):TE:=λσ H Q=>ta σ H λx H1=>∃c,x=.bl c/\if c=true then tb σ H1 Q else Q (.bl false) H1
noncomputable def jP(ta:TE):TE:=λσ H Q=>ta σ H λx H1=>∃c,x=.bl c/\Q (.bl (!c)) H1
theorem cc{op}{t:TE}(h:PE X a t):PE X (.BoolOp op [a] pos) t:=λpins s σ H Q I hw=>BoolOp_one (h pins s σ H Q I hw)
theorem cR(ha:PE X a ta)(hb:PE X (.BoolOp .And (b::rest) pos) tb):PE X (.BoolOp .And (a::b::rest) pos) (jW ta tb):=by
 intro pins s σ H Q I h
 refine BoolOp_and (thn (ha pins s σ H _ I h) λv s1 ⟨x,H1,I1,r1,q1⟩=>?_)
 obtain⟨c,rfl,q1⟩:=q1
 cases r1
 refine tz ?_
 cases c with
 |true=>exact hb pins s1 σ H1 Q I1 q1
 |false=>exact⟨.bl false,H1,I1,rfl,q1⟩
theorem cJ(ha:PE X a ta):PE X (.UnaryOp .Not a pos) (jP ta):=by
 intro pins s σ H Q I h
 refine UnaryOp_ (thn (ha pins s σ H _ I h) λv s1 ⟨x,H1,I1,r1,q1⟩=>?_)
 obtain⟨c,rfl,q1⟩:=q1
 cases r1
 exact not_of (tz ⟨.bl (!c),H1,I1,rfl,q1⟩)
noncomputable def tIf(t:TT)(ta tb:TE):TE:=λσ H Q=>t σ H λc H1=>if c=true then ta σ H1 Q else tb σ H1 Q
theorem XU{c:oI}(hc:PT X c tA)(ha:PE X a ta)(hb:PE X b tb):PE X (.IfExp c a b pos) (tIf tA ta tb):=by
 intro pins s σ H Q I h
 refine wpAny_IfExp (thn (hc pins s σ H _ I h) λd s1 ⟨H1,I1,q1⟩=>?_)
 cases d with
 |true=>exact ha pins s1 σ H1 Q I1 q1
 |false=>exact hb pins s1 σ H1 Q I1 q1
end
end L2
namespace L2
open PySem PySem.Spec PyProof.Rows
def SqL(K:mx)(H:Hp)(a:nH)(xs:List V):Prop:=
 Rd H a (.lst xs)∨
  ∃(o:Obj) (its:oH mz) (n:Nat),K.lookup a=Gc o/\o.cls=.type "list" /\o.dict=none/\o.data=.seq its n/\its.size<=sizeLine/\Vals xs its.toList
def SqT(K:mx)(H:Hp)(a:nH)(xs:List V):Prop:=
 Rd H a (.tup xs)∨
  ∃(o:Obj) (its:oH mz) (n:Nat),K.lookup a=Gc o/\o.cls=.type "tuple" /\o.data=.seq its n/\its.size<=sizeLine/\Vals xs its.toList
noncomputable def k9:mz->nB V
 | .none=>Gc .non
 | .bool b=>Gc (.bl b)
 | .int i _=>Gc (.int i)
 | .str x _=>Gc (.str x)
 | .bytes b _=>Gc (.byt b)
 | .float b _=>Gc (.flt b)
 | .ref a=>Gc (.ref a)
 | .type n=>Gc (.ty n)
 |_=>none
theorem RelV.abs{x:V}{u:mz}(r:RelV x u):k9 u=Gc x:=by
 cases x with
 |non=>cases r;rfl
 |bl _=>cases r;rfl
 |int _=>obtain⟨t,rfl⟩:=r;rfl
 |str _=>obtain⟨t,rfl⟩:=r;rfl
 |byt _=>obtain⟨t,rfl⟩:=r;rfl
 |flt _=>obtain⟨t,rfl⟩:=r;rfl
 |ref _=>cases r;rfl
 |ty _=>cases r;rfl
theorem RelV.inj{x y:V}{u:mz}(r:RelV x u)(q:RelV y u):x=y:=pD (r.abs.symm.trans q.abs)
theorem Vals.inj:∀{xs ys:List V} {us:List mz},Vals xs us->Vals ys us->xs=ys
 |_,_,_,.nil,.nil=>rfl
 |_,_,_,.cons r t,.cons r' t'=>by rw[r.inj r',Vals.inj t t']
section
variable{X:Cx}{pins:List (nH×Obj)}{σ:St}{H:Hp}{s:m8}{a:nH}{xs ys:List V}
theorem SqL.of{K:mx}(h:H a=Gc (.lst xs)):SqL K H a xs:=.inl (.inl h)
theorem SqT.of{K:mx}(h:H a=Gc (.tup xs)):SqT K H a xs:=.inl (.inl h)
theorem Inv.list(I:Inv X pins σ H s)(h:SqL X.K H a xs):∃its:List mz,Vals xs its/\PlainL s.heap a its.toArray/\xs.length<=sizeLine:=by
 rcases h with h|⟨o,its,n,hk,hc,hd,hs,hz,r⟩
 .obtain⟨z,its,n,r,e⟩:=h.ok I.hok
  exact⟨its,r,⟨_,n,e,rfl,rfl,rfl⟩,z⟩
 .refine⟨its.toList,r,⟨o,n,I.kIn a o hk,hc,hd,by simpa using hs⟩,?_⟩
  have e:=r.length
  simp only[pP]at e
  lia
theorem Inv.tuple(I:Inv X pins σ H s)(h:SqT X.K H a xs):∃its:List mz,Vals xs its/\IsTup s.heap a its.toArray/\xs.length<=sizeLine:=by
 rcases h with h|⟨o,its,n,hk,hc,hs,hz,r⟩
 .obtain⟨z,its,r,p⟩:=h.ok I.hok
  exact⟨its,r,p,z⟩
 .refine⟨its.toList,r,⟨o,I.kIn a o hk,hc,n,by simpa using hs⟩,?_⟩
  have e:=r.length
  simp only[pP]at e
  lia
theorem Inv.Qz(I:Inv X pins σ H s)(h:SqL X.K H a xs)(h':SqL X.K H a ys):xs=ys:=by
 obtain⟨its,r,⟨o,n,e,_,_,d⟩,_⟩:=I.list h
 obtain⟨its',r',⟨o',n',e',_,_,d'⟩,_⟩:=I.list h'
 rw[e]at e';cases e'
 rw[d]at d'
 injection d' with d1 _
 have:its=its':=by simpa using congrArg Array.toList d1
 subst this
 exact r.inj r'
theorem Inv.OF(I:Inv X pins σ H s)(h:SqT X.K H a xs)(h':SqT X.K H a ys):xs=ys:=by
 obtain⟨its,r,⟨o,e,_,n,d⟩,_⟩:=I.tuple h
 obtain⟨its',r',⟨o',e',_,n',d'⟩,_⟩:=I.tuple h'
 rw[e]at e';cases e'
 rw[d]at d'
 injection d' with d1 _
 have:its=its':=by simpa using congrArg Array.toList d1
 subst this
 exact r.inj r'
end
abbrev Cx.Ve(X:Cx)(E:mz->m8->Prop):Cx:={X with xe:=E}
abbrev Cx.nox(X:Cx):Cx:=X.Ve λ_ _=>sH
theorem Cx.Ok.Ve{X:Cx}(ok:X.Ok)(E:mz->m8->Prop):(X.Ve E).Ok:=
 ⟨ok.mod,ok.kind,ok.glob,ok.blt,ok.above,ok.inj,ok.has,ok.cab,ok.hd,ok.frames,ok.stk,ok.exf,ok.bs,ok.bsz,ok.ZY,ok.bE,ok.US,ok.frf⟩
theorem Cx.Ok.J5{X:Cx}{E:mz->m8->Prop}(ok:(X.Ve E).Ok):X.Ok:=
 ⟨ok.mod,ok.kind,ok.glob,ok.blt,ok.above,ok.inj,ok.has,ok.cab,ok.hd,ok.frames,ok.stk,ok.exf,ok.bs,ok.bsz,ok.ZY,ok.bE,ok.US,ok.frf⟩
section
variable{X:Cx}{pins:List (nH×Obj)}{σ:St}{H:Hp}{s:m8}{E:mz->m8->Prop}
theorem Inv.Ve(I:Inv X pins σ H s)(E:mz->m8->Prop):Inv (X.Ve E) pins σ H s:=⟨I.ok.Ve E,I.os,I.bare,I.base,I.loc,I.cell,I.free,I.Lv,I.pin,I.hok,I.len⟩
theorem Inv.J5(I:Inv (X.Ve E) pins σ H s):Inv X pins σ H s:=⟨I.ok.J5,I.os,I.bare,I.base,I.loc,I.cell,I.free,I.Lv,I.pin,I.hok,I.len⟩
theorem SP.J5{D:Ends}{f:Flow}{s':m8}(h:SP (X.Ve E) pins D f s'):SP X pins D f s':=by
 cases f with
 |next=>obtain⟨σ',H',I,q⟩:=h;exact⟨σ',H',I.J5,q⟩
 |brk=>obtain⟨σ',H',I,q⟩:=h;exact⟨σ',H',I.J5,q⟩
 |cont=>obtain⟨σ',H',I,q⟩:=h;exact⟨σ',H',I.J5,q⟩
 |ret u=>obtain⟨v,σ',H',I,r,q⟩:=h;exact⟨v,σ',H',I.J5,r,q⟩
theorem PSs.nox{st:List pN}{t:TS}(h:PSs X.nox st t):PSs X st t:=λpins s σ H D I hw=>
 uw (h pins s σ H D (I.Ve _) hw) (λ_ _ q=>q.J5) λ_ _ z=>rf z
end
section
variable{X:Cx}{st:pN}{rest:List pN}{t u:TS}{e:oI}{te:TE}{pos:Pos}
noncomputable def gn:TS:=λD σ H=>D.nx σ H
noncomputable def kX(t u:TS):TS:=λD σ H=>t {D with nx:=u D} σ H
theorem aS:PSs X [] gn:=λ_ _ σ H _ I h=>ug ⟨σ,H,I,h⟩
theorem Xc(h1:PS X st t)(h2:PSs X rest u):PSs X (st::rest) (kX t u):=by
 intro pins s σ H D I h
 refine y8 (thn (h1 pins s σ H {D with nx:=u D} I h) λf s1 q=>?_)
 cases f with
 |next=>
  obtain⟨σ',H',I',q⟩:=q
  exact h2 pins s1 σ' H' D I' q
 |ret v=>exact q
 |brk=>exact q
 |cont=>exact q
theorem Za(h1:PS X st t):PSs X [st] t:=by
 intro pins s σ H D I h
 refine y8 (thn (h1 pins s σ H D I h) λf s1 q=>?_)
 cases f with
 |next=>exact ug q
 |ret v=>exact q
 |brk=>exact q
 |cont=>exact q
theorem Inv.quiet{pins:List (nH×Obj)}{σ:St}{H:Hp}{s:m8}(I:Inv X pins σ H s):interactive X.env=false:=by simp[interactive,I.ok.kind]
noncomputable def ib(te:TE):TS:=λD σ H=>te σ H λ_ H1=>D.nx σ H1
theorem aI(he:PE X e te)(hs:swapsWith e none pos.line X.env=pure false:=by rfl):PS X (.Expr e pos) (ib te):=by
 intro pins s σ H D I h
 exact wpAny_Expr_any (thn (he pins s σ H _ I h) λv s1 ⟨x,H1,I1,r1,q1⟩=>⟨σ,H1,I1,q1⟩) I.quiet hs
noncomputable def kz(te:TE):TS:=λD σ H=>te σ H D.rt
theorem eG(he:PE X e te):PS X (.Return (Gc e) pos) (kz te):=by
 intro pins s σ H D I h
 exact wpAny_Return_some (thn (he pins s σ H _ I h) λv s1 ⟨x,H1,I1,r1,q1⟩=>⟨x,σ,H1,I1,r1,q1⟩)
noncomputable def l9(c:TT)(t u:TS):TS:=λD σ H=>c σ H λb H1=>if b=true then t D σ H1 else u D σ H1
theorem jS{c:oI}{a b:List pN}{tc:TT}(hc:PT X c tc)(ha:PSs X a t)(hb:PSs X b u):PS X (.If c a b pos) (l9 tc t u):=by
 intro pins s σ H D I h
 refine wpAny_If (thn (hc pins s σ H _ I h) λd s1 ⟨H1,I1,q1⟩=>?_)
 cases d with
 |true=>exact ha pins s1 σ H1 D I1 q1
 |false=>exact hb pins s1 σ H1 D I1 q1
end
abbrev TG:=V->St->Hp->(St->Hp->Prop)->Prop
abbrev TGs:=List V->St->Hp->(St->Hp->Prop)->Prop
def PG(X:Cx)(target:oI)(t:TG):Prop:=
 ∀(pins:List (nH×Obj)) (s:m8) (σ:St) (H:Hp) (v:V) (u:mz) (Q:St->Hp->Prop),Inv X pins σ H s->RelV v u->t v σ H Q->
  wpAny (model X.prog X.w) X.A (assign target X.env u) (λ_ s'=>∃σ' H',Inv X pins σ' H' s'/\Q σ' H') X.xe s
def PGs(X:Cx)(ts:List oI)(t:TGs):Prop:=
 ∀(pins:List (nH×Obj)) (s:m8) (σ:St) (H:Hp) (vs:List V) (us:List mz) (Q:St->Hp->Prop),Inv X pins σ H s->Vals vs us->t vs σ H Q->
  wpAny (model X.prog X.w) X.A (assignInOrder ((assignEach ts X.env).map (·.2)) us) (λ_ s'=>∃σ' H',Inv X pins σ' H' s'/\Q σ' H') X.xe s
abbrev iM:=V->V->V->Hp->(Hp->Prop)->Prop
def jz(X:Cx)(t:iM):Prop:=
 ∀(pins:List (nH×Obj)) (s:m8) (σ:St) (H:Hp) (o i v:V) (ov iv u:mz) (Q:Hp->Prop),Inv X pins σ H s->RelV o ov->RelV i iv->RelV v u->t o i v H Q->
  wpAny (model X.prog X.w) X.A (setItem ov iv u) (λ_ s'=>∃H',Inv X pins σ H' s'/\Q H') X.xe s
section
variable{X:Cx}{pos:Pos}
noncomputable def Zh(i:Nat):TG:=λv σ H Q=>Q (σ.set i (Gc v)) H
theorem aO{i:Nat}{x:Str}(hN:X.N.Nodup)(hi:X.N[i]?=Gc x)(hx:Loc X.env.scope x)(hf:X.fn x=true\/X.env.scope.names.lookup x=Gc .local:=by first|exact .inl rfl|exact .inr rfl|assumption):PG X (.Name x pos) (Zh i):=by
 intro pins s σ H v u Q I r h
 exact yJ (Kq I hN hi hx r (λs' I'=>⟨_,H,I',h⟩) hf)
noncomputable def jq:TGs:=λvs σ H Q=>vs=[]/\Q σ H
noncomputable def ck(t:TG)(u:TGs):TGs:=λvs σ H Q=>∃v r,vs=v::r/\t v σ H λσ' H'=>u r σ' H' Q
theorem Zt:PGs X [] jq:=by
 intro pins s σ H vs us Q I r h
 obtain⟨e,h⟩:=h
 subst e
 cases r
 exact yK ⟨σ,H,I,h⟩
theorem Xo{e:oI}{es:List oI}{t:TG}{u:TGs}(h1:PG X e t)(h2:PGs X es u)(hs:(assignEach (e::es) X.env).map (·.2)=assign e X.env::(assignEach es X.env).map (·.2):=by rfl):PGs X (e::es) (ck t u):=by
 intro pins s σ H vs us Q I r h
 obtain⟨v,vr,e1,h⟩:=h
 subst e1
 cases r with
 |cons r rr=>
  rw[hs]
  refine uy (thn (h1 pins s σ H _ _ _ I r h) λ_ s1 ⟨σ1,H1,I1,q1⟩=>?_)
  exact h2 pins s1 σ1 H1 _ _ Q I1 rr q1
noncomputable def k0(K:mx)(n:Nat)(t:TGs):TG:=λv σ H Q=>∃a xs,v=.ref a/\SqT K H a xs/\xs.length=n/\t xs σ H Q
theorem eB{es:List oI}{k:Nat}{t:TGs}{n:Nat}(hc:X.calm=true)(h:PGs X es t)(hn:(assignEach es X.env).length=n:=by rfl)(hst:(assignEach es X.env).findIdx? (·.1)=none:=by rfl):PG X (.Tuple es k pos) (k0 X.K n t):=by
 intro pins s σ H v u Q I r hw
 obtain⟨a,xs,e1,hq,hl,hw⟩:=hw
 subst e1
 cases r
 obtain⟨its,rv,ht,hz⟩:=I.tuple hq
 refine assign_Tuple_tuple (I.ok.hd hc) ht (by simp[hn,<-hl,rv.length]) hst λh' hx=>?_
 have I1:Inv X pins σ H {s with heap:=h'}:=I.kept (t':=s.toks) λb o e=>hx b o (nV (nS e)) e
 exact h pins _ σ H xs _ Q I1 (by simpa using rv) hw
noncomputable def mL(to ti:TE)(t:iM):TG:=λv σ H Q=>to σ H λo H1=>ti σ H1 λi H2=>t o i v H2 λH3=>Q σ H3
theorem eP {o i : oI} {to ti : TE} {t : iM} (ho : PE X o to) (hi : PE X i ti) (hs : jz X t) (ha : ∀ v, assign (.Subscript o i pos) X.env v = (do
      let ov ← holding [v] (eval o X.env)
      let iv ← holding [v, ov] (eval i X.env)
      standAt pos
      holding [v, ov, iv] (setItem ov iv v)
      release [v, ov, iv] []) := by intro _; rfl) : PG X (.Subscript o i pos) (mL to ti t) := by
  intro pins s σ H v u Q I r h
  rw [ha]
  refine Wp (oq (thn (ho pins s σ H _ I h) fun ov s1 ⟨x, H1, I1, r1, q1⟩ => ?_))
  refine Wp (oq (thn (hi pins s1 σ H1 _ I1 q1) fun iv s2 ⟨y, H2, I2, r2, q2⟩ => ?_))
  refine Wp (tN (Wp (oq (thn (hs pins s2 σ H2 x y v ov iv u _ I2 r1 r2 r q2) fun _ s3 ⟨H3, I3, q3⟩ => ?_))))
  exact wpAny_release ⟨σ, H3, I3, q3⟩
noncomputable def iU(te:TE)(g:TG):TS:=λD σ H=>te σ H λx H1=>g x σ H1 D.nx
theorem Yo{tg e:oI}{te:TE}{g:TG}(he:PE X e te)(hg:PG X tg g)(hs:swapsWithSole [tg] e pos.line X.env=pure false:=by rfl)(hw:swappedStores [tg] e X.env=pure none:=by rfl)(h1:(assignEach [tg] X.env).map (·.2)=[assign tg X.env]:=by rfl):PS X (.Assign [tg] e pos) (iU te g):=by
 intro pins s σ H D I h
 refine wpAny_Assign_stores (thn (he pins s σ H _ I h) λv s1 ⟨x,H1,I1,r1,q1⟩=>?_) hs hw
 rw[h1]
 exact thn (hg pins s1 σ H1 x v _ I1 r1 q1) λ_ s2 q=>q
theorem eU{i:Nat}{x:Str}{e:oI}{te:TE}{pos':Pos}(hN:X.N.Nodup)(hi:X.N[i]?=Gc x)(hx:Loc X.env.scope x)(he:PE X e te)(hs:swapsWith e (Gc (.Name x pos')) pos.line X.env=pure false:=by rfl)(hf:X.fn x=true\/X.env.scope.names.lookup x=Gc .local:=by first|exact .inl rfl|exact .inr rfl|assumption):PS X (.Assign [.Name x pos'] e pos) (iU te (Zh i)):=by
 intro pins s σ H D I h
 refine wpAny_Assign_Name (thn (he pins s σ H _ I h) λv s1 ⟨y,H1,I1,r1,q1⟩=>?_) hs
 exact Kq I1 hN hi hx r1 (λs2 I2=>⟨_,H1,I2,q1⟩) hf
noncomputable def l7(i j:Nat)(ta:TA):TS:=λD σ H=>ta σ H λvs H1=>∃v w,vs=[v,w]/\D.nx ((σ.set i (Gc v)).set j (Gc w)) H1
theorem bM{i j:Nat}{x y:Str}{a b:oI}{ta:TA}{px py pt:Pos}{kt k2 pt2}(hc:X.calm=true)(hN:X.N.Nodup)(hi:X.N[i]?=Gc x)(hj:X.N[j]?=Gc y)(hij:i≠j)(hx:X.env.scope.names.lookup x=Gc .local)(hy:X.env.scope.names.lookup y=Gc .local)(ha:PA X [a,b] ta)(hw:swappedStores [.Tuple [.Name x px,.Name y py] kt pt] (.Tuple [a,b] k2 pt2) X.env=pure (Gc [x,y]))(hs:swapsWithSole [.Tuple [.Name x px,.Name y py] kt pt] (.Tuple [a,b] k2 pt2) pos.line X.env=pure false:=by rfl):PS X (.Assign [.Tuple [.Name x px,.Name y py] kt pt] (.Tuple [a,b] k2 pt2) pos) (l7 i j ta):=by
 intro pins s σ H D I h
 rw[exec_Assign_arm]
 refine Wp (tN ?_)
 rw[hs]
 refine Wp (m9 ?_)
 rw[oE (by decide)]
 refine Wp (Tuple_ (thn (ha _ pins s σ H _ I h) λus s1 ⟨vs,H1,I1,r1,q1⟩=>?_))
 obtain⟨v,w,e1,q1⟩:=q1
 subst e1
 obtain⟨u1,u2,rfl,rv,rw'⟩:∃u1 u2,us=[u1,u2]/\RelV v u1/\RelV w u2:=by
  cases r1 with
  |cons p q=>
   cases q with
   |cons p' q'=>
    cases q'
    exact⟨_,_,rfl,p,p'⟩
 refine pE ?_ (by show 2<=sizeLine;decide)
 have I2:Inv X pins σ H1 {s1 with heap:=s1.heap.push {cls:=.type "tuple",data:=.seq [u1,u2].toArray}}:=I1.kept (t':=s1.toks) λb o e=>my _ e
 rw[hw]
 refine Wp (m9 ?_)
 show wpAny (model X.prog X.w) X.A (do rule "assign.swapped-stores"; let items<-unpackItems (.ref s1.heap.objs.size) 2 none;assignInOrder [λv=>bindName X.env y v,λv=>bindName X.env x v] items.reverse;pure Flow.next) _ _ _
 refine Wp (rG (Wp (unpackItems_tuple (items:= #[u1,u2]) (I.ok.hd hc) (tK s1.heap _) λh' hx'=>?_)))
 have I3:=I2.kept (h':=h') (t':=s1.toks) λb o e=>hx' b o (nV (nS e)) e
 show wpAny _ _ (assignInOrder [λv=>bindName X.env y v,λv=>bindName X.env x v] [u2,u1] >>= λ_=>pure Flow.next) _ _ _
 refine Wp (uy (z9 (Kq I3 hN hj (.inl hy) rw' (λs2 I4=>?_) (.inr hy))))
 refine uy (z9 (Kq I4 hN hi (.inl hx) rv (λs3 I5=>yK (m9 ?_)) (.inr hx)))
 rw[List.set_comm _ _ (pV hij)]at I5
 exact⟨_,H1,I5,q1⟩
end
section
variable{X:Cx}{pos:Pos}
noncomputable def bZ(c:TT)(tb:TS):TS:=λD σ H=>∃W:Nat->St->Hp->Prop,(∃m,W m σ H)/\∀m σ H,W m σ H->
 c σ H λb H1=>if b=true then∃N:St->Hp->Prop,(∀σ' H',N σ' H'->∃m',m'<m/\W m' σ' H')/\tb {D with nx:=N,ct:=N,bk:=D.nx} σ H1 else D.nx σ H1
theorem Wq{c:oI}{body:List pN}{tc:TT}{tb:TS}(hp:y9 (model X.prog X.w) X.A X.env X.xe)(hc:PT X c tc)(hb:PSs X body tb):PS X (.While c body [] pos) (bZ tc tb):=by
 intro pins s σ H D I h
 obtain⟨W,⟨m0,w0⟩,turn⟩:=h
 refine wpAny_While (codeAny_whileLoop (λn s'=>∃σ' H',Inv X pins σ' H' s'/\W n σ' H') ?_ m0 ⟨σ,H,I,w0⟩)
 rintro n s1 ⟨σ1,H1,I1,w1⟩
 refine q8 hp (thn (hc pins s1 σ1 H1 _ I1 (turn n σ1 H1 w1)) λb s2 ⟨H2,I2,q2⟩=>?_)
 cases b with
 |true=>
  obtain⟨N,hN,q2⟩:=q2
  rw[nh rfl]
  refine q8 hp (thn (hb pins s2 σ1 H2 _ I2 q2) λf s3 q3=>?_)
  cases f with
  |next=>
   obtain⟨σ3,H3,I3,n3⟩:=q3
   obtain⟨m',hm,w3⟩:=hN σ3 H3 n3
   exact⟨m',hm,σ3,H3,I3,w3⟩
  |cont=>
   obtain⟨σ3,H3,I3,n3⟩:=q3
   obtain⟨m',hm,w3⟩:=hN σ3 H3 n3
   exact⟨m',hm,σ3,H3,I3,w3⟩
  |brk=>exact q3
  |ret v=>exact q3
 |false=>
  rw[oE ou]
  exact ug ⟨σ1,H2,I2,q2⟩
end
structure It where
 go:Nat->Hp->Prop
 yld:Nat->Hp->V->Hp->Prop
 stop:Nat->Hp->Prop
def QQ(X:Cx)(pins:List (nH×Obj))(H:Hp)(b:nH):Prop:=
 H b=none/\b≠X.env.locals/\b∉X.fs/\(b∈X.ex\/X.s₀.heap.objs.size<=b)/\(∀x c,X.env.cells.lookup x=Gc c->c≠b)/\∀p∈X.pn++pins,p.1≠b
theorem Inv.ZQ{X:Cx}{pins:List (nH×Obj)}{σ:St}{H H':Hp}{s:m8}{b:nH}(I:Inv X pins σ H s)(hb:s.heap.objs.size<=b)(hn:H' b=none):QQ X pins H' b:=by
 refine⟨hn,sg (nE I.lt hb),I.mB hb,.inr (nL I.sz hb),λx c e z=>?_,λp hp z=>?_⟩
 .obtain⟨v,q⟩:=I.cell x c e
  exact absurd (nE q.lt (by rw[z];exact hb)) (pL _)
 .exact absurd (nE (nS (I.pin p hp).1) (by rw[z];exact hb)) (pL _)
structure Turn(P:nq)(w:oN)(K:mx)(tg:oI)(J:It)(fp:List nH)(it:nH)(tn:Nat->oQ->Prop):Prop where
 mem:it∈fp
 obj:∀i h,tn i h->∀b∈fp,∃o,h.get? b=Gc o/\∀v,o.data≠.cell v
 keep:∀i h h',tn i h->(∀b∈fp,∀o,h.get? b=Gc o->h'.get? b=Gc o)->tn i h'
 item:∀(X:Cx),X.prog=P->X.w=w->X.K=K->X.calm=true->∀(i:Nat) (pins:List (nH×Obj)) (s:m8) (σ:St) (H:Hp) (E:mz->m8->Prop),Inv X pins σ H s->(∀b∈fp,QQ X pins H b)->tn i s.heap->J.go i H->
  wpAny (model P w) X.A (pyNext (.ref it)) (λr s1=>∃u,r=Gc u/\
   wpAny (model P w) X.A (letOwnedTupleGo tg (.ref it) u) (λ_ s2=>∃x H',Inv X pins σ H' s2/\RelV x u/\J.yld i H x H'/\tn (i+1) s2.heap/\∀b∈fp,H' b=none) E s1) E s
 done:∀(X:Cx),X.prog=P->X.w=w->X.K=K->X.calm=true->∀(i:Nat) (pins:List (nH×Obj)) (s:m8) (σ:St) (H:Hp) (E:mz->m8->Prop),Inv X pins σ H s->(∀b∈fp,QQ X pins H b)->tn i s.heap->J.stop i H->
  wpAny (model P w) X.A (pyNext (.ref it)) (λr s1=>r=none/\Inv X pins σ H s1) E s
 self:∀(A:oU) (i:Nat) (s:m8) (Q:mz->m8->Prop) (E:mz->m8->Prop),tn i s.heap->Q (.ref it) s->wpAny (model P w) A (pyIter (.ref it)) Q E s
abbrev TI:=St->Hp->(It->Hp->Prop)->Prop
def PIE(X:Cx)(pins:List (nH×Obj))(σ:St)(tg:oI)(R:It->Hp->Prop)(itv:mz)(s2:m8):Prop:=
 ∃(it:nH) (fp:List nH) (tn:Nat->oQ->Prop) (J:It) (H':Hp),itv=.ref it/\Inv X pins σ H' s2/\Turn X.prog X.w X.K tg J fp it tn/\tn 0 s2.heap/\(∀b∈fp,QQ X pins H' b)/\R J H'
def PI(X:Cx)(tg iter:oI)(wi:TI):Prop:=
 ∀(pins:List (nH×Obj)) (s:m8) (σ:St) (H:Hp) (R:It->Hp->Prop),Inv X pins σ H s->wi σ H R->
  wpAny (model X.prog X.w) X.A (eval iter X.env) (λv s1=>wpAny (model X.prog X.w) X.A (pyIter v) (PIE X pins σ tg R) X.xe s1) X.xe s
theorem Zl{M:Model}{A:oU}{E:mz->m8->Prop}{s:m8}{tg:oI}{it:nH}{u:mz}{o:Obj}{n:qj}{vs:oH mz}{Q:Unit->m8->Prop}(ho:s.heap.get? it=Gc o)(hc:o.cls=.type n)(hd:o.data=.fields vs)(hn:["enumerate","zip","dict_itemiterator","dict_reverseitemiterator","odict_iterator","itertools.zip_longest","itertools.pairwise"].contains n=false)(hQ:Q () s):wpAny M A (letOwnedTupleGo tg (.ref it) u) Q E s:=by
 unfold letOwnedTupleGo
 cases tg<;>first
  |exact m9 hQ
  |(cases u<;>first
     |exact m9 hQ
     |(refine Wp (AAA ho ?_)
       rw[hc,hd]
       show wpAny M A (if(["enumerate","zip","dict_itemiterator","dict_reverseitemiterator","odict_iterator","itertools.zip_longest","itertools.pairwise"].contains n && vs[0]?==Gc (rawInt _))=true then _ else _) Q E s
       rw[oE (by intro h;rw[hn,Bool.false_and]at h;cases h)]
       exact m9 hQ))
noncomputable def Itl(K:mx)(a:nH):It:=
 ⟨λi H=>∃xs x,SqL K H a xs/\xs[i]?=Gc x,λi H x H'=>H'=H/\∀xs,SqL K H a xs->xs[i]?=Gc x,λi H=>∃xs,SqL K H a xs/\xs.length<=i⟩
noncomputable def Itt(K:mx)(a:nH):It:=
 ⟨λi H=>∃xs x,SqT K H a xs/\xs[i]?=Gc x,λi H x H'=>H'=H/\∀xs,SqT K H a xs->xs[i]?=Gc x,λi H=>∃xs,SqT K H a xs/\xs.length<=i⟩
noncomputable def Itr(lo:Int)(n:Nat):It:=⟨λi _=>i<n,λi H x H'=>H'=H/\x=.int (lo+i),λi _=>n<=i⟩
theorem UN{P:nq}{w:oN}{K:mx}{tg:oI}(a it:nH):Turn P w K tg (Itl K a) [it] it (λi h=>h.IsListIter it a i) where
 mem:=by simp
 obj:=λi h st b hb=>by
  have e:b=it:=by simpa using hb
  subst e
  obtain⟨o,e,c,d⟩:=st
  exact⟨o,e,λv z=>by rw[d]at z;cases z⟩
 keep:=λi h h' st k=>st.at λo e=>k it (by simp) o e
 item:=by
  intro X hP hw hK hc i pins s σ H E I hf st hg
  subst hP hw hK
  obtain⟨xs,x,hq,hx⟩:=hg
  obtain⟨its,rv,p,hz⟩:=I.list hq
  obtain⟨u,hu,ru⟩:=rv.get hx
  obtain⟨f0,f1,f2,f3,f4,f5⟩:=hf it (by simp)
  refine t7 st p.isList (x:=u) (by simpa using hu) λh' st' sb=>?_
  have I1:Inv X pins σ H {s with heap:=h'}:=I.turned (t':=s.toks) (λb o hb e=>(sb.2 b hb).trans e) f0 f1 f3 f4 f5
  obtain⟨o,e,c,d⟩:=id st'
  exact⟨u,rfl,Zl (s:={s with heap:=h'}) e c d (by decide) ⟨x,H,I1,ru,⟨rfl,λys hy=>by rw[I.Qz hy hq];exact hx⟩,st',λb hb=>(hf b hb).1⟩⟩
 done:=by
  intro X hP hw hK hc i pins s σ H E I hf st hg
  subst hP hw hK
  obtain⟨xs,hq,hx⟩:=hg
  obtain⟨its,rv,p,hz⟩:=I.list hq
  obtain⟨f0,f1,f2,f3,f4,f5⟩:=hf it (by simp)
  have hl:=rv.length
  exact uQ (I.ok.hd hc) st p.isList (by simp;lia) λh' eb=>⟨rfl,I.turned (t':=s.toks) (λb o hb e=>eb b o hb e) f0 f1 f3 f4 f5⟩
 self:=λ_ _ _ _ _ st h=>wd st h
theorem Ra{P:nq}{w:oN}{K:mx}{tg:oI}(a it:nH):Turn P w K tg (Itt K a) [it] it (λi h=>h.IsTupleIter it a i) where
 mem:=by simp
 obj:=λi h st b hb=>by
  have e:b=it:=by simpa using hb
  subst e
  obtain⟨o,e,c,d⟩:=st
  exact⟨o,e,λv z=>by rw[d]at z;cases z⟩
 keep:=λi h h' st k=>st.at λo e=>k it (by simp) o e
 item:=by
  intro X hP hw hK hc i pins s σ H E I hf st hg
  subst hP hw hK
  obtain⟨xs,x,hq,hx⟩:=hg
  obtain⟨its,rv,p,hz⟩:=I.tuple hq
  obtain⟨u,hu,ru⟩:=rv.get hx
  obtain⟨f0,f1,f2,f3,f4,f5⟩:=hf it (by simp)
  refine wpAny_pyNext_tuple_item st (show s.heap.IsTuple a its.toArray from p) (x:=u) (by simpa using hu) λh' st' sb=>?_
  have I1:Inv X pins σ H {s with heap:=h'}:=I.turned (t':=s.toks) (λb o hb e=>(sb.2 b hb).trans e) f0 f1 f3 f4 f5
  obtain⟨o,e,c,d⟩:=id st'
  exact⟨u,rfl,Zl (s:={s with heap:=h'}) e c d (by decide) ⟨x,H,I1,ru,⟨rfl,λys hy=>by rw[I.OF hy hq];exact hx⟩,st',λb hb=>(hf b hb).1⟩⟩
 done:=by
  intro X hP hw hK hc i pins s σ H E I hf st hg
  subst hP hw hK
  obtain⟨xs,hq,hx⟩:=hg
  obtain⟨its,rv,p,hz⟩:=I.tuple hq
  obtain⟨f0,f1,f2,f3,f4,f5⟩:=hf it (by simp)
  have hl:=rv.length
  exact wpAny_pyNext_tuple_end (I.ok.hd hc) st (show s.heap.IsTuple a its.toArray from p) (by simp;lia) λh' eb=>⟨rfl,I.turned (t':=s.toks) (λb o hb e=>eb b o hb e) f0 f1 f3 f4 f5⟩
 self:=λ_ _ _ _ _ st h=>wpAny_pyIter_tupleiter st h
theorem Rh{P:nq}{w:oN}{K:mx}{tg:oI}(it:nH)(lo:Int)(n:Nat):Turn P w K tg (Itr lo n) [it] it (λi h=>IsRangeIter h it (lo+(i:Nat)*1) ((n:Int)-(i:Nat)) 1) where
 mem:=by simp
 obj:=λi h st b hb=>by
  have e:b=it:=by simpa using hb
  subst e
  exact⟨_,st,λv z=>by
   have z':zU _=Data.cell v:=z
   cases z'⟩
 keep:=λi h h' st k=>k it (by simp) _ st
 item:=by
  intro X hP hw hK hc i pins s σ H E I hf st hg
  subst hP hw hK
  obtain⟨f0,f1,f2,f3,f4,f5⟩:=hf it (by simp)
  have W:=Walks.range (prog:=X.prog) (w:=X.w) (I.ok.hd hc) it lo 1 n
  refine W.item i s _ _ hg st λv h' tk hv st' kk=>?_
  obtain⟨t,rfl⟩:=hv
  have I1:Inv X pins σ H {s with heap:=h',toks:=tk}:=I.turned (λb o hb e=>kk b o (by simpa using hb) e) f0 f1 f3 f4 f5
  refine⟨_,rfl,Zl (s:={s with heap:=h',toks:=tk}) (n:="range_iterator") st' rfl rfl (by decide) ⟨.int (lo+i),H,I1,⟨t,?_⟩,⟨rfl,rfl⟩,st',λb hb=>(hf b hb).1⟩⟩
  rw[Int.mul_one]
 done:=by
  intro X hP hw hK hc i pins s σ H E I hf st hg
  subst hP hw hK
  obtain⟨f0,f1,f2,f3,f4,f5⟩:=hf it (by simp)
  exact wpAny_pyNext_range_end (I.ok.hd hc) st (by have:n<=i:=hg;lia) λh' eb=>⟨rfl,I.turned (t':=s.toks) (λb o hb e=>eb b o hb e) f0 f1 f3 f4 f5⟩
 self:=λ_ _ _ _ _ st h=>wpAny_pyIter_rangeiter st h
end L2
namespace L2
open PySem PySem.Spec PyProof.Rows
section
variable{X:Cx}{tg:oI}
theorem X4{pins:List (nH×Obj)}{σ:St}{H:Hp}{s:m8}{R:It->Hp->Prop}{E:mz->m8->Prop}{lo hi:Int}{t u v:Tok}{tk:Nat}(I:Inv X pins σ H s)(h1: -(2^62)<=lo)(h2:lo<2^62)(h3: -(2^62)<=hi)(h4:hi<2^62)(q:R (Itr lo (hi-lo).toNat) H):wpAny (model X.prog X.w) X.A (pyIter (.ref s.heap.objs.size)) (PIE X pins σ tg R) E {s with heap:=s.heap.push {cls:=.type "range",data:=.fields #[.int lo t,.int hi u,.int 1 v]},toks:=tk}:=by
 refine wpAny_pyIter_range (IsRange.new ..) (small_one h1 h2 h3 h4) ?_
 have I1:Inv X pins σ H {s with heap:=s.heap.push {cls:=.type "range",data:=.fields #[.int lo t,.int hi u,.int 1 v]},toks:=tk}:=I.kept λb o e=>my _ e
 refine⟨(s.heap.push {cls:=.type "range",data:=.fields #[.int lo t,.int hi u,.int 1 v]}).objs.size,[(s.heap.push {cls:=.type "range",data:=.fields #[.int lo t,.int hi u,.int 1 v]}).objs.size],_,_,H,rfl,
  I1.kept (t':=tk) λb o e=>my _ e,Rh _ lo (hi-lo).toNat,?_,λb hb=>?_,q⟩
 .have e1:lo+((0:Nat):Int)*1=lo:=by simp
  have e2:(((hi-lo).toNat:Nat):Int)-((0:Nat):Int)=Builtin.Range.rangeSize lo hi 1:=by rw[rangeSize_one];split<;>lia
  show IsRangeIter _ _ (lo+((0:Nat):Int)*1) ((((hi-lo).toNat:Nat):Int)-((0:Nat):Int)) 1
  rw[e1,e2]
  exact nM _ rfl
 .have e:b=(s.heap.push {cls:=.type "range",data:=.fields #[.int lo t,.int hi u,.int 1 v]}).objs.size:=by simpa using hb
  subst e
  exact I1.ZQ (nG _) (I1.hok.fresh (nG _))
noncomputable def iN(ta:TA):TI:=λσ H R=>ta σ H λvs H1=>∃j:Int,vs=[.int j]/\ -(2^62)<=j/\j<2^62/\R (Itr 0 j.toNat) H1
theorem UZ{a:oI}{ta:TA}{p pos:Pos}(hg:Gl X "range")(hm:X.mg "range"=none)(ha:PA X [a] ta)(hs:nv [a] X.env=[(false,eval a X.env)]:=by rfl):PI X tg (.Call (.Name "range" p) [a] [] pos) (iN ta):=by
 intro pins s σ H R I h
 refine Call_ (JW I hg hm boot_range (qI (thn (ha pos pins s σ H _ I h) λus s1 ⟨vs,H1,I1,r1,q1⟩=>?_) hs rfl))
 obtain⟨j,e,q1,q2,q⟩:=q1
 subst e
 cases r1 with
 |cons r rr=>
  cases rr
  obtain⟨t,rfl⟩:=r
  exact call_range_1 (X4 I1 (by lia) (by lia) q1 q2 (by simpa using q))
noncomputable def k7(wi:TI)(g:TG)(tb:TS):TS:=λD σ H=>wi σ H λJ H1=>∃W:Nat->Nat->St->Hp->Prop,(∃m,W 0 m σ H1)/\∀i m σ H,W i m σ H->
 (J.stop i H/\D.nx σ H)\/(J.go i H/\∃N:St->Hp->Prop,(∀σ' H',N σ' H'->∃m',m'<m/\W (i+1) m' σ' H')/\∀x H',J.yld i H x H'->g x σ H' λσ2 H2=>tb {D with nx:=N,ct:=N,bk:=D.nx} σ2 H2)
noncomputable def PH(fp:List nH)(h:oQ):List (nH×Obj):=fp.filterMap λb=>(h.get? b).map λo=>(b,o)
theorem Ho{fp:List nH}{h:oQ}{b:nH}{o:Obj}(hb:b∈fp)(e:h.get? b=Gc o):(b,o)∈PH fp h:=xq.mpr ⟨b,hb,by rw[e];rfl⟩
theorem UI{fp:List nH}{h:oQ}{p:nH×Obj}(hp:p∈PH fp h):p.1∈fp/\h.get? p.1=Gc p.2:=by
 obtain⟨b,hb,e⟩:=xq.mp hp
 cases q:h.get? b with
 |none=>rw[q]at e;cases e
 |some o=>
  rw[q]at e
  have e':(b,o)=p:=pD e
  subst e'
  exact⟨hb,q⟩
theorem Inv.pinned{pins:List (nH×Obj)}{σ:St}{H:Hp}{s:m8}{fp:List nH}(I:Inv X pins σ H s)(hf:∀b∈fp,QQ X pins H b)(ho:∀b∈fp,∃o,s.heap.get? b=Gc o/\∀v,o.data≠.cell v):Inv X (pins++PH fp s.heap) σ H s:=
 I.To λp hp=>(oC.mp hp).elim (λz=>I.pin p (oZ _ z)) λz=>by
  obtain⟨hb,e⟩:=UI z
  obtain⟨f0,f1,f2,_⟩:=hf p.1 hb
  obtain⟨o,e',d⟩:=ho p.1 hb
  rw[e]at e';cases e'
  exact⟨e,f0,f1,f2,d⟩
theorem Inv.Kj{pins pl:List (nH×Obj)}{σ:St}{H:Hp}{s:m8}(I:Inv X (pins++pl) σ H s):Inv X pins σ H s:=I.To λp hp=>I.pin p (oZ _ (sX _ hp))
theorem dI{iter:oI}{body:List pN}{wi:TI}{g:TG}{tb:TS}{pos:Pos}(hp:y9 (model X.prog X.w) X.A X.env X.xe)(hc:X.calm=true)(hi:PI X tg iter wi)(hg:PG X tg g)(hb:PSs X body tb)(hs:∀x,foldedSetIterable iter X.env x=pure x:=by intro _;rfl):PS X (.For tg iter body [] pos) (k7 wi g tb):=by
 intro pins s σ H D I h
 refine wpAny_For (thn (hi pins s σ H _ I h) λv s1 h1=>thn h1 λitv s2 h2=>?_) hs
 obtain⟨it,fp,tn,J,H2,e,I2,T,st2,f2,W,⟨m0,w0⟩,turn⟩:=h2
 subst e
 have stat:∀{H':Hp},(∀b∈fp,H' b=none)->∀b∈fp,QQ X pins H' b:=λhn b hb=>⟨hn b hb,(f2 b hb).2⟩
 refine codeAny_forLoop_any (λn s'=>∃i σ' H',Inv X pins σ' H' s'/\tn i s'.heap/\(∀b∈fp,H' b=none)/\W i n σ' H') ?_ m0 ⟨0,σ,H2,I2,st2,λb hb=>(f2 b hb).1,w0⟩
 rintro n s3 ⟨i,σ3,H3,I3,st3,fr3,w3⟩
 rcases turn i n σ3 H3 w3 with⟨stop,qn⟩|⟨go,N,hN,step⟩
 .refine q8 hp (thn (T.done X rfl rfl rfl hc i pins s3 σ3 H3 X.xe I3 (stat fr3) st3 stop) λr s4 ⟨hr,I4⟩=>?_)
  subst hr
  exact ug ⟨σ3,H3,I4,qn⟩
 .refine q8 hp (thn (T.item X rfl rfl rfl hc i pins s3 σ3 H3 X.xe I3 (stat fr3) st3 go) λr s4 ⟨u,hr,h4⟩=>?_)
  subst hr
  refine q8 hp (thn h4 λ_ s5 ⟨x,H5,I5,r5,y5,st5,fr5⟩=>?_)
  have I5':=I5.pinned (stat fr5) (T.obj _ _ st5)
  refine q8 hp (thn (hg _ s5 σ3 H5 x u _ I5' r5 (step x H5 y5)) λ_ s6 ⟨σ6,H6,I6,q6⟩=>?_)
  refine q8 hp (thn (hb _ s6 σ6 H6 _ I6 q6) λf s7 q7=>?_)
  have again:∀{σ7:St} {H7:Hp},Inv X (pins++PH fp s5.heap) σ7 H7 s7->N σ7 H7->∃m,m<n/\∃i σ' H',Inv X pins σ' H' s7/\tn i s7.heap/\(∀b∈fp,H' b=none)/\W i m σ' H':=λ{σ7 H7} I7 n7=>by
   obtain⟨m',hm,w7⟩:=hN σ7 H7 n7
   refine⟨m',hm,i+1,σ7,H7,I7.Kj,T.keep _ _ _ st5 λb hb o e=>(I7.pin (b,o) (oZ _ (oZ _ (Ho hb e)))).1,λb hb=>?_,w7⟩
   obtain⟨o,e,d⟩:=T.obj _ _ st5 b hb
   exact(I7.pin (b,o) (oZ _ (oZ _ (Ho hb e)))).2.1
  cases f with
  |next=>obtain⟨σ7,H7,I7,n7⟩:=q7;exact again I7 n7
  |cont=>obtain⟨σ7,H7,I7,n7⟩:=q7;exact again I7 n7
  |brk=>obtain⟨σ7,H7,I7,q7⟩:=q7;exact⟨σ7,H7,I7.Kj,q7⟩
  |ret v=>obtain⟨x7,σ7,H7,I7,r7,q7⟩:=q7;exact⟨x7,σ7,H7,I7.Kj,r7,q7⟩
end
end L2
namespace L2
open PySem PySem.Spec PyProof.Rows
abbrev R2:=V->V->Hp->VK->Prop
def OpR(X:Cx)(f:mz->mz->Sem mz)(r:R2):Prop:=
 ∀(pins:List (nH×Obj)) (s:m8) (σ:St) (H:Hp) (x y:V) (v u:mz) (Q:VK),Inv X pins σ H s->RelV x v->RelV y u->r x y H Q->
  wpAny (model X.prog X.w) X.A (f v u) (EP X pins σ Q) X.xe s
def UnR(X:Cx)(f:mz->Sem mz)(r:V->Hp->VK->Prop):Prop:=
 ∀(pins:List (nH×Obj)) (s:m8) (σ:St) (H:Hp) (x:V) (v:mz) (Q:VK),Inv X pins σ H s->RelV x v->r x H Q->
  wpAny (model X.prog X.w) X.A (f v) (EP X pins σ Q) X.xe s
def Dl(X:Cx)(f:mz)(r:List V->Hp->VK->Prop):Prop:=
 ∀(pins:List (nH×Obj)) (s:m8) (σ:St) (H:Hp) (xs:List V) (us:List mz) (Q:VK),Inv X pins σ H s->Vals xs us->r xs H Q->
  wpAny (model X.prog X.w) X.A (call f us) (EP X pins σ Q) X.xe s
noncomputable def tOp(r:R2)(ta tb:TE):TE:=λσ H Q=>ta σ H λx H1=>tb σ H1 λy H2=>r x y H2 Q
noncomputable def tUn(r:V->Hp->VK->Prop)(ta:TE):TE:=λσ H Q=>ta σ H λx H1=>r x H1 Q
noncomputable def rI(C:Int->Int->Prop)(g:Int->Int->V):R2:=λx y H Q=>∃i j,x=.int i/\y=.int j/\C i j/\Q (g i j) H
noncomputable def rI0(g:Int->Int->V):R2:=λx y H Q=>∃i j,x=.int i/\y=.int j/\Q (g i j) H
def rU(g:Int->V):V->Hp->VK->Prop:=λx H Q=>∃i,x=.int i/\Q (g i) H
section
variable{X:Cx}{a b c:oI}{ta tb tc:TE}{pos:Pos}
theorem ir(ha:PE X a ta)(hb:PE X b tb){pins:List (nH×Obj)}{s:m8}{σ:St}{H:Hp}{R:V->V->Hp->Prop}(I:Inv X pins σ H s)(h:ta σ H λx H1=>tb σ H1 λy H2=>R x y H2){Q:mz->m8->Prop}{f:mz->mz->Sem mz}(hf:∀v u s2 x y H2,Inv X pins σ H2 s2->RelV x v->RelV y u->R x y H2->wpAny (model X.prog X.w) X.A (f v u) Q X.xe s2):wpAny (model X.prog X.w) X.A (eval a X.env) (λv s₁=>wpAny (model X.prog X.w) X.A (eval b X.env) (λu s₂=>wpAny (model X.prog X.w) X.A (f v u) Q X.xe s₂) X.xe s₁) X.xe s:=by
 refine thn (ha pins s σ H _ I h) λv s1 ⟨x,H1,I1,r1,q1⟩=>?_
 refine thn (hb pins s1 σ H1 _ I1 q1) λu s2 ⟨y,H2,I2,r2,q2⟩=>?_
 exact hf v u s2 x y H2 I2 r1 r2 q2
theorem i0{op:Operator}{r:R2}(ho:OpR X (binaryOp op) r)(ha:PE X a ta)(hb:PE X b tb):PE X (.BinOp a op b pos) (tOp r ta tb):=by
 intro pins s σ H Q I h
 exact wpAny_BinOp (ir ha hb I h λv u s2 x y H2 I2 rx ry q=>ho pins s2 σ H2 x y v u Q I2 rx ry q)
theorem iP{op:UnaryOp}{r:V->Hp->VK->Prop}(ho:UnR X (unaryOp op) r)(ha:PE X a ta):PE X (.UnaryOp op a pos) (tUn r ta):=by
 intro pins s σ H Q I h
 exact UnaryOp_ (thn (ha pins s σ H _ I h) λv s1 ⟨x,H1,I1,r1,q1⟩=>ho pins s1 σ H1 x v Q I1 r1 q1)
theorem opI{f:mz->mz->Sem mz}{C:Int->Int->Prop}{g:Int->Int->Int}(rule:∀(i j:Int) (t u:Tok) (s:m8) (Q:mz->m8->Prop) (E:mz->m8->Prop),C i j->Q (.int (g i j) s.toks) {s with toks:=s.toks+1}->wpAny (model X.prog X.w) X.A (f (.int i t) (.int j u)) Q E s):OpR X f (rI C λi j=>.int (g i j)):=by
 intro pins s σ H x y v u Q I rx ry h
 obtain⟨i,j,rfl,rfl,hc,q⟩:=h
 obtain⟨t,rfl⟩:=rx
 obtain⟨t',rfl⟩:=ry
 exact rule i j t t' s _ _ hc ⟨.int (g i j),H,I.tok _,⟨_,rfl⟩,q⟩
theorem j4{f:mz->mz->Sem mz}{g:Int->Int->Int}(rule:∀(i j:Int) (t u:Tok) (s:m8) (Q:mz->m8->Prop) (E:mz->m8->Prop),Q (.int (g i j) s.toks) {s with toks:=s.toks+1}->wpAny (model X.prog X.w) X.A (f (.int i t) (.int j u)) Q E s):OpR X f (rI0 λi j=>.int (g i j)):=by
 intro pins s σ H x y v u Q I rx ry h
 obtain⟨i,j,rfl,rfl,q⟩:=h
 obtain⟨t,rfl⟩:=rx
 obtain⟨t',rfl⟩:=ry
 exact rule i j t t' s _ _ ⟨.int (g i j),H,I.tok _,⟨_,rfl⟩,q⟩
theorem fC{f:mz->mz->Sem mz}{g:Int->Int->oO}(rule:∀(i j:Int) (t u:Tok) (s:m8) (Q:mz->m8->Prop) (E:mz->m8->Prop),Q (.bool (g i j)) s->wpAny (model X.prog X.w) X.A (f (.int i t) (.int j u)) Q E s):OpR X f (rI0 λi j=>.bl (g i j)):=by
 intro pins s σ H x y v u Q I rx ry h
 obtain⟨i,j,rfl,rfl,q⟩:=h
 obtain⟨t,rfl⟩:=rx
 obtain⟨t',rfl⟩:=ry
 exact rule i j t t' s _ _ ⟨.bl (g i j),H,I,rfl,q⟩
def lG(i j:Int):Prop:=0<=j/\j<=1000000/\i.natAbs<2^64
def iD(i j:Int):Prop:=(-(2^64)<i/\i<2^64)\/(-(2^64)<j/\j<2^64)
theorem iD.ok{i j:Int}(h:iD i j):IntMulOk i j:=by
 rcases h with⟨h1,h2⟩|⟨h1,h2⟩
 .exact .of_left (intBits_le_64 h1 h2)
 .exact .of_right (intBits_le_64 h1 h2)
theorem c8:OpR X (binaryOp .Add) (rI0 λi j=>.int (i+j)):=j4 λ_ _ _ _ _ _ _ q=>add_int q
theorem cK:OpR X (binaryOp .Sub) (rI0 λi j=>.int (i-j)):=j4 λ_ _ _ _ _ _ _ q=>sub_int q
theorem YH:OpR X (binaryOp .Mult) (rI iD λi j=>.int (i*j)):=opI λ_ _ _ _ _ _ _ hc q=>mul_int q hc.ok
theorem eF:OpR X (binaryOp .Mod) (rI (λ_ j=>0<j) λi j=>.int (i % j)):=opI λi j _ _ _ _ _ hc q=>by
 have h1:(0:Int)<j:=hc
 exact mod_int' (by lia) (by rw[Int.fmod_eq_emod_of_nonneg i (by lia)];exact q)
theorem dC:OpR X (binaryOp .Pow) (rI lG λi j=>.int (i^j.toNat)):=opI λ_ _ _ _ _ _ _ hc q=>pow_int_small hc.1 hc.2.1 hc.2.2 q
theorem unI{f:mz->Sem mz}{g:Int->Int}(rule:∀(i:Int) (t:Tok) (s:m8) (Q:mz->m8->Prop) (E:mz->m8->Prop),Q (.int (g i) s.toks) {s with toks:=s.toks+1}->wpAny (model X.prog X.w) X.A (f (.int i t)) Q E s):UnR X f (rU λi=>.int (g i)):=by
 intro pins s σ H x v Q I rx h
 obtain⟨i,rfl,q⟩:=h
 obtain⟨t,rfl⟩:=rx
 exact rule i t s _ _ ⟨.int (g i),H,I.tok _,⟨_,rfl⟩,q⟩
theorem eL:UnR X (unaryOp .USub) (rU λi=>.int (-i)):=unI λ_ _ _ _ _ q=>neg_int q
end
section
variable{X:Cx}{a b c:oI}{ta tb tc:TE}{pos:Pos}
theorem cM{pins:List (nH×Obj)}{σ:St}{H:Hp}{s:m8}{Q:VK}{k k':oO}(I:Inv X pins σ H s)(q:Q (.bl k) H)(e:k=k'):EP X pins σ Q (.bool k') s:=by
 subst e
 exact⟨.bl k,H,I,rfl,q⟩
theorem hV:OpR X (compareOp .Lt) (rI0 λi j=>.bl (decide (i<j))):=fC λ_ _ _ _ _ _ _ q=>lt_int q
theorem ic:OpR X (compareOp .LtE) (rI0 λi j=>.bl (decide (i<=j))):=fC λ_ _ _ _ _ _ _ q=>le_int q
theorem ip:OpR X (compareOp .Gt) (rI0 λi j=>.bl (decide (j<i))):=fC λ_ _ _ _ _ _ _ q=>gt_int q
theorem iV:OpR X (compareOp .GtE) (rI0 λi j=>.bl (decide (j<=i))):=fC λ_ _ _ _ _ _ _ q=>ge_int q
theorem Zn:OpR X (compareOp .IsNot) (λx y H Q=>y=.non/\Q (.bl (!decide (x=.non))) H):=by
 intro pins s σ H x y v u Q I rx ry h
 obtain⟨rfl,q⟩:=h
 cases ry
 refine isnot_none_gen (cM I q ?_)
 cases x<;>first
  |(cases rx;rfl)
  |(obtain⟨t,rfl⟩:=rx;rfl)
theorem Yx{op:CmpOp}{r:R2}(ho:OpR X (compareOp op) r)(ha:PE X a ta)(hb:PE X b tb)(hm:behindInMarks op b=false):PE X (.Compare a [op] [b] pos) (tOp r ta tb):=by
 intro pins s σ H Q I h
 exact wpAny_Compare1 (ir ha hb I h λv u s2 x y H2 I2 rx ry q=>ho pins s2 σ H2 x y v u Q I2 rx ry q) hm
noncomputable def eK(t:TE):TT:=λσ H Q=>t σ H λx H'=>∃k,x=.bl k/\Q k H'
theorem Z9{op:CmpOp}{r:R2}(ho:OpR X (compareOp op) r)(ha:PE X a ta)(hb:PE X b tb)(hm:behindInMarks op b=false):PT X (.Compare a [op] [b] pos) (eK (tOp r ta tb)):=by
 intro pins s σ H Q I h
 refine wpAny_isTrue_Compare1 (thn (ha pins s σ H _ I h) λv s1 ⟨x,H1,I1,r1,q1⟩=>thn (hb pins s1 σ H1 _ I1 q1) λu s2 ⟨y,H2,I2,r2,q2⟩=>
  thn (ho pins s2 σ H2 x y v u _ I2 r1 r2 q2) λc s3 ⟨z,H3,I3,r3,k,e,q3⟩=>?_) hm
 subst e
 cases r3
 exact tz ⟨H3,I3,q3⟩
theorem O3:(sizeLine:Nat)<2^63:=by rw[tZ];decide
theorem RO:OpR X (binaryOp .Add) (λx y H Q=>∃i j,x=.str i/\y=.str j/\i.length+j.length<=sizeLine/\Q (.str (i++j)) H):=by
 intro pins s σ H x y v u Q I rx ry h
 obtain⟨i,j,rfl,rfl,hz,q⟩:=h
 obtain⟨t,rfl⟩:=rx
 obtain⟨t',rfl⟩:=ry
 exact add_str (λt' tk=>⟨.str (i++j),H,I.tok _,⟨_,rfl⟩,q⟩) hz
theorem vals1{x:V}{us:List mz}(r:Vals [x] us):∃u,us=[u]/\RelV x u:=by
 cases r with
 |cons r1 r2=>cases r2;exact⟨_,rfl,r1⟩
theorem vals2{x y:V}{us:List mz}(r:Vals [x,y] us):∃u w',us=[u,w']/\RelV x u/\RelV y w':=by
 cases r with
 |cons r1 r2=>
  cases r2 with
  |cons r3 r4=>cases r4;exact⟨_,_,rfl,r1,r3⟩
theorem XY:Dl X (.builtin "abs") (λxs H Q=>∃i,xs=[.int i]/\Q (.int (if i<0 then-i else i)) H):=by
 intro pins s σ H xs us Q I r h
 obtain⟨i,rfl,q⟩:=h
 obtain⟨u,rfl,t,rfl⟩:=vals1 r
 exact call_abs_int λu tk=>⟨.int (if i<0 then-i else i),H,I.tok _,⟨_,rfl⟩,q⟩
theorem Uz(hc:X.calm=true):Dl X (.builtin "max") (λxs H Q=>∃i j,xs=[.int i,.int j]/\Q (.int (if j>i then j else i)) H):=by
 intro pins s σ H xs us Q I r h
 obtain⟨i,j,rfl,q⟩:=h
 obtain⟨u,w',rfl,⟨t,rfl⟩,⟨t',rfl⟩⟩:=vals2 r
 refine max_two_ints (I.ok.hd hc) λh' tk k=>⟨_,H,I.kept k,?_,q⟩
 by_cases hj:j>i
 .rw[nh hj,nh hj];exact⟨_,rfl⟩
 .rw[oE hj,oE hj];exact⟨_,rfl⟩
theorem UQ(hc:X.calm=true):Dl X (.builtin "min") (λxs H Q=>∃i j,xs=[.int i,.int j]/\Q (.int (if j<i then j else i)) H):=by
 intro pins s σ H xs us Q I r h
 obtain⟨i,j,rfl,q⟩:=h
 obtain⟨u,w',rfl,⟨t,rfl⟩,⟨t',rfl⟩⟩:=vals2 r
 refine min_two_ints (I.ok.hd hc) λh' tk k=>⟨_,H,I.kept k,?_,q⟩
 by_cases hj:j<i
 .rw[nh hj,nh hj];exact⟨_,rfl⟩
 .rw[oE hj,oE hj];exact⟨_,rfl⟩
theorem OL:Dl X (.type "int") (λxs H Q=>(∃i,xs=[.int i]/\Q (.int i) H)\/∃k,xs=[.bl k]/\Q (.int (if k then 1 else 0)) H):=by
 intro pins s σ H xs us Q I r h
 rcases h with⟨i,rfl,q⟩|⟨k,rfl,q⟩
 .obtain⟨u,rfl,t,rfl⟩:=vals1 r
  exact call_int_int ⟨.int i,H,I,⟨_,rfl⟩,q⟩
 .obtain⟨u,rfl,r1⟩:=vals1 r
  cases r1
  exact call_int_bool ⟨.int (if k then 1 else 0),H,I.tok _,⟨_,rfl⟩,q⟩
end
end L2
namespace L2
open PySem PySem.Spec PyProof.Rows
structure iY(h:oQ)(x dx C:nH)(mA:Str->nB mz):Prop where
 obj:h.get? x=Gc (wQ C dx)
 ns:h.Ns1 dx mA
 ne:dx≠x
theorem Tj{h:oQ}{dx:nH}{mA:Str->nB mz}(n:h.Ns1 dx mA):∃od,h.get? dx=Gc od/\∀name,wu name od=Gc (mA name):=by
 obtain⟨o,es,ep,ho,hd,hk,_,hm⟩:=n
 refine⟨o,ho,λname=>?_⟩
 have e:=hm name
 unfold nsFind findBy at e
 rw[<-Array.find?_toList]at e
 unfold wu
 rw[hd]
 dsimp only
 split
 .rename_i y q
  rw[q]at e
  exact congrArg Gc e
 .rename_i q
  rw[q]at e
  have a:es.toList.any (·.refKey)=false:=by
   rw[yL]
   intro y hy
   obtain⟨z,t,hkey⟩:=hk y (Array.mem_toList_iff.mp hy)
   simp[DictEntry.refKey,hkey]
  have a':¬es.toList.any (·.refKey)=true:=by rw[a];exact ou
  rw[oE a']
  exact congrArg Gc e
theorem iY.look{h:oQ}{x dx C:nH}{mA:Str->nB mz}(I:iY h x dx C mA):∃od,PySem.W.InstAt h x (wQ C dx) C (Gc od)/\∀name,wu name od=Gc (mA name):=
 let⟨od,ho,hl⟩:=Tj I.ns
 ⟨od,⟨I.obj,rfl,rfl,ho⟩,hl⟩
section
variable{prog:nq}{w:oN}{A:oU}{E:mz->m8->Prop}{s:m8}{K:mx}{x dx C f:nH}{mA:Str->nB mz}{name:Str}{v:mz}
end
section
variable{P:nq}{w:oN}{H H':Hp}{h h':oQ}{a C dx:nH}{fs fs':List (Str×V)}
theorem ag(hok:HOk P w H h)(e:H a=Gc (.ins C dx fs)):∃mA,iY h a dx C mA/\(∀f,Vb (fs.lookup f) (mA f))/\PySem.Within mA (fs.map (·.1))/\fs.length<=1000/\H dx=Gc (.own a):=by
 obtain⟨d,z,ne,ob,mA,n,r,q⟩:=(show Dr P w H h a (.ins C dx fs)from hok a _ e)
 exact⟨mA,⟨ob,n,ne⟩,r,q,z,d⟩
end
structure Cls(K:mx)(C:nH):Prop where
 pg:zA K C Str.empty=true
 hd:PySem.W.hasDictIn K C=true
 po:PySem.W.plainOver K C=true
 sa:t8 K (.ref C) "__setattr__"=Gc (Gc (.builtin "object.__setattr__"))
theorem Cls.get{K:mx}{C:nH}(c:Cls K C)(f:Str):zA K C f=true:=c.pg
structure Con(K:mx)(C:nH)(f:Str)(v:V)(u:mz):Prop where
 at_:t8 K (.ref C) f=Gc (Gc u)
 rel:RelV v u
 get:yM K u "__get__"=Gc none
 cp:PySem.W.copiedNames.contains f=false
structure Meth(K:mx)(C:nH)(m:Str)(f:nH):Prop where
 at_:t8 K (.ref C) m=Gc (Gc (.ref f))
 fn:PySem.W.isFn K (.ref f)=true
 kp:qk K (.ref f)=true
section
variable{X:Cx}{pins:List (nH×Obj)}{σ:St}{H:Hp}{s:m8}{a C dx:nH}{fs:List (Str×V)}{f:Str}{v:V}{A:oU}{E:mz->m8->Prop}
end
section
variable{X:Cx}{o e value:oI}{f:Str}{pos pos' tpos:Pos}{ta tv:TE}
end
section
variable{X:Cx}{pins:List (nH×Obj)}{σ:St}{H:Hp}{s:m8}{A:oU}{E:mz->m8->Prop}{Q:mz->m8->Prop}{c:mz}{b:oO}
inductive R5(K:mx)(H:Hp):V->mz->Prop where
 |non:R5 K H .non (.type "NoneType")
 |bl (x:oO):R5 K H (.bl x) (.type "bool")
 |int (i:Int):R5 K H (.int i) (.type "int")
 |str (x:Str):R5 K H (.str x) (.type "str")
 |flt (x:UInt64):R5 K H (.flt x) (.type "float")
 |lst {a:nH} {xs:List V} (e:H a=Gc (.lst xs)):R5 K H (.ref a) (.type "list")
 |frz {a:nH} {o:Obj} {xs:List V} (e:H a=Gc (.frz o (.lst xs))):R5 K H (.ref a) (.type "list")
 |tup {a:nH} {xs:List V} (e:H a=Gc (.tup xs)):R5 K H (.ref a) (.type "tuple")
 |dK {a:nH} {kvs:List (Key×V)} (e:H a=Gc (.dK kvs)):R5 K H (.ref a) (.type "dict")
 |dT {a:nH} {kvs:List (List Key×V)} (e:H a=Gc (.dT kvs)):R5 K H (.ref a) (.type "dict")
 |ins {a C dx:nH} {fs:List (Str×V)} (e:H a=Gc (.ins C dx fs)) (cl:Cls K C) (ha:t8 K (.ref C) "__class__"=Gc (Gc (.builtin "object.__class__")))
   (hn:yM K (.builtin "object.__class__") "__get__"=Gc (Gc (.builtin "getset_descriptor.__get__"))) (htk:PySem.W.takesIn K (.builtin "object.__class__")=Gc true)
   (hm:PySem.W.mroIn K C (.type "object")=Gc true):R5 K H (.ref a) (.ref C)
theorem FG{x:V}{u t:mz}(I:Inv X pins σ H s)(rx:RelV x u)(ty:R5 X.K H x t)(e:ql X.K t c=Gc b)(h:∀tk,Q (.bool b) {s with toks:=tk}):wpAny (model X.prog X.w) A (call (.builtin "isinstance") [u,c]) Q E s:=by
 cases ty with
 |non=>cases (show u=pz from rx);exact pf PySem.W.kitx_none I.kIn rH e (λz=>nomatch z) h
 |bl y=>cases (show u=xp y from rx);exact pf PySem.W.kitx_bool I.kIn rH e (λz=>nomatch z) h
 |int i=>obtain⟨t,q⟩:=(show∃t,u=tY i t from rx);cases q;exact pf PySem.W.kitx_int I.kIn rH e (λz=>nomatch z) h
 |str y=>obtain⟨t,q⟩:=(show∃t,u=ve y t from rx);cases q;exact pf PySem.W.kitx_str I.kIn rH e (λz=>nomatch z) h
 |flt y=>obtain⟨t,q⟩:=(show∃t,u=Value.float y t from rx);cases q;exact pf PySem.W.kitx_float I.kIn rH e (λz=>nomatch z) h
 | @lst a xs ea=>
   cases (show u=oX a from rx)
   obtain⟨_,_,n,_,h1⟩:=(show Dr X.prog X.w H s.heap a (.lst xs)from I.hok a _ ea)
   exact pf yN I.kIn ⟨_,h1,rfl⟩ e (λz=>nomatch z) h
 | @frz a ob xs ea=>
   cases (show u=oX a from rx)
   obtain⟨_,_,_,n,_,h1⟩:=(show Dr X.prog X.w H s.heap a (.frz ob (.lst xs))from I.hok a _ ea)
   exact pf yN I.kIn ⟨_,h1,rfl⟩ e (λz=>nomatch z) h
 | @tup a xs ea=>
   cases (show u=oX a from rx)
   obtain⟨_,_,_,p⟩:=(show Dr X.prog X.w H s.heap a (.tup xs)from I.hok a _ ea)
   obtain⟨o,h1,h2,_⟩:=p
   exact pf xr I.kIn ⟨o,h1,h2⟩ e (λz=>nomatch z) h
 | @dK a kvs ea=>
   cases (show u=oX a from rx)
   obtain⟨_,_,vs,_,p⟩:=(show Dr X.prog X.w H s.heap a (.dK kvs)from I.hok a _ ea)
   obtain⟨o,es,ep,h1,h2,_⟩:=p
   exact pf yO I.kIn ⟨o,h1,h2.1⟩ e (λz=>nomatch z) h
 | @dT a kvs ea=>
   cases (show u=oX a from rx)
   obtain⟨_,_,xs,_,o,es,ep,h1,h2,_⟩:=(show Dr X.prog X.w H s.heap a (.dT kvs)from I.hok a _ ea)
   exact pf yO I.kIn ⟨o,h1,h2.1⟩ e (λz=>nomatch z) h
 | @ins a C dx fs ea cl ha hn htk hm=>
   cases (show u=oX a from rx)
   obtain⟨mA,O,_⟩:=ag I.hok ea
   obtain⟨od,J,_⟩:=O.look
   exact pf (PySem.W.kitx_own (cl.get _) cl.hd ha hn htk hm) I.kIn J e (λz=>nomatch z) h
end
end L2
namespace L2
open PySem PySem.Spec PyProof.Rows
structure Lq(k:Nat)(A:oU):Prop where
 hd:A.handled=none
 dp:A.depth+3*k+5<recursionLimit
 un:A.units+16*k+200<cLine
theorem Lq.mono{j k:Nat}{A:oU}(r:Lq k A)(h:j<=k):Lq j A:=⟨r.hd,by have:=r.dp;lia,by have:=r.un;lia⟩
theorem Lq.deeper{k:Nat}{A:oU}(r:Lq (k+1) A)(env:Env):Lq k (A.deeper env):=
 ⟨r.hd,by have:=r.dp;show A.depth+1+3*k+5<_;lia,by have:=r.un;show A.units+3+16*k+200<_;lia⟩
theorem Lq.depth{k:Nat}{A:oU}(r:Lq k A):A.depth<recursionLimit:=by have:=r.dp;lia
noncomputable def j7:TA:=λ_ H Q=>Q [] H
noncomputable def cm(ta:TE)(tr:TA):TA:=λσ H Q=>ta σ H λx H1=>tr σ H1 λxs H2=>Q (x::xs) H2
section
variable{X:Cx}{e:oI}{es:List oI}{te:TE}{t:TA}{pos:Pos}
theorem TH:PA X [] j7:=λ_ _ _ _ H Q I h=>sY ⟨[],H,I,.nil,h⟩
theorem Nz(ha:PE X e te)(hr:PA X es t)(hs:nv (e::es) X.env=(false,eval e X.env)::nv es X.env:=by rfl):PA X (e::es) (cm te t):=by
 intro pos pins s σ H Q I h
 rw[hs]
 show wpAny _ _ (spliced ((false,eval e X.env)::backTo pos (nv es X.env))) _ _ s
 refine qy (thn (ha pins s σ H _ I h) λu s1 ⟨x,H1,I1,r1,q1⟩=>?_)
 exact thn (hr pos pins s1 σ H1 _ I1 q1) λus s2 ⟨xs,H2,I2,r2,q2⟩=>⟨x::xs,H2,I2,.cons r1 r2,q2⟩
noncomputable def lL(t:TA):TE:=λσ H Q=>t σ H λxs H1=>xs.length<=sizeLine/\∀p,H1 p=none->Q (.ref p) (upd H1 p (.tup xs))
noncomputable def kf(t:TA):TE:=λσ H Q=>t σ H λxs H1=>xs.length<=sizeLine/\∀p,H1 p=none->Q (.ref p) (upd H1 p (.lst xs))
theorem du{x1}(h:PA X es t):PE X (.Tuple es x1 pos) (lL t):=by
 intro pins s σ H Q I hq
 refine wpAny_Tuple_spliced (thn (h pos pins s σ H _ I hq) λus s1 ⟨xs,H1,I1,r,z,q⟩=>⟨by rw[<-r.length];exact z,?_⟩)
 have hf:H1 s1.heap.objs.size=none:=I1.hok.fresh (nG _)
 refine⟨.ref s1.heap.objs.size,upd H1 s1.heap.objs.size (.tup xs),I1.laid (t':=s1.toks) (λb u e=>my _ e) (nG _) ?_,rfl,q _ hf⟩
 exact⟨z,us,r,⟨_,nM _ rfl,rfl,_,rfl⟩⟩
theorem bK(h:PA X es t):PE X (.List es pos) (kf t):=by
 intro pins s σ H Q I hq
 refine wpAny_List_spliced (thn (h pos pins s σ H _ I hq) λus s1 ⟨xs,H1,I1,r,z,q⟩=>⟨by rw[<-r.length];exact z,?_⟩)
 have hf:H1 s1.heap.objs.size=none:=I1.hok.fresh (nG _)
 refine⟨.ref s1.heap.objs.size,upd H1 s1.heap.objs.size (.lst xs),I1.laid (t':=s1.toks) (λb u e=>my _ e) (nG _) ?_,rfl,q _ hf⟩
 exact⟨z,us,0,r,nM _ rfl⟩
end
abbrev Sp:=List V->Hp->VK->XK->Prop
abbrev CXT:=List Env->Hp->m8->XK->mz->m8->Prop
structure fc(P:nq)(w:oN)(K:mx)(mg:Str->nB mz)(base:oQ)(A:oU)(outer:List Env)(s:m8)(H:Hp):Prop where
 frames:A.frames=Gc outer
 mod:Mod K mg base
 bs:∀b o,base.get? b=Gc o->s.heap.get? b=Gc o/\H b=none
 bsz:base.objs.size<=s.heap.objs.size
 US:s.heap.FunFrames base outer
 frf:∀b∈frs outer,H b=none
 hok:HOk P w H s.heap
 bare:vP s.gens
def CE(outer:List Env)(P:nq)(w:oN)(H:Hp)(s:m8)(Q:VK)(u:mz)(s':m8):Prop:=
 ∃v H',s'.os=s.os/\vP s'.gens/\Un (frs outer) [] H H' s.heap s'.heap/\HOk P w H' s'.heap/\RelV v u/\Q v H'
def CR(CX:CXT)(outer:List Env)(P:nq)(w:oN)(H:Hp)(s:m8)(Q:VK)(E:XK)(r:Result)(s':m8):Prop:=
 match r with
 | .ok (.ret u)=>CE outer P w H s Q u s'
 | .ok _=>sH
 | .error e=>CX outer H s E e s'
structure OM(P:nq)(w:oN)(K:mx)(mg:Str->nB mz)(base:oQ)(CX:CXT)(k:Nat)(f:nH)(fd:qd)(ps:List Str)(sp:Sp):Prop where
 len:∀vs H Q E,sp vs H Q E->vs.length=ps.length
 run:∀(A:oU) (outer:List Env) (s:m8) (H:Hp) (args:Args) (us:List mz) (vs:List V) (Q:VK) (E:XK),Lq k A->fc P w K mg base A outer s H->yP s fd args (ps.zip us)->Vals vs us->sp vs H Q E->
  codeAny (model P w) A (.call (.ref f) args) (CR CX outer P w H s Q E) s
theorem OM.imp{P:nq}{w:oN}{K:mx}{mg:Str->nB mz}{base:oQ}{CX:CXT}{k:Nat}{f:nH}{fd:qd}{ps:List Str}{sp sp':Sp}(F:OM P w K mg base CX k f fd ps sp)(h:∀vs H Q E,sp' vs H Q E->sp vs H Q E):OM P w K mg base CX k f fd ps sp':=
 ⟨λvs H Q E q=>F.len vs H Q E (h _ _ _ _ q),λA outer s H args us vs Q E hr he hb hv hs=>F.run A outer s H args us vs Q E hr he hb hv (h _ _ _ _ hs)⟩
section
variable{X:Cx}{pins:List (nH×Obj)}{σ:St}{H:Hp}{s s':m8}
theorem Inv.lP(I:Inv X pins σ H s):fc X.prog X.w X.K X.mg X.base X.A X.stack s H:=
 ⟨I.ok.frames,I.ok.mod,I.bs,nL I.ok.bsz I.sz,I.stack,I.TJ,I.hok,I.bare⟩
theorem Inv.after{Q:VK}{u:mz}(I:Inv X pins σ H s)(h:CE X.stack X.prog X.w H s Q u s'):EP X pins σ Q u s':=by
 obtain⟨v,H',os,bare,un,hok,r,q⟩:=h
 obtain⟨hh,g,d,t,os'⟩:=s'
 obtain rfl:os'=s.os:=os
 exact⟨v,H',I.call (h':=hh) (g':=g) (d':=d) (t':=t) (ch:=[]) un hok bare (λb z=>absurd z (by simp)),r,q⟩
end
noncomputable def Y5(sp:Sp)(dvs:List V)(E:XK)(t:TA):TE:=λσ H Q=>t σ H λvs H1=>sp (vs++dvs) H1 Q E
def Binds(K:mx)(fd:qd)(ps:List Str)(ds:List mz):Prop:=
 ∀(s:m8) (us:List mz),K.In s.heap->(us++ds).length=ps.length->yP s fd ⟨us,[]⟩ (ps.zip (us++ds))
theorem Binds.all{K:mx}{fd:qd}{ps:List Str}(h:∀us:List mz,us.length=ps.length->bindArgs fd ⟨us,[]⟩=pure (ps.zip us)):Binds K fd ps []:=λs us _ hl=>by
 rw[uh]at hl⊢
 exact .of_eq (h us hl)
def Passes(CX:CXT)(X:Cx)(E:XK):Prop:=∀(pins:List (nH×Obj)) (σ:St) (H:Hp) (s:m8) (e:mz) (s':m8),Inv X pins σ H s->CX X.stack H s E e s'->X.xe e s'
section
variable{X:Cx}{CX:CXT}{k:Nat}{f C:nH}{fd:qd}{ps:List Str}{sp:Sp}{dvs:List V}{ds:List mz}{E:XK}{x m:Str}{p pos apos:Pos}{e o:oI}{es:List oI}{ta:TE}{t:TA}
theorem bN{pins:List (nH×Obj)}{σ:St}{H:Hp}{s:m8}{Q:VK}{us:List mz}{vs:List V}(F:OM X.prog X.w X.K X.mg X.base CX k f fd ps sp)(hr:Lq k X.A)(hb:Binds X.K fd ps ds)(hd:Vals dvs ds)(hx:Passes CX X E)(I:Inv X pins σ H s)(r:Vals vs us)(h:sp (vs++dvs) H Q E):wpAny (model X.prog X.w) X.A (call (.ref f) us) (EP X pins σ Q) X.xe s:=by
 have r2:Vals (vs++dvs) (us++ds):=r.append hd
 have hl:(us++ds).length=ps.length:=by rw[<-r2.length];exact F.len _ _ _ _ h
 refine wpAny_call (uo (F.run X.A X.stack s H ⟨us,[]⟩ (us++ds) (vs++dvs) Q E hr I.lP (hb s us I.kIn hl) r2 h) λr s' hq=>?_)
 cases r with
 |error e=>exact hx pins σ H s e s' I hq
 |ok fl=>
  cases fl with
  |ret u=>exact I.after hq
  |next=>exact rf hq
  |brk=>exact rf hq
  |cont=>exact rf hq
theorem Zq(F:OM X.prog X.w X.K X.mg X.base CX k f fd ps sp)(hr:Lq k X.A)(hg:Gl X x)(hm:X.mg x=Gc (.ref f))(hk:qk X.K (.ref f)=true)(hb:Binds X.K fd ps ds)(hd:Vals dvs ds)(hx:Passes CX X E)(ha:PA X (e::es) t)(hdb:(x==("__debug__":Str))=false:=by decide)(he:nv (e::es) X.env=(false,eval e X.env)::nv es X.env:=by rfl)(hpl:(backTo pos (nv es X.env)).any (·.1)=false:=by rfl):PE X (.Call (.Name x p) (e::es) [] pos) (Y5 sp dvs E t):=by
 intro pins s σ H Q I h
 refine qm (SF I hg hm ?_ hdb)
 refine PySem.W.callWith_K (h₀:=X.base) I.ok.mod.kin hk (thn (ha pos pins s σ H _ I h) λus s1 ⟨vs,H1,I1,r,q⟩=>⟨I1.kIn,?_⟩) he hpl
 exact bN F hr hb hd hx I1 r q
structure Mk(K:mx)(C f:nH):Prop where
 makes:PySem.W.makesIn K C=true
 init:t8 K (.ref C) "__init__"=Gc (Gc (.ref f))
 fn:PySem.W.isFn K (.ref f)=true
 kp:qk K (.ref C)=true
end
section
variable{X:Cx}{CX:CXT}{k:Nat}{f C:nH}{fd:qd}{ps ks:List Str}{sp:Sp}{E:XK}{x m:Str}{p pos apos kpos:Pos}{e o:oI}{es:List oI}{kws:List vQ}{te ta:TE}{t tk:TA}{nm:nB Str}
structure kA(K:mx)(fd:qd)(ps ks:List Str)(g:List mz->List mz->List mz)(gV:List V->List V->List V):Prop where
 to:∀(s:m8) (us ws:List mz),K.In s.heap->(g us ws).length=ps.length->yP s fd ⟨us,ks.zip ws⟩ (ps.zip (g us ws))
 rel:∀{vs:List V} {us:List mz} {zs:List V} {ws:List mz},Vals vs us->Vals zs ws->Vals (gV vs zs) (g us ws)
variable{g:List mz->List mz->List mz}{gV:List V->List V->List V}
end
structure AU(N P:List Str)(sc:rQ):Prop where
 kind:sc.kind=.function
 co:sc.isCoroutine=false
 gen:sc.isGenerator=false
 nd:N.Nodup
 pre:N.take P.length=P
 par:∀x∈P,sc.names.lookup x=Gc .local\/sc.names.lookup x=Gc .cell
 dO:∀y∈sc.names,y.2≠.free
theorem O4{kindOf:Str->nB sI}{x:Str}:∀{binds:List (Str×mz)} {m:Str->nB mz},(∀v,(x,v)∉binds)->bindL kindOf binds m x=m x
 | [],_,_=>rfl
 |(n,v)::r,m,h=>by
  unfold bindL
  rw[O4 λw hw=>h w (nC _ hw)]
  split
  .have:x≠n:=by rintro rfl;exact h v nO
   simp[this]
  .rfl
theorem Om{kindOf:Str->nB sI}{x:Str}:∀{binds:List (Str×mz)} {m:Str->nB mz},(∀v,(x,v)∉binds)->bindC kindOf binds m x=m x
 | [],_,_=>rfl
 |(n,v)::r,m,h=>by
  unfold bindC
  rw[Om λw hw=>h w (nC _ hw)]
  split
  .rfl
  .have:x≠n:=by rintro rfl;exact h v nO
   simp[this]
theorem OT{kindOf:Str->nB sI}{x:Str}{v:mz}:∀{P:List Str} {vs:List mz} {i:Nat} {m:Str->nB mz},P.Nodup->P[i]?=Gc x->vs[i]?=Gc v->kindOf x=Gc .local->bindL kindOf (P.zip vs) m x=Gc v
 | [],_,_,_,_,h,_,_=>by simp at h
 |_::_,[],_,_,_,_,h,_=>by simp at h
 |p::P,w::vs,0,m,nd,h1,h2,hk=>by
  simp at h1 h2;subst h1;subst h2
  show bindL kindOf ((p,w)::P.zip vs) m p=_
  unfold bindL
  rw[O4 λv hv=>(qN.mp nd).1 (sJ hv).1,nh hk]
  simp
 |p::P,w::vs,i+1,m,nd,h1,h2,hk=>by
  show bindL kindOf ((p,w)::P.zip vs) m x=_
  unfold bindL
  exact OT (i:=i) (qN.mp nd).2 (by simpa using h1) (by simpa using h2) hk
theorem PU{kindOf:Str->nB sI}{x:Str}{v:mz}:∀{P:List Str} {vs:List mz} {i:Nat} {m:Str->nB mz},P.Nodup->P[i]?=Gc x->vs[i]?=Gc v->kindOf x≠Gc .local->bindC kindOf (P.zip vs) m x=Gc v
 | [],_,_,_,_,h,_,_=>by simp at h
 |_::_,[],_,_,_,_,h,_=>by simp at h
 |p::P,w::vs,0,m,nd,h1,h2,hk=>by
  simp at h1 h2;subst h1;subst h2
  show bindC kindOf ((p,w)::P.zip vs) m p=_
  unfold bindC
  rw[Om λv hv=>(qN.mp nd).1 (sJ hv).1,oE hk]
  simp
 |p::P,w::vs,i+1,m,nd,h1,h2,hk=>by
  show bindC kindOf ((p,w)::P.zip vs) m x=_
  unfold bindC
  exact PU (i:=i) (qN.mp nd).2 (by simpa using h1) (by simpa using h2) hk
noncomputable def start(N:List Str)(vs:List V):St:=vs.map Gc++nX (N.length-vs.length) none
noncomputable def Xg(CX:CXT)(P:nq)(w:oN)(K:mx)(mg:Str->nB mz)(base:oQ)(N:List Str)(qual:Str)(scope:rQ)(f:nH)(cd:mz)(A:oU)(outer:List Env)(s:m8)(H:Hp)(E:XK):Cx where
 prog:=P
 w:=w
 K:=K
 mg:=mg
 base:=base
 A:=A.deeper (envOfC qual scope s.heap.objs.size f cd)
 N:=N
 s₀:=s
 H₀:=H
 env:=envOfC qual scope s.heap.objs.size f cd
 outer:=outer
 stack:=envOfC qual scope s.heap.objs.size f cd::outer
 ex:=[]
 calm:=true
 fn:=λ_=>true
 pn:=[]
 xe:=λe s'=>wpAny (model P w) (A.deeper (envOfC qual scope s.heap.objs.size f cd)) (leaving (envOfC qual scope s.heap.objs.size f cd) e) (λ_ s''=>CX outer H s E e s'') (λe' s''=>CX outer H s E e' s'') s'
theorem Kk{sc:rQ}{n:Nat}{x:Str}(h:sc.names.lookup x=Gc .cell):∃c,(cellsFrom n sc.names []).lookup x=Gc c:=by
 have q:=v8 sc.names n [] (.inl h)
 exact Option.isSome_iff_exists.mp q
theorem Sj{CX:CXT}{P:nq}{w:oN}{K:mx}{mg:Str->nB mz}{base:oQ}{N ps:List Str}{qual:Str}{scope:rQ}{f:nH}{cd:mz}{A:oU}{outer:List Env}{s s1:m8}{H:Hp}{E:XK}{us:List mz}{vs:List V}(S:AU N ps scope)(hd:A.handled=none)(e0:fc P w K mg base A outer s H)(hl:vs.length=ps.length)(r:Vals vs us)(x:InCallC s s.heap.objs.size (bindL (envOfC qual scope s.heap.objs.size f cd).kindOf (ps.zip us) λ_=>none) (cellsFrom (s.heap.objs.size+1) scope.names []) (bindC (envOfC qual scope s.heap.objs.size f cd).kindOf (ps.zip us) λ_=>none) s1):Inv (Xg CX P w K mg base N qual scope f cd A outer s H E) [] (start N vs) H s1:=by
 have hpl:ps.length<=N.length:=by have:=congrArg zV S.pre;rw[vf]at this;lia
 obtain⟨h1,tk,rfl,hk⟩:=x.done
 have noA:∀b:nH,b∉(Xg CX P w K mg base N qual scope f cd A outer s H E).ex:=λb z=>absurd (show b∈([]:List nH)from z) (by simp)
 refine⟨⟨e0.mod,S.kind,rfl,rfl,nG _,λy z c h1 h2=>?_,λy hy=>?_,λy c _ h=>?_,λ_=>hd,Around.frames_deeper e0.frames,.inr ⟨rfl,rfl⟩,λb z=>absurd z (noA b),e0.bs,e0.bsz,λb _ _=>noA b,λb z=>absurd z (noA b),e0.US,e0.frf⟩,
  rfl,e0.bare,Un.kept hk,⟨_,x.toInCall.ns,λi y v h1 h2 h3=>?_⟩,λy c h=>⟨_,x.cell y c h⟩,e0.hok.fresh (nG _),λy c h=>?_,λp hp=>absurd (show p∈([]:List (nH×Obj))from hp) (by simp),e0.hok.kept hk,?_⟩
 .exact name_of_addr x.apart (pQ h1) (pQ h2)
 .have hy:scope.names.lookup y=Gc .cell\/scope.names.lookup y=Gc .free:=hy
  rcases hy with hy|hy
  .exact Kk hy
  .exact absurd rfl (S.dO _ (pQ hy))
 .exact qJ (x.above y c (pQ h))
 .have hi:i<vs.length:=by
   unfold start at h2
   by_cases hi:i<vs.length
   .exact hi
   .rw[oP (by simpa using hi)]at h2
    rw[vg]at h2
    split at h2<;>cases h2
  have ha:vs[i]?=Gc v:=by
   unfold start at h2
   rw[nF (by simpa using hi),ng]at h2
   cases e:vs[i]? with
   |none=>rw[e]at h2;cases h2
   |some a=>rw[e]at h2;cases h2;rfl
  obtain⟨u,hu,rv⟩:=r.get ha
  have hp:ps[i]?=Gc y:=by
   rw[<-S.pre,List.getElem?_take_of_lt (by lia)];exact h1
  have ndP:ps.Nodup:=by rw[<-S.pre];exact S.nd.sublist (yQ _ _)
  refine⟨u,rv,?_⟩
  rcases S.par y (nZ hp)with k|k
  .exact .inl ⟨k,OT ndP hp hu k⟩
  .obtain⟨c,e⟩:=Kk (n:=s.heap.objs.size+1) k
   refine .inr ⟨.inl k,c,e,?_⟩
   have q:=x.cell y c e
   rw[PU ndP hp hu (by show scope.names.lookup y≠_;rw[k];decide)]at q
   exact q
 .exact e0.hok.fresh (qJ (x.above y c (pQ h)))
 .unfold start
  show _=N.length
  rw[pF,oG,we]
  lia
theorem jH{CX:CXT}{P:nq}{w:oN}{K:mx}{mg:Str->nB mz}{base:oQ}{k:Nat}{f:nH}{name qual:Str}{params:Arguments}{body:List pN}{scope:rQ}{dV kV doc pm cdv ct oc:mz}{an od:nB nH}{osl:oH (nB mz)}{N ps:List Str}{sp:Sp}(lk:K.lookup f=Gc ⟨oc,od,.func (su name qual params body scope dV kV doc pm an cdv ct),osl⟩)(hcd:uz K cdv qual=true)(S:AU N ps scope)(len:∀vs H Q E,sp vs H Q E->vs.length=ps.length)(hbody:∀(A:oU) (outer:List Env) (s:m8) (H:Hp) (vs:List V) (Q:VK) (E:XK),Lq k (A.deeper (envOfC qual scope s.heap.objs.size f cdv))->sp vs H Q E->∃t,PSs (Xg CX P w K mg base N qual scope f cdv A outer s H E) body t/\t {nx:=λ_ H'=>Q .non H',rt:=Q} (start N vs) H):OM P w K mg base CX (k+1) f (su name qual params body scope dV kV doc pm an cdv ct) ps sp:=by
 refine⟨len,λA outer s H args us vs Q E hr e0 hb r hsp=>?_⟩
 have hl:=len _ _ _ _ hsp
 have KX:K.In s.heap:=e0.mod.kin.keeps λb o e=>(e0.bs b o e).1
 have lim:s.heap.NoLimit:=e0.mod.nolimit.keeps λb o e=>(e0.bs b o e).1
 have hkind:∀y∈ps.zip us,scope.names.lookup y.1=Gc .local\/(scope.names.lookup y.1=Gc .cell/\((cellsFrom (s.heap.objs.size+1) scope.names []).lookup y.1).isSome=true):=λ⟨n,v⟩ hy=>by
  rcases S.par n (sJ hy).1 with q|q
  .exact .inl q
  .exact .inr ⟨q,v8 _ _ _ (.inl q)⟩
 refine codeAny_call_function hr.depth (KX _ _ lk) rfl S.co S.gen rfl (PySem.W.codeRec_of KX hcd) (hb _ _ _ _ ?_)
 refine wpAny_newFunctionEnv_cells S.kind hkind λenv he s1 x=>?_
 subst he
 refine⟨lim.keeps x.toInCall.keep,codeAny_func ?_⟩
 obtain⟨t,ht,hq⟩:=hbody A outer s H vs Q E (hr.deeper _) hsp
 have I:Inv (Xg CX P w K mg base N qual scope f cdv A outer s H E) [] (start N vs) H s1:=Sj S hr.hd e0 hl r x
 refine uw (ht [] s1 (start N vs) H _ I hq) (λfl s' hs=>?_) λe s' hs=>hs
 have fin:∀{σ':St} {H':Hp} {v:V} {u:mz},Inv (Xg CX P w K mg base N qual scope f cdv A outer s H E) [] σ' H' s'->RelV v u->Q v H'->CE outer P w H s Q u s':=
  λ{σ' H' v u} J rv q=>⟨v,H',J.os,J.bare,J.base,J.hok,rv,q⟩
 cases fl with
 |ret u=>
  obtain⟨v,σ',H',J,rv,q⟩:=hs
  exact fin J rv q
 |next=>
  obtain⟨σ',H',J,q⟩:=hs
  exact fin (v:=V.non) (u:=pz) J rfl q
 |brk=>
  obtain⟨_,_,_,q⟩:=hs
  exact rf q
 |cont=>
  obtain⟨_,_,_,q⟩:=hs
  exact rf q
end L2
namespace L2
open PySem PySem.Spec PyProof.Rows
section
variable{X:Cx}{x:Str}{p pos:Pos}{e:oI}{es:List oI}{t:TA}{id T:qj}{r:List V->Hp->VK->Prop}
noncomputable def tCB(r:List V->Hp->VK->Prop)(t:TA):TE:=λσ H Q=>t σ H λvs H1=>r vs H1 Q
theorem WE(hc:Dl X (.builtin id) r)(hg:Gl X x)(hm:X.mg x=none)(hv:bootBuiltins x=Gc (.builtin id))(ha:PA X (e::es) t)(hn:x≠ "__name__":=by decide)(hdb:(x==("__debug__":Str))=false:=by decide)(he:nv (e::es) X.env=(false,eval e X.env)::nv es X.env:=by rfl)(hpl:(backTo pos (nv es X.env)).any (·.1)=false:=by rfl):PE X (.Call (.Name x p) (e::es) [] pos) (tCB r t):=by
 intro pins s σ H Q I h
 refine qm (JW I hg hm hv ?_ hn hdb)
 exact zB (thn (ha pos pins s σ H _ I h) λus s1 ⟨vs,H1,I1,r1,q1⟩=>hc pins s1 σ H1 vs us Q I1 r1 q1) he hpl
theorem La(hc:Dl X (.type T) r)(hg:Gl X x)(hm:X.mg x=none)(hv:bootBuiltins x=Gc (.type T))(ha:PA X (e::es) t)(hn:x≠ "__name__":=by decide)(hdb:(x==("__debug__":Str))=false:=by decide)(he:nv (e::es) X.env=(false,eval e X.env)::nv es X.env:=by rfl)(hpl:(backTo pos (nv es X.env)).any (·.1)=false:=by rfl):PE X (.Call (.Name x p) (e::es) [] pos) (tCB r t):=by
 intro pins s σ H Q I h
 refine qm (JW I hg hm hv ?_ hn hdb)
 exact qI (thn (ha pos pins s σ H _ I h) λus s1 ⟨vs,H1,I1,r1,q1⟩=>hc pins s1 σ H1 vs us Q I1 r1 q1) he hpl
end
end L2
namespace HT
open PySem PyProof.Rows
section
open PySem.SeqAt
open PySem.AutoSeq1 (wpAny_loadPart')
open PySem.MeetsSeq PySem.MeetsSeq2 PySem.MeetsSeq3
end
section
variable{prog:nq}{w:oN}{A:oU}{E:mz->m8->Prop}{s:m8}
theorem ZV{t b:nH}{vs ws:List mz}{Q:mz->m8->Prop}(ht:IsTup s.heap t vs.toArray)(hb:IsTup s.heap b ws.toArray)(hv:vs≠[])(h1:ws=[]->Q (.ref t) s)(h2:ws≠[]->Q (.ref s.heap.objs.size) {s with heap:=s.heap.push {cls:=.type "tuple",data:=.seq (vs++ws).toArray}})(hsz:vs.length+ws.length<=sizeLine):wpAny (model prog w) A (binaryOp .Add (.ref t) (.ref b)) Q E s:=by
 obtain⟨⟨cls,dd,data,sl⟩,ho,hc,n,hd⟩:=id ht
 obtain⟨⟨cls2,dd2,data2,sl2⟩,ho2,hc2,n2,hd2⟩:=id hb
 simp only at hc hd hc2 hd2
 subst hc hd hc2 hd2
 have e:vs.toArray++ws.toArray=(vs++ws).toArray:=by simp
 by_cases hw:ws=[]
 .exact yR ⟨_,ho,rfl⟩ ⟨_,ho2,rfl⟩ vh xk t9 tm (tP _ _)
   (tuple_addW1 t b vs.toArray ws.toArray n n2 dd dd2 sl sl2 (by simpa using hv) (by simp[hw])) ⟨ho,ho2,h1 hw⟩
 .refine yR ⟨_,ho,rfl⟩ ⟨_,ho2,rfl⟩ vh xk t9 tm (tP _ _)
   (tuple_addW2 t b vs.toArray ws.toArray n n2 dd dd2 sl sl2 (by simpa using hv) (by simpa using hw) (by rw[nQ,nQ];exact hsz)) ⟨ho,ho2,?_⟩
  rw[e]
  exact h2 hw
noncomputable def sIx(n d:Nat):nB Int->Nat
 |none=>d
 |some v=>if v<0 then(v+(n:Int)).toNat else min v.toNat n
theorem P8(n d k:Nat):sIx n d (Gc (k:Int))=min k n:=by
 show(if(k:Int)<0 then((k:Int)+(n:Int)).toNat else min (k:Int).toNat n)=min k n
 rw[oE (by lia),sS]
theorem dA(n d:Nat)(hd:d<=n)(o:nB Int):sIx n d o<=n:=by
 cases o with
 |none=>exact hd
 |some v=>
  show(if v<0 then(v+(n:Int)).toNat else min v.toNat n)<=n
  by_cases hv:v<0
  .rw[nh hv];lia
  .rw[oE hv];exact zC _ _
theorem UY(v:Int)(n d:Nat):(if v<0 then max (v+(n:Int)) 0 else min v (n:Int))=((sIx n d (Gc v):Nat):Int):=by
 show(if v<0 then max (v+(n:Int)) 0 else min v (n:Int))=(((if v<0 then(v+(n:Int)).toNat else min v.toNat n):Nat):Int)
 by_cases hv:v<0
 .simp only[nh hv];lia
 .simp only[oE hv];lia
theorem Ro(lo hi:nB Int)(n:Nat):sx lo hi 1 (n:Int)=(((sIx n 0 lo:Nat):Int),((sIx n n hi:Nat):Int)):=by
 have h1:¬((1:Int)<0):=by lia
 unfold sx
 simp only[h1,sZ]
 refine Prod.ext ?_ ?_
 .cases lo with
  |none=>rfl
  |some v=>exact UY v n 0
 .cases hi with
  |none=>rfl
  |some v=>exact UY v n n
theorem Rb(i j:Nat):qz (i:Int) (j:Int) 1=j-i:=by
 unfold qz
 have h1:(1:Int)>0:=by lia
 simp only[h1,uW,Int.ediv_one]
 split<;>lia
theorem ML{v:mz}{o:nB Int}{Q:nB Int->m8->Prop}(p:v9 v o)(h:Q o s):wpAny (model prog w) A (zd v) Q E s:=by
 cases p with
 |none=>exact slicePart_none h
 |int i t=>exact slicePart_int h
theorem Gy{sl:nH}{vl vu:mz}{lo hi:nB Int}{n:Nat}{Q:Int×Int×Nat->m8->Prop}(hs:s.heap.IsSliceOf sl vl vu .none)(pl:v9 vl lo)(pu:v9 vu hi)(h:Q (((sIx n 0 lo:Nat):Int),1,sIx n n hi-sIx n 0 lo) s):wpAny (model prog w) A (vA (.ref sl) (pure (n:Int))) Q E s:=by
 obtain⟨os,hos,hcs,hds⟩:=id hs
 unfold vA Builtin.Slice.sliceFields
 refine Wp (Wp (qh hos hds (x:=vl) rfl (Wp (qh hos hds (x:=vu) rfl (Wp (qh hos hds (x:=.none) rfl (m9 ?_)))))))
 refine Wp (slicePart_none ?_)
 show wpAny _ _ (if((1:Int)==0)=true then _ else _) _ _ s
 rw[oE (by decide)]
 refine Wp (ML pl (Wp (ML pu (Wp (m9 ?_)))))
 show wpAny _ _ (match sx lo hi 1 (n:Int)with|(lo,hi)=>pure (lo,(1:Int),qz lo hi 1)) _ _ s
 rw[Ro lo hi n]
 show wpAny _ _ (pure (((sIx n 0 lo:Nat):Int),(1:Int),qz ((sIx n 0 lo:Nat):Int) ((sIx n n hi:Nat):Int) 1)) _ _ s
 rw[Rb]
 exact m9 h
theorem XO(xs:oH mz)(i k:Nat):((oF k).filterMap λ(m:Nat)=>xs[((i:Int)+(m:Int)*1).toNat]?).toArray=((xs.toList.drop i).take k).toArray:=by
 have e:(λ(m:Nat)=>xs[((i:Int)+(m:Int)*1).toNat]?)=λm=>xs[i+m]?:=by
  funext m
  have:((i:Int)+(m:Int)*1).toNat=i+m:=by lia
  rw[this]
 rw[e]
 have:=pick_run xs i k
 rw[List.filterMap_map]at this
 have e2:((λx=>xs[x]?)∘λx=>i+x)=λm=>xs[i+m]?:=rfl
 rw[e2]at this
 rw[this]
theorem Jm{t sl:nH}{items:oH mz}{vl vu:mz}{lo hi:nB Int}{Q:mz->m8->Prop}(ht:IsTup s.heap t items)(hs:s.heap.IsSliceOf sl vl vu .none)(pl:v9 vl lo)(pu:v9 vu hi)(hw:¬(sIx items.size 0 lo=0/\sIx items.size items.size hi=items.size))(h:Q (.ref s.heap.objs.size) {s with heap:=s.heap.push {cls:=.type "tuple",data:=.seq ((items.toList.drop (sIx items.size 0 lo)).take (sIx items.size items.size hi-sIx items.size 0 lo)).toArray}})(hsz:items.size<=sizeLine):wpAny (model prog w) A (getItem (.ref t) (.ref sl)) Q E s:=by
 have htake:sizeOk (.seq ((items.toList.drop (sIx items.size 0 lo)).take (sIx items.size items.size hi-sIx items.size 0 lo)).toArray):=by
  show((items.toList.drop (sIx items.size 0 lo)).take (sIx items.size items.size hi-sIx items.size 0 lo)).toArray.size<=sizeLine
  rw[nQ,vf,zD,pP]
  lia
 have hj:sIx items.size items.size hi<=items.size:=dA _ _ (nG _) hi
 obtain⟨os,hos,hcs,hds⟩:=id hs
 have hTs:s.TypeIs (.ref sl) "slice":=⟨os,hos,hcs⟩
 unfold getItem
 try with_reducible refine oq ?_
 first|refine Wp (m9 ?_)|skip
 refine Wp (yS ht.typeIs (by decide) ?_)
 refine Wp (oo (name:=pR "__getitem__") ht.typeIs pH
  (oW pH ht.typeIs xV ?_ (xt _ _)))
 show wpAny _ _ (vB (.ref t) >>= _) _ _ s
 refine Wp (tupleItemsOf_ ht ?_)
 refine Wp (rh hTs ?_)
 rw[nh (by decide)]
 refine Wp (Gy hs pl pu ?_)
 have hno:¬((((sIx items.size 0 lo:Nat):Int)==0 && (1:Int)==1 && (sIx items.size items.size hi-sIx items.size 0 lo)==items.size)=true):=by
  intro q
  rw[nW,nW]at q
  have q1:((sIx items.size 0 lo:Nat):Int)=0:=eq_of_beq q.1.1
  have q2:sIx items.size items.size hi-sIx items.size 0 lo=items.size:=eq_of_beq q.2
  exact hw ⟨by lia,by lia⟩
 show wpAny _ _ (if(((sIx items.size 0 lo:Nat):Int)==0 && (1:Int)==1 && (sIx items.size items.size hi-sIx items.size 0 lo)==items.size)=true then _ else _) _ _ s
 rw[oE hno,XO]
 first
  |exact Wp (m:=rJ _) (pE (m9 ⟨_,rfl,m9 h⟩) htake)
  |exact Wp (m:=rJ _) (pE (Wp (m9 (m9 ⟨_,rfl,m9 h⟩))) htake)
  |exact Wp (Wp (m:=rJ _) (pE (m9 (m9 ⟨_,rfl,m9 h⟩)) htake))
  |exact Wp (Wp (m:=rJ _) (pE (m9 ⟨_,rfl,m9 h⟩) htake))
end
end HT
namespace L2
open PySem PySem.Spec PyProof.Rows
abbrev TO:=St->Hp->(nB Int->Hp->Prop)->Prop
def PO(X:Cx)(e:nB oI)(t:TO):Prop:=
 ∀(pins:List (nH×Obj)) (s:m8) (σ:St) (H:Hp) (Q:nB Int->Hp->Prop),Inv X pins σ H s->t σ H Q->
  wpAny (model X.prog X.w) X.A (evalPart e X.env) (λu s'=>∃o H',Inv X pins σ H' s'/\v9 u o/\Q o H') X.xe s
noncomputable def aR:TO:=λ_ H Q=>Q none H
noncomputable def jK(t:TE):TO:=λσ H Q=>t σ H λx H1=>∃i,x=.int i/\Q (Gc i) H1
theorem intsAre_of{ns:List Int}:∀{us:List mz},Vals (ns.map V.int) us->qO us ns:=by
 induction ns with
 |nil=>intro us r;rw[oy]at r;cases r;exact .nil
 |cons n ns ih=>
  intro us r
  rw[nR]at r
  cases r with
  |cons r1 r2=>
   obtain⟨t,e⟩:=r1
   subst e
   exact .cons n t (ih r2)
section
variable{X:Cx}{e:oI}{te:TE}{lo hi:nB oI}{tl th:TO}{pos p2:Pos}
theorem Ut:PO X none aR:=by
 intro pins s σ H Q I h
 rw[evalPart_none]
 exact m9 ⟨none,H,I,.none,h⟩
theorem Ni(h:PE X e te):PO X (Gc e) (jK te):=by
 intro pins s σ H Q I hw
 rw[evalPart_some]
 refine thn (h pins s σ H _ I hw) λu s1 ⟨x,H1,I1,r1,q1⟩=>?_
 obtain⟨i,rfl,q⟩:=q1
 obtain⟨t,rfl⟩:=r1
 exact⟨Gc i,H1,I1,.int i t,q⟩
def SlR(X:Cx)(r:V->nB Int->nB Int->Hp->VK->Prop):Prop:=
 ∀(pins:List (nH×Obj)) (s:m8) (σ:St) (H:Hp) (x:V) (v vl vu:mz) (lo hi:nB Int) (sl:nH) (Q:VK),Inv X pins σ H s->RelV x v->s.heap.IsSliceOf sl vl vu .none->v9 vl lo->v9 vu hi->r x lo hi H Q->
  ∃T id,typeLookup (.type T) "__getitem__"=pure (Gc (.builtin id))/\s.TypeIs v T/\wpAny (model X.prog X.w) X.A (getItem v (.ref sl)) (EP X pins σ Q) X.xe s
noncomputable def tSl(r:V->nB Int->nB Int->Hp->VK->Prop)(te:TE)(tl th:TO):TE:=λσ H Q=>te σ H λx H1=>tl σ H1 λl H2=>th σ H2 λu H3=>r x l u H3 Q
theorem NY{r:V->nB Int->nB Int->Hp->VK->Prop}(hr:SlR X r)(he:PE X e te)(hl:PO X lo tl)(hu:PO X hi th):PE X (.Subscript e (.Slice lo hi none p2) pos) (tSl r te tl th):=by
 intro pins s σ H Q I h
 refine Subscript_ (thn (he pins s σ H _ I h) λv s1 ⟨x,H1,I1,r1,q1⟩=>?_)
 refine wpAny_Slice (thn (hl pins s1 σ H1 _ I1 q1) λvl s2 ⟨l,H2,I2,pl,q2⟩=>thn (hu pins s2 σ H2 _ I2 q2) λvu s3 ⟨u,H3,I3,pu,q3⟩=>?_)
 rw[evalPart_none]
 refine m9 ?_
 have I4:Inv X pins σ H3 {s3 with heap:=s3.heap.push {cls:=.type "slice",data:=.fields #[vl,vu,.none]}}:=I3.kept (t':=s3.toks) λb ob q=>my _ q
 obtain⟨T,id,hT,ht,hg⟩:=hr pins {s3 with heap:=s3.heap.push {cls:=.type "slice",data:=.fields #[vl,vu,.none]}} σ H3 x v vl vu l u s3.heap.objs.size Q I4 r1 (Heap.IsSliceOf.new ..) pl pu q3
 show wpAny (model X.prog X.w) X.A (subscriptTail e (.Slice lo hi none p2) v (.ref s3.heap.objs.size)) (EP X pins σ Q) X.xe {s3 with heap:=s3.heap.push {cls:=.type "slice",data:=.fields #[vl,vu,.none]}}
 exact tail_any (ops:=[.ref s3.heap.objs.size,v]) ht hT hg (by with_unfolding_all rfl)
noncomputable def YO(xs:List V)(lo hi:nB Int):List V:=(xs.drop (HT.sIx xs.length 0 lo)).take (HT.sIx xs.length xs.length hi-HT.sIx xs.length 0 lo)
theorem LP(xs:List V)(lo hi:nB Int):(YO xs lo hi).length<=xs.length:=by
 unfold YO
 rw[vf,zD]
 lia
def mE(K:mx):V->nB Int->nB Int->Hp->VK->Prop:=λx lo hi H Q=>∃a xs,x=.ref a/\SqT K H a xs/\
 ¬(HT.sIx xs.length 0 lo=0/\HT.sIx xs.length xs.length hi=xs.length)/\∀p,H p=none->Q (.ref p) (upd H p (.tup (YO xs lo hi)))
theorem cX:SlR X (mE X.K):=by
 intro pins s σ H x v vl vu lo hi sl Q I rx hs pl pu h
 obtain⟨a,xs,rfl,hx,hw,q⟩:=h
 cases rx
 obtain⟨its,r,ht,hz⟩:=I.tuple hx
 have hlen:its.toArray.size=xs.length:=by rw[nQ];exact r.length.symm
 refine⟨"tuple",_,pH.lookup,ht.typeIs,?_⟩
 refine HT.Jm ht hs pl pu (by rw[hlen];exact hw) ?_ (by rw[hlen];exact hz)
 rw[hlen]
 refine⟨.ref s.heap.objs.size,_,I.laid (t':=s.toks) (o:=.tup (YO xs lo hi)) (λb ob q=>my _ q) (nG _) ?_,rfl,q _ (I.hok.fresh (nG _))⟩
 exact⟨nL (LP xs lo hi) hz,_,(r.drop (HT.sIx xs.length 0 lo)).take (HT.sIx xs.length xs.length hi-HT.sIx xs.length 0 lo),tK _ _⟩
noncomputable def gk(K:mx):R2:=λx y H Q=>∃a b xs ys,x=.ref a/\y=.ref b/\SqT K H a xs/\SqT K H b ys/\xs≠[]/\xs.length+ys.length<=sizeLine/\
 (ys=[]->Q (.ref a) H)/\(ys≠[]->∀p,H p=none->Q (.ref p) (upd H p (.tup (xs++ys))))
theorem Vals.NZ{xs:List V}{us:List mz}(r:Vals xs us):us=[]↔xs=[]:=by
 cases r with
 |nil=>simp
 |cons _ _=>simp
theorem Zf:OpR X (binaryOp .Add) (gk X.K):=by
 intro pins s σ H x y v u Q I rx ry h
 obtain⟨a,b,xs,ys,rfl,rfl,ha,hb,hx,hz,q1,q2⟩:=h
 cases rx
 cases ry
 obtain⟨its,r1,p1,_⟩:=I.tuple ha
 obtain⟨its2,r2,p2,_⟩:=I.tuple hb
 refine HT.ZV p1 p2 (λz=>hx (r1.NZ.mp z)) (λz=>⟨.ref a,H,I,rfl,q1 (r2.NZ.mp z)⟩) (λz=>?_) (by rw[<-r1.length,<-r2.length];exact hz)
 refine⟨.ref s.heap.objs.size,_,I.laid (t':=s.toks) (o:=.tup (xs++ys)) (λb ob q=>my _ q) (nG _) ?_,rfl,q2 (λw=>z (r2.NZ.mpr w)) _ (I.hok.fresh (nG _))⟩
 exact⟨by rw[pF];exact hz,_,r1.append r2,tK _ _⟩
end
end L2
namespace L2
open PySem PySem.Spec PyProof.Rows
noncomputable def ixN(n:Nat)(i:Int):nB Nat:=if 0<=i then(if i<n then Gc i.toNat else none)else if-(n:Int)<=i then Gc (i+n).toNat else none
noncomputable def atI{α:Type}(xs:List α)(i:Int):nB α:=(ixN xs.length i).bind λj=>xs[j]?
theorem VA{n:Nat}{i:Int}{j:Nat}(h:ixN n i=Gc j):seqIndex? i n=Gc j/\j<n/\ -(n:Int)<=i/\i<n:=by
 unfold ixN at h
 by_cases h0:0<=i
 .rw[nh h0]at h
  by_cases h1:i<n
  .rw[nh h1]at h
   have e:i.toNat=j:=pD h
   exact⟨by rw[zW h0 h1,e],by lia,by lia,h1⟩
  .rw[oE h1]at h;cases h
 .rw[oE h0]at h
  by_cases h1: -(n:Int)<=i
  .rw[nh h1]at h
   have e:(i+n).toNat=j:=pD h
   exact⟨by rw[seqIndex_neg (by lia) h1,e],by lia,h1,by lia⟩
  .rw[oE h1]at h;cases h
theorem Um{α:Type}{xs:List α}{i:Int}{v:α}(h:atI xs i=Gc v):∃j,seqIndex? i xs.length=Gc j/\xs[j]?=Gc v/\j<xs.length/\ -(xs.length:Int)<=i/\i<xs.length:=by
 unfold atI at h
 cases e:ixN xs.length i with
 |none=>rw[e]at h;cases h
 |some j=>
  rw[e]at h
  obtain⟨h1,h2,h3,h4⟩:=VA e
  exact⟨j,h1,h,h2,h3,h4⟩
theorem Y7{α:Type}{xs:List α}{j:Nat}{v:α}(h:xs[j]?=Gc v):atI xs (j:Int)=Gc v:=by
 have hj:j<xs.length:=(nP.mp h).1
 have e:ixN xs.length (j:Int)=Gc j:=by
  unfold ixN
  rw[nh (by lia),nh (by lia)];simp
 unfold atI;rw[e];exact h
theorem RG{α:Type}(xs:List α)(v:α):atI (xs++[v]) (-1)=Gc v:=by
 have hl:(xs++[v]).length=xs.length+1:=by simp
 have e:ixN (xs++[v]).length (-1)=Gc xs.length:=by
  unfold ixN
  rw[hl,oE (by decide),nh (by lia)]
  congr 1
  lia
 unfold atI
 rw[e]
 show(xs++[v])[xs.length]?=Gc v
 simp
def SS(b:oI):Prop:=∀o i,subscripted b false o i=operate [o,i] (getItem o i)
def IxR(X:Cx)(r:R2):Prop:=
 ∀(value slice:oI) (pins:List (nH×Obj)) (s:m8) (σ:St) (H:Hp) (x y:V) (v u:mz) (Q:VK),Inv X pins σ H s->RelV x v->RelV y u->r x y H Q->
  subscripted slice false v u=operate [v,u] (getItem v u)->wpAny (model X.prog X.w) X.A (subscriptTail value slice v u) (EP X pins σ Q) X.xe s
def MtR(X:Cx)(id:qj)(r:V->List V->Hp->VK->Prop):Prop:=
 ∀(pins:List (nH×Obj)) (s:m8) (σ:St) (H:Hp) (x:V) (xs:List V) (v:mz) (us:List mz) (Q:VK),Inv X pins σ H s->RelV x v->Vals xs us->r x xs H Q->
  wpAny (model X.prog X.w) X.A (call (.builtin id) (v::us)) (EP X pins σ Q) X.xe s
section
variable{X:Cx}{a b:oI}{ta tb:TE}{pos:Pos}
theorem je{r:R2}(hr:IxR X r)(ha:PE X a ta)(hb:PE X b tb)(hs:SS b):PE X (.Subscript a b pos) (tOp r ta tb):=by
 intro pins s σ H Q I h
 exact Subscript_ (ir ha hb I h λv u s2 x y H2 I2 rx ry q=>hr a b pins s2 σ H2 x y v u Q I2 rx ry q (hs _ _))
noncomputable def ke(K:mx):R2:=λx y H Q=>∃p xs i v,x=.ref p/\y=.int i/\SqL K H p xs/\atI xs i=Gc v/\Q v H
noncomputable def lK(K:mx):R2:=λx y H Q=>∃p xs i v,x=.ref p/\y=.int i/\SqT K H p xs/\atI xs i=Gc v/\Q v H
theorem Zp:IxR X (ke X.K):=by
 intro value slice pins s σ H x y v u Q I rx ry h hs
 obtain⟨p,xs,i,z,rfl,rfl,hq,he,q⟩:=h
 cases rx
 obtain⟨t,rfl⟩:=ry
 obtain⟨its,r,pl,hz⟩:=I.list hq
 obtain⟨j,h1,h2,h3,h4,h5⟩:=Um he
 obtain⟨w,ew,rw'⟩:=r.get h2
 have hl:=r.length
 have hn:=O3
 have fin:EP X pins σ Q w s:=⟨z,H,I,rw',q⟩
 by_cases h0:0<=i
 .have hj:i.toNat=j:=by
   rw[zW h0 h5]at h1
   exact pD h1
  exact item_listR pl.isList h0 (by lia) (by rw[hj];simpa using ew) fin hs
 .have hj:(i+(its.toArray.size:Int)).toNat=j:=by
   rw[seqIndex_neg (by lia) h4]at h1
   rw[nQ,<-hl]
   exact pD h1
  exact wB (x:=w) pl.isList.typeIs yT.lookup
   (wpAny_getItem_list_neg (Q:=λr s'=>r=w/\EP X pins σ Q r s') pl.isList (by lia) (by rw[nQ]<;>lia) (by lia) (by rw[hj];simpa using ew) ⟨rfl,fin⟩) hs
theorem bW:IxR X (lK X.K):=by
 intro value slice pins s σ H x y v u Q I rx ry h hs
 obtain⟨p,xs,i,z,rfl,rfl,hq,he,q⟩:=h
 cases rx
 obtain⟨t,rfl⟩:=ry
 obtain⟨its,r,pl,hz⟩:=I.tuple hq
 obtain⟨j,h1,h2,h3,h4,h5⟩:=Um he
 obtain⟨w,ew,rw'⟩:=r.get h2
 have hl:=r.length
 have hn:=O3
 have fin:EP X pins σ Q w s:=⟨z,H,I,rw',q⟩
 exact wB (x:=w) pl.typeIs pH.lookup
  (getItem_tuple (j:=j) (Q:=λr s'=>r=w/\EP X pins σ Q r s') pl (by lia) (by lia) (by rw[nQ,<-hl];exact h1) (by simpa using ew) ⟨rfl,fin⟩) hs
theorem RX(its:List mz)(n j:Nat)(u:mz):oV (·.setIfInBounds j u) {cls:=.type "list",data:=.seq its.toArray n}={cls:=.type "list",data:=.seq (its.set j u).toArray n}:=by
 simp[oV]
theorem Inv.lst{pins:List (nH×Obj)}{σ:St}{H:Hp}{s:m8}{p:nH}{xs:List V}(I:Inv X pins σ H s)(h:H p=Gc (.lst xs)):∃(its:List mz) (n:Nat),Vals xs its/\s.heap.get? p=Gc {cls:=.type "list",data:=.seq its.toArray n}/\xs.length<=sizeLine:=by
 obtain⟨z,its,n,r,e⟩:=I.hok p _ h
 exact⟨its,n,r,e,z⟩
theorem Inv.bc{pins:List (nH×Obj)}{σ:St}{H:Hp}{s:m8}{p:nH}{xs ys:List V}{its its':List mz}{n n':Nat}{f:Obj->Obj}(I:Inv X pins σ H s)(h:H p=Gc (.lst xs))(ho:s.heap.get? p=Gc {cls:=.type "list",data:=.seq its.toArray n})(hf:f {cls:=.type "list",data:=.seq its.toArray n}={cls:=.type "list",data:=.seq its'.toArray n'})(r:Vals ys its')(hz:ys.length<=sizeLine)(t:Nat):Inv X pins σ (upd H p (.lst ys)) {s with heap:=s.heap.update p f,toks:=t}:=by
 have e:(s.heap.update p f).get? p=Gc {cls:=.type "list",data:=.seq its'.toArray n'}:=by
  rw[og f ho (by rw[hf]<;>rfl),hf]
 refine I.write (x:=p) (e:=p) (by rw[h];trivial) (.inl rfl) (λb u hb q=>(pZ _ _ (pV hb)).trans q) ⟨_,e⟩ ?_
 exact⟨hz,its',n',r,e⟩
def jh:V->V->V->Hp->(Hp->Prop)->Prop:=λo i v H Q=>∃p xs k j,o=.ref p/\i=.int k/\H p=Gc (.lst xs)/\ixN xs.length k=Gc j/\Q (upd H p (.lst (xs.set j v)))
theorem set_list:jz X jh:=by
 intro pins s σ H o i v ov iv u Q I ro ri rv h
 obtain⟨p,xs,k,j,rfl,rfl,hp,hj,q⟩:=h
 cases ro
 obtain⟨t,rfl⟩:=ri
 obtain⟨its,n,r,ho,hz⟩:=I.lst hp
 obtain⟨h1,h2,h3,h4⟩:=VA hj
 have hl:=r.length
 have hn:=O3
 have I':Inv X pins σ (upd H p (.lst (xs.set j v))) {s with heap:=s.heap.update p (oV (·.setIfInBounds j u))}:=
  I.bc hp ho (RX its n j u) (r.set rv j) (by rw[qZ];exact hz) s.toks
 by_cases h0:0<=k
 .have hk:k.toNat=j:=by
   rw[zW h0 h4]at h1
   exact pD h1
  exact PySem.W.ki_setAt ho h0 (by lia) (by rw[nQ,<-hl];exact h4) (by rw[hk];exact⟨_,I',q⟩)
 .have hk:(k+(its.toArray.size:Int)).toNat=j:=by
   rw[seqIndex_neg (by lia) h3]at h1
   rw[nQ,<-hl]
   exact pD h1
  exact PySem.W.ki_setBack ho (by lia) (by rw[nQ,<-hl];exact h3) (by lia) (by rw[hk];exact⟨_,I',q⟩)
theorem Oa(lo hi:nB Int)(n:Nat):(sliceBounds lo hi none n).1=((HT.sIx n 0 lo:Nat):Int)/\(sliceBounds lo hi none n).2.1=((HT.sIx n n hi:Nat):Int)/\(sliceBounds lo hi none n).2.2=1:=by
 refine⟨?_,?_,rfl⟩
 .cases lo with
  |none=>simp[sliceBounds,HT.sIx]
  |some i=>
   simp only[sliceBounds,HT.sIx,zE,show(1:Int)>0 by decide,uW]
   by_cases h:i<0
   .simp only[h,uW]<;>lia
   .simp only[h,sZ]<;>lia
 .cases hi with
  |none=>simp[sliceBounds,HT.sIx]
  |some i=>
   simp only[sliceBounds,HT.sIx,zE,show(1:Int)>0 by decide,uW]
   by_cases h:i<0
   .simp only[h,uW]<;>lia
   .simp only[h,sZ]<;>lia
theorem My(its:List mz)(lo hi:nB Int):slicePick its.toArray lo hi none=((its.drop (HT.sIx its.length 0 lo)).take (HT.sIx its.length its.length hi-HT.sIx its.length 0 lo)).toArray:=by
 obtain⟨h1,h2,h3⟩:=Oa lo hi its.toArray.size
 unfold slicePick
 rw[h1,h2,h3]
 simp only[sliceRange_one,pick_run,nQ]<;>rfl
def kg(K:mx):V->nB Int->nB Int->Hp->VK->Prop:=λx lo hi H Q=>∃a xs,x=.ref a/\SqL K H a xs/\∀p,H p=none->Q (.ref p) (upd H p (.lst (YO xs lo hi)))
theorem Z0:SlR X (kg X.K):=by
 intro pins s σ H x v vl vu lo hi sl Q I rx hs pl pu h
 obtain⟨a,xs,rfl,hx,q⟩:=h
 cases rx
 obtain⟨its,r,ht,hz⟩:=I.list hx
 have hlen:=r.length
 refine⟨"list",_,yT.lookup,ht.isList.typeIs,?_⟩
 refine wpAny_getItem_list_slice ht.isList hs pl pu .none (by simp) ?_ (by rw[nQ]<;>lia)
 rw[My,<-hlen]
 refine⟨.ref s.heap.objs.size,_,I.laid (t':=s.toks) (o:=.lst (YO xs lo hi)) (λb ob q=>my _ q) (nG _) ?_,rfl,q _ (I.hok.fresh (nG _))⟩
 exact⟨nL (LP xs lo hi) hz,_,0,(r.drop (HT.sIx xs.length 0 lo)).take (HT.sIx xs.length xs.length hi-HT.sIx xs.length 0 lo),nM _ rfl⟩
noncomputable def MA:V->oO
 | .non=>true
 | .bl _=>true
 | .int _=>true
 | .str _=>true
 |_=>false
noncomputable def eqV:V->V->oO
 | .non,.non=>true
 | .bl a,.bl b=>a==b
 | .bl a,.int b=>(if a then 1 else 0)==b
 | .int a,.bl b=>a==(if b then 1 else 0)
 | .int a,.int b=>a==b
 | .str a,.str b=>a==b
 |_,_=>false
theorem eM{A:oU}{s:m8}{y x:V}{u v:mz}(ry:RelV y u)(rx:RelV x v)(fy:MA y=true)(fx:MA x=true):SeqAt.EqAt A s u v (eqV y x):=by
 cases y with
 |non=>
  cases ry
  cases x with
  |non=>cases rx;exact SeqAt.EqAt.same _
  |bl b=>cases rx;exact SeqAt.EqAt.none_bool b
  |int b=>obtain⟨t,rfl⟩:=rx;exact SeqAt.EqAt.none_int b t
  |str b=>obtain⟨t,rfl⟩:=rx;exact SeqAt.EqAt.none_str b t
  |_=>exact absurd (show false=true from fx) ou
 |bl a=>
  cases ry
  cases x with
  |non=>cases rx;exact SeqAt.EqAt.bool_none a
  |bl b=>cases rx;exact SeqAt.EqAt.bool_bool a b
  |int b=>obtain⟨t,rfl⟩:=rx;exact SeqAt.EqAt.bool_int a b t
  |str b=>obtain⟨t,rfl⟩:=rx;exact SeqAt.EqAt.bool_str a b t
  |_=>exact absurd (show false=true from fx) ou
 |int a=>
  obtain⟨t',rfl⟩:=ry
  cases x with
  |non=>cases rx;exact SeqAt.EqAt.int_none a t'
  |bl b=>cases rx;exact SeqAt.EqAt.int_bool a t' b
  |int b=>obtain⟨t,rfl⟩:=rx;exact SeqAt.EqAt.int_int a t' b t
  |str b=>obtain⟨t,rfl⟩:=rx;exact xn a t' b t
  |_=>exact absurd (show false=true from fx) ou
 |str a=>
  obtain⟨t',rfl⟩:=ry
  cases x with
  |non=>cases rx;exact SeqAt.EqAt.str_none a t'
  |bl b=>cases rx;exact SeqAt.EqAt.str_bool a t' b
  |int b=>obtain⟨t,rfl⟩:=rx;exact xo a t' b t
  |str b=>obtain⟨t,rfl⟩:=rx;exact SeqAt.EqAt.str_str a t' b t
  |_=>exact absurd (show false=true from fx) ou
 |_=>exact absurd (show false=true from fy) ou
noncomputable def eqU(x:V)(u:mz):oO:=match u with
 | .none=>eqV .non x
 | .bool b=>eqV (.bl b) x
 | .int i _=>eqV (.int i) x
 | .str z _=>eqV (.str z) x
 |_=>false
theorem X6{x y:V}{u:mz}(r:RelV y u)(f:MA y=true):eqU x u=eqV y x:=by
 cases y with
 |non=>cases r;rfl
 |bl b=>cases r;rfl
 |int i=>obtain⟨t,rfl⟩:=r;rfl
 |str z=>obtain⟨t,rfl⟩:=r;rfl
 |_=>exact absurd (show false=true from f) ou
theorem LA{x:V}:∀{xs:List V} {us:List mz},Vals xs us->xs.all MA=true->us.any (eqU x)=xs.any λy=>eqV y x
 |_,_,.nil,_=>rfl
 |y::xs,u::us,.cons r t,f=>by
  rw[uX,nW]at f
  rw[qi,qi,X6 r f.1,LA t f.2]
theorem JB{A:oU}{s:m8}{x:V}{v:mz}(rx:RelV x v)(fx:MA x=true):∀{xs:List V} {us:List mz},Vals xs us->xs.all MA=true->∀u∈us,SeqAt.EqAt A s u v (eqU x u)
 |_,_,.nil,_=>λu hu=>by cases hu
 |y::xs,u::us,.cons r t,f=>λu' hu=>by
  rw[uX,nW]at f
  rcases nK.mp hu with rfl|hu
  .rw[X6 r f.1];exact eM r rx f.1 fx
  .exact JB rx fx t f.2 u' hu
noncomputable def inV(x:V)(xs:List V):oO:=xs.any λy=>eqV y x
noncomputable def rIn(K:mx)(neg:oO):R2:=λx y H Q=>∃p xs,y=.ref p/\(SqL K H p xs\/SqT K H p xs)/\MA x=true/\xs.all MA=true/\Q (.bl (if neg then !inV x xs else inV x xs)) H
theorem TM:OpR X (compareOp .In) (rIn X.K false):=by
 intro pins s σ H x y v u Q I rx ry h
 obtain⟨p,xs,rfl,hq,fx,fs,q⟩:=h
 cases ry
 rcases hq with hq|hq
 .obtain⟨its,r,pl,hz⟩:=I.list hq
  refine SeqAt.in_listAt (eqU x) pl.isList (λw hw=>JB rx fx r fs w (by simpa using hw)) ⟨.bl _,H,I,rfl,?_⟩
  rw[show its.toArray.any (eqU x)=its.any (eqU x) by simp,LA r fs]
  exact q
 .obtain⟨its,r,pl,hz⟩:=I.tuple hq
  refine SeqAt.in_tupleAt (eqU x) pl (λw hw=>JB rx fx r fs w (by simpa using hw)) ⟨.bl _,H,I,rfl,?_⟩
  rw[show its.toArray.any (eqU x)=its.any (eqU x) by simp,LA r fs]
  exact q
theorem PL:OpR X (compareOp .NotIn) (rIn X.K true):=by
 intro pins s σ H x y v u Q I rx ry h
 obtain⟨p,xs,rfl,hq,fx,fs,q⟩:=h
 cases ry
 rcases hq with hq|hq
 .obtain⟨its,r,pl,hz⟩:=I.list hq
  refine SeqAt.notIn_listAt (eqU x) pl.isList (λw hw=>JB rx fx r fs w (by simpa using hw)) ⟨.bl _,H,I,rfl,?_⟩
  rw[show its.toArray.any (eqU x)=its.any (eqU x) by simp,LA r fs]
  exact q
 .obtain⟨its,r,pl,hz⟩:=I.tuple hq
  refine SeqAt.notIn_tupleAt (eqU x) pl (λw hw=>JB rx fx r fs w (by simpa using hw)) ⟨.bl _,H,I,rfl,?_⟩
  rw[show its.toArray.any (eqU x)=its.any (eqU x) by simp,LA r fs]
  exact q
theorem Oz:Dl X (.builtin "len") (λxs H Q=>∃p ys,xs=[.ref p]/\(SqL X.K H p ys\/SqT X.K H p ys)/\Q (.int ys.length) H):=by
 intro pins s σ H xs us Q I r h
 obtain⟨p,ys,rfl,hq,q⟩:=h
 obtain⟨u,rfl,rx⟩:=vals1 r
 cases rx
 have hn:=O3
 rcases hq with hq|hq
 .obtain⟨its,r',pl,hz⟩:=I.list hq
  have hlen:=r'.length
  exact Calls.call_len_list pl.isList (by simp only[nQ]<;>lia) ⟨.int ys.length,H,I.tok _,⟨s.toks+1,by rw[nQ,hlen]⟩,q⟩
 .obtain⟨its,r',pl,hz⟩:=I.tuple hq
  have hlen:=r'.length
  exact len_tuple pl (by simp only[nQ]<;>lia) ⟨.int ys.length,H,I.tok _,⟨s.toks+1,by rw[nQ,hlen]⟩,q⟩
theorem OX:Dl X (.builtin "len") (λxs H Q=>∃z,xs=[.str z]/\z.length<=sizeLine/\Q (.int z.length) H):=by
 intro pins s σ H xs us Q I r h
 obtain⟨z,rfl,hz,q⟩:=h
 obtain⟨u,rfl,t,rfl⟩:=vals1 r
 have hn:=O3
 exact len_str (by lia) ⟨.int z.length,H,I.tok _,⟨_,rfl⟩,q⟩
theorem Og:Dl X (.type "list") (λxs H Q=>∃p ys,xs=[.ref p]/\(SqL X.K H p ys\/SqT X.K H p ys)/\∀l,H l=none->Q (.ref l) (upd H l (.lst ys))):=by
 intro pins s σ H xs us Q I r h
 obtain⟨p,ys,rfl,hq,q⟩:=h
 obtain⟨u,rfl,rx⟩:=vals1 r
 cases rx
 have fin:∀(its:List mz),Vals ys its->ys.length<=sizeLine->∀(h':oQ) (c':Nat),(∀b o',s.heap.get? b=Gc o'->h'.get? b=Gc o')->
   h'.get? s.heap.objs.size=Gc {cls:=.type "list",dict:=none,data:=.seq its.toArray c',slots:= #[]}->EP X pins σ Q (.ref s.heap.objs.size) {s with heap:=h'}:=λits r' hz h' c' kp e=>
  ⟨.ref s.heap.objs.size,_,I.laid (t':=s.toks) kp (nG _) (show Dr X.prog X.w _ h' _ (.lst ys)from⟨hz,its,c',r',e⟩),rfl,q _ (I.hok.fresh (nG _))⟩
 rcases hq with hq|hq
 .obtain⟨its,r',pl,hz⟩:=I.list hq
  have hlen:=r'.length
  obtain⟨o,ho,hc,n,hd⟩:=pl.isList
  exact call_list_seq p (.inl rfl) ho hc hd (λh' c' kp e=>fin its r' hz h' c' kp e) (by simp only[nQ]<;>lia)
 .obtain⟨its,r',pl,hz⟩:=I.tuple hq
  have hlen:=r'.length
  obtain⟨o,ho,hc,n,hd⟩:=pl
  exact call_list_seq p (.inr rfl) ho hc hd (λh' c' kp e=>fin its r' hz h' c' kp e) (by simp only[nQ]<;>lia)
theorem Mz:Dl X (.type "tuple") (λxs H Q=>∃p ys,xs=[.ref p]/\((SqL X.K H p ys/\∀l,H l=none->Q (.ref l) (upd H l (.tup ys)))\/(SqT X.K H p ys/\Q (.ref p) H))):=by
 intro pins s σ H xs us Q I r h
 obtain⟨p,ys,rfl,h⟩:=h
 obtain⟨u,rfl,rx⟩:=vals1 r
 cases rx
 rcases h with⟨hq,q⟩|⟨hq,q⟩
 .obtain⟨its,r',pl,hz⟩:=I.list hq
  have hlen:=r'.length
  refine call_tuple_list pl.isList (λh' kp=>?_) (by simp only[nQ]<;>lia)
  have I1:Inv X pins σ H {s with heap:=h'}:=I.kept (t':=s.toks) kp
  have I2:Inv X pins σ (upd H h'.objs.size (.tup ys)) {s with heap:=h'.push {cls:=.type "tuple",data:=.seq its.toArray}}:=
   I1.laid (t':=s.toks) (λb o e=>my _ e) (nG _) (show Dr X.prog X.w _ _ _ (.tup ys)from⟨hz,its,r',tK _ _⟩)
  exact⟨.ref h'.objs.size,_,I2,rfl,q _ (I1.hok.fresh (nG _))⟩
 .obtain⟨its,r',pl,hz⟩:=I.tuple hq
  exact call_tuple_same pl ⟨.ref p,H,I,rfl,q⟩
def tyV(K:mx)(T:qj)(x:V)(H:Hp):Prop:=match x with
 | .str _=>T="str"
 | .int _=>T="int"
 | .ref p=>(T="list" /\∃xs,SqL K H p xs)\/(T="tuple" /\∃o,K.lookup p=Gc o/\o.cls=.type "tuple" /\o.dict=none)∨
    (T="dict" /\((∃kvs,H p=Gc (.dK kvs))\/∃kvs,H p=Gc (.dT kvs)))\/(T="set" /\∃S n,H p=Gc (.set S n))
 |_=>sH
theorem YF{pins:List (nH×Obj)}{σ:St}{H:Hp}{s:m8}{T:qj}{x:V}{v:mz}(I:Inv X pins σ H s)(r:RelV x v)(ty:tyV X.K T x H):s.TypeIs v T/\∀a,v=.ref a->∃ob,s.heap.get? a=Gc ob/\ob.dict=none:=by
 cases x with
 |str z=>
  obtain⟨t,rfl⟩:=r
  cases (show T="str" from ty)
  exact⟨wC s z t,λ_ e=>nomatch e⟩
 |int i=>
  obtain⟨t,rfl⟩:=r
  cases (show T="int" from ty)
  exact⟨uS s i t,λ_ e=>nomatch e⟩
 |ref p=>
  cases r
  rcases ty with⟨rfl,xs,hq⟩|⟨rfl,o,hk,hc,hd⟩|⟨rfl,hk⟩|⟨rfl,S,n,hk⟩
  .obtain⟨its,_,pl,_⟩:=I.list hq
   refine⟨pl.isList.typeIs,λa e=>?_⟩
   cases e
   obtain⟨o,n,e,c,hd,_⟩:=pl
   exact⟨o,e,hd⟩
  .refine⟨⟨o,I.kIn p o hk,hc⟩,λa e=>?_⟩
   cases e
   exact⟨o,I.kIn _ o hk,hd⟩
  .have z:∃o,s.heap.get? p=Gc o/\o.ExactDict:=by
    rcases hk with⟨kvs,hk⟩|⟨kvs,hk⟩
    .obtain⟨_,_,_,_,o,_,_,e,ex,_⟩:=I.hok p _ hk
     exact⟨o,e,ex⟩
    .obtain⟨_,_,_,_,o,_,_,e,ex,_⟩:=I.hok p _ hk
     exact⟨o,e,ex⟩
   obtain⟨o,e,ex⟩:=z
   refine⟨⟨o,e,ex.1⟩,λa e2=>?_⟩
   cases e2
   exact⟨o,e,ex.2.1⟩
  .obtain⟨o,_,_,_,e,ex,_⟩:=I.hok p _ hk
   refine⟨⟨o,e,ex.1⟩,λa e2=>?_⟩
   cases e2
   exact⟨o,e,ex.2.1⟩
 |_=>exact rf ty
noncomputable def kh(K:mx)(T:qj)(r:V->List V->Hp->VK->Prop)(to:TE):TE:=λσ H Q=>to σ H λx H1=>tyV K T x H1/\r x [] H1 Q
noncomputable def tBM(K:mx)(T:qj)(r:V->List V->Hp->VK->Prop)(to:TE)(t:TA):TE:=λσ H Q=>to σ H λx H1=>tyV K T x H1/\t σ H1 λxs H2=>r x xs H2 Q
variable{o e:oI}{es:List oI}{to:TE}{t:TA}{name:Str}{apos cpos:Pos}{T id:qj}{r:V->List V->Hp->VK->Prop}
theorem bT(pa:PlainAttrs T)(slot:Slot T name id)(hty:typeOf (.builtin id)=pure (.type "method_descriptor"))(hm:MtR X id r)(ho:PE X o to)(hbase:attributeBase o name X.env (eval o X.env)=eval o X.env:=by rfl)(hline:(apos.endLine==cpos.line)=true:=by rfl):PE X (.Call (.Attribute o name apos) [] [] cpos) (kh X.K T r to):=by
 intro pins s σ H Q I h
 refine wpAny_Call_method0_late hbase hline (thn (ho pins s σ H _ I h) λv s1 ⟨x,H1,I1,r1,ty,q1⟩=>?_)
 obtain⟨h1,h2⟩:=YF I1 r1 ty
 exact⟨T,id,pa,slot,hty,h1,h2,uA rfl (PySem.evalArgs_none (hm pins s1 σ H1 x [] v [] Q I1 r1 .nil q1))⟩
theorem jb(pa:PlainAttrs T)(slot:Slot T name id)(hty:typeOf (.builtin id)=pure (.type "method_descriptor"))(hm:MtR X id r)(ho:PE X o to)(ha:PA X (e::es) t)(hbase:attributeBase o name X.env (eval o X.env)=eval o X.env:=by rfl)(hfew:((backTo cpos (nv (e::es) X.env)).all (λx=> !x.1) && (backToKw cpos (keywordEach [] X.env)).all (λx=>x.1.isSome) && decide ((e::es).length+([]:List vQ).length+(if([]:List vQ).isEmpty then 0 else 1)<30))=true:=by rfl)(hline:(apos.endLine==cpos.line)=true:=by rfl)(hs:nv (e::es) X.env=(false,eval e X.env)::nv es X.env:=by rfl)(hplain:(backTo cpos (nv es X.env)).any (·.1)=false:=by rfl):PE X (.Call (.Attribute o name apos) (e::es) [] cpos) (tBM X.K T r to t):=by
 intro pins s σ H Q I h
 refine wpAny_Call_method_late hbase hfew hline rfl (thn (ho pins s σ H _ I h) λv s1 ⟨x,H1,I1,r1,ty,q1⟩=>?_)
 obtain⟨h1,h2⟩:=YF I1 r1 ty
 refine⟨T,id,pa,slot,hty,h1,h2,?_⟩
 have hA:=ha cpos pins s1 σ H1 _ I1 q1
 rw[hs]at hA⊢
 refine uA (by show(false||(backTo cpos (nv es X.env)).any (·.1))=false;rw[hplain]<;>rfl) (wy ?_)
 exact thn hA λus s2 ⟨vs,H2,I2,r2,q2⟩=>hm pins s2 σ H2 x vs v us Q I2 r1 r2 q2
end
end L2
namespace L2
open PySem PySem.Spec PyProof.Rows
def MtM(X:Cx)(id:qj)(r:V->List V->Hp->VK->Prop):Prop:=
 ∀(pins:List (nH×Obj)) (s:m8) (σ:St) (H:Hp) (x:V) (xs:List V) (v:mz) (us:List mz) (Q:VK),Inv X pins σ H s->RelV x v->Vals xs us->r x xs H Q->
  wpAny (model X.prog X.w) X.A (call (.builtin id) (v::us)) (EP X pins σ Q) X.xe s
theorem Vals.one:∀{x:V} {us:List mz},Vals [x] us->∃u,us=[u]/\RelV x u
 |_,_,.cons r .nil=>⟨_,rfl,r⟩
theorem Vals.two:∀{x y:V} {us:List mz},Vals [x,y] us->∃u v,us=[u,v]/\RelV x u/\RelV y v
 |_,_,_,.cons r (.cons q .nil)=>⟨_,_,rfl,r,q⟩
theorem Vals.zero:∀{us:List mz},Vals [] us->us=[]
 |_,.nil=>rfl
theorem Vals.rep{xs:List V}{us:List mz}(h:Vals xs us):∀k:Nat,Vals (nX k xs).flatten (nX k us).flatten
 |0=>.nil
 |k+1=>by
  rw[pS,pS,rA,rA]
  exact Vals.append h (Vals.rep h k)
theorem foldl_rep(its:List mz):∀(k:Nat) (acc:List mz),xu (λx1 x2=>x1++x2) acc.toArray (nX k its.toArray)=(acc++(nX k its).flatten).toArray
 |0,acc=>by simp
 |k+1,acc=>by
  have e:acc.toArray++its.toArray=(acc++its).toArray:=by simp
  have e2:(acc++its)++(nX k its).flatten=acc++(nX (k+1) its).flatten:=by
   rw[pS,rA,sU]
  rw[<-e2,<-foldl_rep its k (acc++its),<-e,pS,wR]
section
variable{X:Cx}{pins:List (nH×Obj)}{σ:St}{H:Hp}{s:m8}{l b:nH}{xs ys zs:List V}
theorem Inv.eg{its its':List mz}{n:Nat}{f:oH mz->oH mz}{t':Nat}(I:Inv X pins σ H s)(hH:H l=Gc (.lst xs))(e:s.heap.get? l=Gc {cls:=.type "list",data:=.seq its.toArray n})(hf:f its.toArray=its'.toArray)(hv:Vals ys its')(hz:ys.length<=sizeLine):Inv X pins σ (upd H l (.lst ys)) {s with heap:=s.heap.update l (oV f),toks:=t'}:=by
 have q:=PySem.IsL.update e f
 rw[hf]at q
 refine I.write (x:=l) (e:=l) (by rw[hH];exact trivial) (.inl rfl) (λb' u hb hu=>(pZ s.heap (oV f) (pV hb)).trans hu) ⟨_,q⟩ ?_
 exact⟨hz,its',_,hv,q⟩
theorem Inv.j9{its:List mz}{t':Nat}(I:Inv X pins σ H s)(hv:Vals ys its)(hz:ys.length<=sizeLine):Inv X pins σ (upd H s.heap.objs.size (.lst ys)) {s with heap:=s.heap.push {cls:=.type "list",data:=.seq its.toArray},toks:=t'}:=
 I.laid (λ_ _ q=>my _ q) (nG _) ⟨hz,its,0,hv,nM _ rfl⟩
theorem Inv.fresh(I:Inv X pins σ H s):H s.heap.objs.size=none:=I.hok.fresh (nG _)
theorem Inv.Xj(I:Inv X pins σ H s)(hH:H l=Gc (.lst xs)):xs.length<=sizeLine/\∃(its:List mz) (n:Nat),Vals xs its/\xs.length=its.length/\s.heap.get? l=Gc {cls:=.type "list",data:=.seq its.toArray n}:=by
 obtain⟨z,its,n,r,e⟩:=I.hok l _ hH
 exact⟨z,its,n,r,r.length,e⟩
theorem Na{n:Nat}(h:n<=sizeLine):qC n=false:=by
 unfold qC
 exact qE (by lia)
end
section
variable{X:Cx}
def ZE:V->List V->Hp->VK->Prop:=λx vs H Q=>∃l xs y,x=.ref l/\vs=[y]/\H l=Gc (.lst xs)/\xs.length<sizeLine/\Q .non (upd H l (.lst (xs++[y])))
theorem Oq:MtM X "list.append" ZE:=by
 intro pins s σ H x vs v us Q I rx rv h
 obtain⟨l,xs,y,rfl,rfl,hH,hz,q⟩:=h
 cases rx
 obtain⟨u,rfl,ru⟩:=rv.one
 obtain⟨z,its,n,r,hl,e⟩:=I.Xj hH
 refine tT ny ⟨_,e,rfl⟩ F.entry_list_append (F.args_list_append_2 _ _) (PySem.list_append l its.toArray n u (by rw[nQ];lia)) ⟨e,?_⟩
 refine⟨.non,_,I.eg (its':=its++[u]) hH e (by simp) (r.append (.cons ru .nil)) ?_,rfl,q⟩
 rw[pF,wg]
 lia
def aM:V->List V->Hp->VK->Prop:=λx vs H Q=>∃l b xs zs,x=.ref l/\vs=[.ref b]/\H l=Gc (.lst xs)/\H b=Gc (.lst zs)/\xs.length+zs.length<=sizeLine/\Q .non (upd H l (.lst (xs++zs)))
theorem UP:MtM X "list.extend" aM:=by
 intro pins s σ H x vs v us Q I rx rv h
 obtain⟨l,b,xs,zs,rfl,rfl,hH,hB,hz,q⟩:=h
 cases rx
 obtain⟨u,rfl,ru⟩:=rv.one
 cases ru
 obtain⟨z,its,n,r,hl,e⟩:=I.Xj hH
 obtain⟨z2,its2,n2,r2,hl2,e2⟩:=I.Xj hB
 have hsz:its.toArray.size+its2.toArray.size<=sizeLine:=by rw[nQ,nQ];lia
 have hlong:¬(!its.toArray.isEmpty && qC (its.toArray.size+its2.toArray.size))=true:=by
  rw[Na hsz,Bool.and_false]
  exact ou
 refine tT uZ ⟨_,e,rfl⟩ xW (w6 _ _)
  (yU l its.toArray n b its2.toArray n2 hlong (by rw[nQ];lia) (by lia)) ⟨e,e2,?_⟩
 refine⟨.non,_,I.eg (its':=its++its2) hH e (by simp) (r.append r2) ?_,rfl,q⟩
 rw[pF]
 lia
def cY:V->List V->Hp->VK->Prop:=λx vs H Q=>∃l xs,x=.ref l/\vs=[]/\H l=Gc (.lst xs)/\Q .non (upd H l (.lst []))
theorem WV:MtM X "list.clear" cY:=by
 intro pins s σ H x vs v us Q I rx rv h
 obtain⟨l,xs,rfl,rfl,hH,q⟩:=h
 cases rx
 have hus:=rv.zero
 subst hus
 obtain⟨z,its,n,r,hl,e⟩:=I.Xj hH
 refine tT w9 ⟨_,e,rfl⟩ F.entry_list_clear (F.args_list_clear_1 _) (AutoSeq1.list_clear_list_0 l its.toArray n (by rw[nQ];lia)) ⟨e,?_⟩
 exact⟨.non,_,I.eg (its':=[]) (ys:=[]) hH e rfl .nil (pY _),rfl,q⟩
noncomputable def mF:R2:=λx y H Q=>∃l b xs zs,x=.ref l/\y=.ref b/\H l=Gc (.lst xs)/\H b=Gc (.lst zs)/\xs.length+zs.length<=sizeLine/\∀p,H p=none->Q (.ref p) (upd H p (.lst (xs++zs)))
theorem dJ:OpR X (binaryOp .Add) mF:=by
 intro pins s σ H x y v u Q I rx ry h
 obtain⟨l,b,xs,zs,rfl,rfl,hH,hB,hz,q⟩:=h
 cases rx
 cases ry
 obtain⟨z,its,n,r,hl,e⟩:=I.Xj hH
 obtain⟨z2,its2,n2,r2,hl2,e2⟩:=I.Xj hB
 refine PySem.P.add_list e e2 ?_ (by rw[nQ,nQ];lia)
 have ea:its.toArray++its2.toArray=(its++its2).toArray:=by simp
 rw[ea]
 exact⟨.ref _,_,I.j9 (t':=s.toks) (r.append r2) (by rw[pF];lia),rfl,q _ I.fresh⟩
noncomputable def lQ:R2:=λx y H Q=>∃l k xs,x=.ref l/\y=.int k/\H l=Gc (.lst xs)/\ -(2^63)<=k/\k<2^63/\xs.length*k.toNat<=sizeLine/\
 ∀p,H p=none->Q (.ref p) (upd H p (.lst (nX k.toNat xs).flatten))
theorem len_rep{α:Type}(xs:List α)(k:Nat):(nX k xs).flatten.length=k*xs.length:=by
 induction k with
 |zero=>simp
 |succ k ih=>rw[pS,rA,pF,ih,Nat.succ_mul,wD]
theorem eD:OpR X (binaryOp .Mult) lQ:=by
 intro pins s σ H x y v u Q I rx ry h
 obtain⟨l,k,xs,rfl,rfl,hH,h1,h2,hz,q⟩:=h
 cases rx
 obtain⟨t,rfl⟩:=ry
 obtain⟨z,its,n,r,hl,e⟩:=I.Xj hH
 have hlen:its.toArray.size*k.toNat<=sizeLine:=by rw[nQ,<-hl];exact hz
 have hcap:¬its.toArray.size*k.toNat>(2^63-1) / 8:=by
  have:(sizeLine:Nat)<=(2^63-1) / 8:=by decide
  lia
 have hfit:¬(!Builtin.List.listFitsIndex k)=true:=by
  rw[fitsIndex_both h1 h2]
  exact ou
 have hlong:¬qC (its.toArray.size*k.toNat)=true:=by
  rw[Na hlen]
  exact ou
 have hnew:xu (λx1 x2=>x1++x2) #[] (nX (if its.toArray.isEmpty=true then 0 else k.toNat) its.toArray)=(nX k.toNat its).flatten.toArray:=by
  have f0:∀m:Nat,xu (λx1 x2=>x1++x2) #[] (nX m its.toArray)=(nX m its).flatten.toArray:=λm=>by
   have:=foldl_rep its m []
   rw[oM]at this
   exact this
  rw[f0]
  cases its with
  |nil=>simp
  |cons a r'=>rw[oE (by simp)]
 refine tE (T:="list") (U:="int") (by decide) ⟨_,e,rfl⟩ (λs'=>uS s' k t) noFill_list_mul wU sL repeat_list vk.lookup
  (tT sL (uS s k t) vm (vR _ _) (int___rmul___int_list k t l its.toArray n)
    ⟨e,rfl,⟨_,e,rfl⟩,tT F.slot_list_mul ⟨_,e,rfl⟩ F.entry_list_mul (F.args_list_mul_2 _ _) (yG l its.toArray n k t hfit hcap hlong) ⟨e,?_⟩⟩)
 rw[hnew]
 exact⟨.ref _,_,I.j9 (t':=s.toks) (r.rep k.toNat) (by rw[len_rep,rm];exact hz),rfl,q _ I.fresh⟩
end
section
variable{prog:nq}{w:oN}{A:oU}{E:mz->m8->Prop}{s:m8}
end
section
variable{X:Cx}
end
end L2
namespace Att
open PySem PySem.W PySem.Calls PyProof.Rows
theorem ints_of_wellAll{P:Params}{h:oQ}:∀(ns:List Int) (vs:List mz),WellAll P h vs (ns.map WData.int)->qO vs ns:=by
 intro ns
 induction ns with
 |nil=>
  intro vs w
  rw[oy]at w
  cases w
  exact .nil
 |cons n ns ih=>
  intro vs w
  rw[nR]at w
  cases w with
  |cons a b=>
   cases a
   exact .cons _ _ (ih _ b)
theorem script_of{l:ua}{n:Nat}(hn:l.most=Gc n){P:Params}{h:oQ}{args:List WData}{vals:List mz}(hpre:l.row.toRowW.claim.pre args=true)(hwl:WellAll P h vals args):∃a vs ns,vals=[oX a]/\args=[WData.list (ns.map WData.int)]/\h.get? a=Gc {cls:=.type "list",data:=.seq vs.toArray}/\qO vs ns/\ns.length<=n:=by
 have hsh:WShape.hasAll [] args [.list .int]=true:=(pre_splitW hpre).1
 have hc:l.pre.holds [] {args:=args}=true:=(pre_splitW hpre).2
 obtain⟨d,r,rfl,h1,h2⟩:=hasAllW_cons hsh
 obtain rfl:=hasAllW_nil h2
 obtain⟨xs,rfl,h3⟩:=hasW_list h1
 obtain⟨ns,rfl⟩:=items_int h3
 have hlen:ns.length<=n:=by
  unfold OpenLaw.pre at hc
  have h4:(WTm.not (.lt (.lit (.int (n:Int))) (.len (.arg 0)))).holds [] {args:=[.list (ns.map .int)]}=true:=by
   have h4:=(holds_andW hc).1
   rw[hn]at h4
   exact h4
  have h5:=condW_of h4 (w_not (w_lt w_lit (w_len_list (w_arg rfl))))
  rw[oG]at h5
  refine Nat.le_of_not_lt λq=>?_
  have q':(n:Int)<((ns.length:Nat):Int):=by lia
  first
   |(rw[pJ q']at h5;exact absurd h5 (by decide))
   |(simp at h5;lia)
 cases hwl with
 |cons w1 w2=>
  cases w2
  cases w1 with
  |list ho hall=>exact⟨_,_,ns,rfl,rfl,ho,ints_of_wellAll ns _ hall,hlen⟩
theorem post_true(l:ua)(args:List WData):l.row.toRowW.claim.post args (.bool true) args=true:=
 postW_of (r:=l.row.toRowW) (X:=(true==true))
  (show WShape.has [] (.bool true) .bool=true by first|rfl|decide|simp[WShape.has,WShape.arms,WShape.armsAll])
  (show(WTm.eq .res (.lit (.bool true))).value [] {args:=args,res:=Gc (.bool true),after:=args}=Gc (.bool (true==true))from w_eq_bool (w_res rfl) w_lit) rfl
theorem attach_call{l:ua}{n:Nat}{q:nq}{loose:List Str}{XP:(Str->nB mz)->oQ->Prop}{YP:oN->oQ->Prop}{d:DefRec}(hn:l.most=Gc n)(hdf:d.params.defaults=[])(call:∀(w:oN) (s₀ s₁:m8) (mg mb:Str->nB mz) (fa:nH) (o:Obj) (pm cd doc:mz) (a:nH) (vs:List mz) (ns:List Int),Ground q loose [] XP w s₀ mg mb s₁.heap->YP w s₁.heap->s₁.heap.get? fa=Gc o->o.data=.func (docDef d.name d.params d.body d.scope pm cd doc)->s₁.heap.CodeRec cd d.name->mg d.name=Gc (.ref fa)->s₁.heap.get? a=Gc {cls:=.type "list",data:=.seq vs.toArray}->qO vs ns->ns.length<=n->s₁.gens= #[]->codeAny (model l.prog w) callerA (.call (.ref fa) ⟨[.ref a],[]⟩) (λr s'=>r=.ok (.ret (.bool true))/\OldK s₁.heap s'.heap/\s'.os=s₁.os/\vP s'.gens) s₁):zy q loose XP YP l.row.toRowW d [] (λf vs=>PySem.call f vs):=by
 intro w s₀ s₁ mg mb G Y fa o pm cd doc dV kV ho hd hcd hD hmg hg args vals as hpre hlay hrd hwl hlo
 obtain rfl:dV=.none:=Dflts.none hD hdf
 obtain rfl:kV=.none:=Dflts.noKw hD
 obtain⟨a,vs,ns,rfl,rfl,hobj,hints,hlen⟩:=script_of hn hpre hwl
 refine enter_call (uo (call w s₀ s₁ mg mb fa o pm cd doc a vs ns G Y ho (fd_plain hd) hcd hmg hobj hints hlen hg) λr s' hq=>?_)
 obtain⟨rfl,h2,h3,h4⟩:=hq
 exact⟨.inl ⟨.bool true,.bool true,[],rfl,λ_=>rfl,.bool true,post_true l _,λ_=>⟨vS,λ_ hm=>(nomatch hm)⟩⟩,h2,h3,h4⟩
section
variable{prog:nq}{w:oN}{A:oU}{E:mz->m8->Prop}{s:m8}{K:mx}
end
end Att
namespace L2
open PySem PySem.Spec PyProof.Rows
theorem PJ:∀{vs:List mz} {ns:List Int},qO vs ns->Vals (ns.map V.int) vs
 |_,_,.nil=>.nil
 |_,_,.cons n t h=>.cons ⟨t,rfl⟩ (PJ h)
def iA(H:Hp):Prop:=∀b,H b=none\/∃o xs,H b=Gc (.frz o (.lst xs))
theorem Xh{P:nq}{w:oN}{K:mx}{mg mb:Str->nB mz}{CX:CXT}{k:Nat}{fa a:nH}{fd:qd}{x:Str}{sp:Sp}{s₁:m8}{vs:List mz}{ns:List Int}(KX:K.In s₁.heap)(hns:s₁.heap.Ns mainGlobals mg)(hb:s₁.heap.Ns builtinsNs mb)(hbb:∀x:Str,x≠ "__name__"->mb x=bootBuiltins x)(hlim:s₁.heap.NoLimit)(hg:s₁.gens= #[])(ha:s₁.heap.get? a=Gc {cls:=.type "list",data:=.seq vs.toArray})(hi:qO vs ns)(hl:ns.length<=sizeLine)(hr:Lq k callerA)(F:∀base:oQ,K.In base->base.Ns mainGlobals mg->OM P w K mg base CX k fa fd [x] sp)(hbind:∀(s:m8) (u:mz),yP s fd ⟨[u],[]⟩ [(x,u)])(hsp:∀H:Hp,iA H->SqL K H a (ns.map V.int)->sp [.ref a] H (λv _=>v=.bl true) λ_ _ _=>sH)(hCX:∀H e s',CX [] H s₁ (λ_ _ _=>sH) e s'->sH):codeAny (model P w) callerA (.call (.ref fa) ⟨[.ref a],[]⟩) (λr s'=>r=.ok (.ret (.bool true))/\OldK s₁.heap s'.heap/\s'.os=s₁.os/\vP s'.gens) s₁:=by
 have rv:=PJ hi
 have lenV:=hi.length
 have core:∀H:Hp,iA H->SqL K H a (ns.map V.int)->HOk P w H s₁.heap->(∀b,H b≠none->b=a)->(H a≠none->K.lookup a=none)->
   codeAny (model P w) callerA (.call (.ref fa) ⟨[.ref a],[]⟩) (λr s'=>r=.ok (.ret (.bool true))/\OldK s₁.heap s'.heap/\s'.os=s₁.os/\vP s'.gens) s₁:=by
  intro H hO hS hok hA hK
  have base_of:∀{b:nH} {o:Obj},s₁.heap.get? b=Gc o->H b=none->(W8 s₁.heap H).get? b=Gc o:=λe n=>Wk e n
  have noA:∀{b:nH} {o:Obj} {es:oH DictEntry} {ep:Nat},s₁.heap.get? b=Gc o->o.data=.dict es ep->H b=none:=λ{b o es ep} e d=>by
   cases q:H b with
   |none=>rfl
   |some u=>
    have e':b=a:=hA b (by rw[q];simp)
    subst e'
    rw[ha]at e;cases e
    have d':Data.seq vs.toArray _=Data.dict es ep:=d
    cases d'
  have nsK:∀{b:nH} {m:Str->nB mz},s₁.heap.Ns b m->(W8 s₁.heap H).Ns b m:=λ{b m} ⟨o,es,ep,e,d,r⟩=>⟨o,es,ep,base_of e (noA e d),d,r⟩
  have hKb:K.In (W8 s₁.heap H):=λb o e=>base_of (KX b o e) (by
   cases q:H b with
   |none=>rfl
   |some u=>
    have e':b=a:=hA b (by rw[q];simp)
    subst e'
    rw[hK (by rw[q];simp)]at e;cases e)
  have hM:Mod K mg (W8 s₁.heap H):=⟨hKb,nsK hns,⟨mb,nsK hb,hbb⟩,let⟨mc,h1,h2⟩:=hlim;⟨mc,nsK h1,h2⟩⟩
  have e0:fc P w K mg (W8 s₁.heap H) callerA [] s₁ H:=⟨rfl,hM,λb o e=>ZD e,Nat.le_of_eq (SG _ _),trivial,λb hb=>absurd (show b∈([]:List nH)from hb) (by simp),hok,.of_eq hg⟩
  refine uo ((F _ hKb (nsK hns)).run callerA [] s₁ H ⟨[.ref a],[]⟩ [.ref a] [.ref a] _ _ hr e0 (hbind s₁ (.ref a)) (.cons rfl .nil) (hsp H hO hS)) λr s' h=>?_
  cases r with
  |error e=>exact(hCX H e s' h).elim
  |ok fl=>
   cases fl with
   |next=>exact rf h
   |brk=>exact rf h
   |cont=>exact rf h
   |ret u=>
    obtain⟨v,H',os,bare,un,hok',r',q⟩:=h
    have q':v=.bl true:=q
    subst q'
    obtain rfl:u=xp true:=r'
    refine⟨rfl,OldK.of_keep λb o e=>?_,os,bare⟩
    cases q:H b with
    |none=>exact un.keep b o e q (by intro z;exact absurd (show b∈([]:List nH)from z) (by simp)) (by simp)
    |some u=>
     rcases hO b with z|⟨ob,xs,z⟩
     .rw[q]at z;cases z
     .have z2:=un.Xz b ob _ z
      obtain⟨e1,_⟩:=hok b _ z
      obtain⟨e2,_⟩:=hok' b _ z2
      rw[e]at e1;cases e1
      exact e2
 cases hk:K.lookup a with
 |some o=>
  have e:=KX a o hk
  rw[ha]at e
  cases e
  refine core (λ_=>none) (λ_=>.inl rfl) (.inr ⟨_,vs.toArray,_,hk,rfl,rfl,rfl,by rw[nQ,lenV];exact hl,by simpa using rv⟩) (λb u z=>by have z':(none:nB HO)=Gc u:=z;cases z') (λb z=>absurd rfl z) λz=>absurd rfl z
 |none=>
  refine core (λb=>if b=a then Gc (.frz {cls:=.type "list",data:=.seq vs.toArray} (.lst (ns.map V.int)))else none) (λb=>?_) (.inl (.inr ⟨{cls:=.type "list",data:=.seq vs.toArray},nh rfl⟩)) (λb u z=>?_) (λb z=>?_) λ_=>hk
  .by_cases hb:b=a
   .exact .inr ⟨_,_,nh hb⟩
   .exact .inl (oE hb)
  .by_cases hb:b=a
   .have z':=(nh hb).symm.trans z
    cases z'
    subst hb
    exact⟨ha,by rw[oG];exact hl,vs,_,rv,ha⟩
   .have z':=(oE hb).symm.trans z
    cases z'
  .by_cases hb:b=a
   .exact hb
   .exact absurd (oE hb) z
end L2
namespace L2
open PySem PySem.Spec PyProof.Rows
abbrev KOf{K:mx}{h:oQ}(_:K.In h):mx:=K
theorem Y2{l:ua}{n k:Nat}{q:nq}{loose:List Str}{XP:(Str->nB mz)->oQ->Prop}{YP:oN->oQ->Prop}{d:DefRec}{K:Params->mx}{CX:oN->CXT}{sp:oN->Sp}{x:Str}(hn:l.most=Gc n)(hn2:n<=sizeLine)(hdf:d.params.defaults=[])(hr:Lq k callerA)(hY:∀(w:oN) (h:oQ),YP w h->(K w.params).In h)(F:∀(w:oN) (mg:Str->nB mz) (fa:nH) (h:oQ),(K w.params).In h->h.Ns mainGlobals mg->mg d.name=Gc (.ref fa)->∃fd:qd,(∀(s:m8) (u:mz),yP s fd ⟨[u],[]⟩ [(x,u)])/\∀base:oQ,(K w.params).In base->base.Ns mainGlobals mg->OM l.prog w (K w.params) mg base (CX w) k fa fd [x] (sp w))(hsp:∀(w:oN) (H:Hp) (a:nH) (ns:List Int),ns.length<=n->iA H->SqL (K w.params) H a (ns.map V.int)->sp w [.ref a] H (λv _=>v=.bl true) λ_ _ _=>sH)(hCX:∀(w:oN) (H:Hp) (s:m8) (e:mz) (s':m8),CX w [] H s (λ_ _ _=>sH) e s'->sH):zy q loose XP YP l.row.toRowW d [] (λf vs=>PySem.call f vs):=by
 refine Att.attach_call hn hdf λw s₀ s₁ mg mb fa o pm cd doc a vs ns G Y ho hd hcd hmg hobj hints hlen hg=>?_
 have KX:=hY w _ Y
 obtain⟨fd,hb,hF⟩:=F w mg fa _ KX G.T.g hmg
 exact Xh KX G.T.g G.T.b G.T.builtins G.T.nolimit hg hobj hints (nL hlen hn2) hr hF hb (λH hO hS=>hsp w H a ns hlen hO hS) λH e s'=>hCX w H s₁ e s'
end L2
namespace L2
open PySem PySem.Spec PyProof.Rows
noncomputable def LU(s:pN):Arguments:=match s with
 | .FunctionDef _ a _ _ _ _ _ _ _ _=>a
 |_=>{posonlyargs:=[],args:=[],vararg:=none,kwonlyargs:=[],kw_defaults:=[],kwarg:=none,defaults:=[]}
noncomputable def Ft(s:pN):List pN:=match s with
 | .FunctionDef _ _ b _ _ _ _ _ _ _=>b
 |_=>[]
noncomputable def AJ(s:pN):rQ:=match s with
 | .FunctionDef _ _ _ _ _ _ sc _ _ _=>sc
 |_=>{kind:=.function,names:=[],isGenerator:=false,isCoroutine:=false}
abbrev CX0:CXT:=λ_ _ _ _ _ _=>sH
abbrev E0:XK:=λ_ _ _=>sH
theorem jg{X:Cx}:Passes CX0 X E0:=λ_ _ _ _ _ _ _ h=>h.elim
structure Fun(K:mx)(x qual:Str)(st:pN)(f:nH)(fd:qd):Prop where
 ex:∃(oc:mz) (od:nB nH) (kV doc pm:mz) (an:nB nH) (cdv ct:mz) (osl:oH (nB mz)),
  fd=su x qual (LU st) (Ft st) (AJ st) .none kV doc pm an cdv ct/\K.lookup f=Gc ⟨oc,od,.func fd,osl⟩/\uz K cdv qual=true
 kp:qk K (.ref f)=true
section
variable{P:nq}{w:oN}{K:mx}{mg:Str->nB mz}{base:oQ}
theorem Fun.ok{x qual:Str}{st:pN}{f:nH}{fd:qd}{N ps:List Str}{k:Nat}{sp:Sp}(F:Fun K x qual st f fd)(S:AU N ps (AJ st))(len:∀vs H Q E,sp vs H Q E->vs.length=ps.length)(hbody:∀(cdv:mz) (A:oU) (outer:List Env) (s:m8) (H:Hp) (vs:List V) (Q:VK) (E:XK),Lq k (A.deeper (envOfC qual (AJ st) s.heap.objs.size f cdv))->sp vs H Q E->∃t,PSs (Xg CX0 P w K mg base N qual (AJ st) f cdv A outer s H E).nox (Ft st) t/\t {nx:=λ_ H'=>Q .non H',rt:=Q} (start N vs) H):OM P w K mg base CX0 (k+1) f fd ps sp:=by
 obtain⟨oc,od,kV,doc,pm,an,cdv,ct,osl,rfl,lk,hcd⟩:=F.ex
 refine jH lk hcd S len λA outer s H vs Q E hr hsp=>?_
 obtain⟨t,h,q⟩:=hbody cdv A outer s H vs Q E hr hsp
 exact⟨t,h.nox,q⟩
theorem Fun.binds{x qual:Str}{st:pN}{f:nH}{fd:qd}{ps:List Str}(F:Fun K x qual st f fd)(h:∀(kV doc pm:mz) (an:nB nH) (cdv ct:mz) (us:List mz),us.length=ps.length->bindArgs (su x qual (LU st) (Ft st) (AJ st) .none kV doc pm an cdv ct) ⟨us,[]⟩=pure (ps.zip us)):Binds K fd ps []:=by
 obtain⟨oc,od,kV,doc,pm,an,cdv,ct,osl,rfl,lk,hcd⟩:=F.ex
 exact .all (h kV doc pm an cdv ct)
theorem dm{x qual:Str}{st:pN}{f:nH}{oc:mz}{od an:nB nH}{osl:oH (nB mz)}{kV doc pm cdv ct:mz}(l:K.lookup f=Gc ⟨oc,od,.func (su x qual (LU st) (Ft st) (AJ st) .none kV doc pm an cdv ct),osl⟩)(c:uz K cdv qual=true)(k:qk K (.ref f)=true):Fun K x qual st f (su x qual (LU st) (Ft st) (AJ st) .none kV doc pm an cdv ct):=⟨⟨oc,od,kV,doc,pm,an,cdv,ct,osl,rfl,l,c⟩,k⟩
end
section
variable{X:Cx}
theorem pv(i:Nat){x:Str}{pos:Pos}(hN:X.N[i]?=Gc x:=by rfl)(hv:Vis X.env.scope x:=by first|exact Or.inl rfl|exact xv (Or.inl rfl)|exact xv (xv rfl))(hd:(x==("__debug__":Str))=false:=by decide)(hcd:(x==("__classdict__":Str))=false:=by decide):PE X (.Name x pos) (kB i):=YM hN hv hd hcd
end
theorem ZH{A B:Prop}(h:B):if false=true then A else B:=by
 rw[oE ou]
 exact h
theorem Yz{A B:Prop}(h:A):if true=true then A else B:=by
 rw[nh rfl]
 exact h
def Bu(H H':Hp):Prop:=∀b o,H b=Gc o->H' b=Gc o
end L2
end
noncomputable section
namespace L2
open PySem PySem.Spec PyProof.Rows
noncomputable def GZ(cells:List (Str×nH)):List (Str×sI)->List (Str×nH)->List (Str×nH)
 | [],cs=>cs
 |(n,k)::r,cs=>if(k==pW)=true then GZ cells r ((n,(cells.lookup n).getD 0)::cs)else GZ cells r cs
theorem PD{env:Env}:∀(names:List (Str×sI)) (cs:List (Str×nH)),(∀y∈names,y.2=.free->∃a,env.cells.lookup y.1=Gc a)->(forIn names cs λ(x:Str×sI) r=>match x with|(name,kind)=>if(kind==pW)=true then(do let a<-cellOf env name;pure (ui ((name,a)::r)))else pure (ui r):Sem (List (Str×nH)))=pure (GZ env.cells names cs)
 | [],cs,_=>by simp[GZ]
 |(n,k)::r,cs,h=>by
  rw[wV]
  have ih:=λcs=>PD r cs λy hy=>h y (nC _ hy)
  by_cases hk:(k==pW)=true
  .obtain⟨a,ha⟩:=h (n,k) nO (by simpa using hk)
   have ha':env.cells.lookup n=Gc a:=ha
   have e:cellOf env n=pure a:=by unfold cellOf;rw[ha']
   simp only[hk,uW,e,pure_bind,GZ,ha',zF]
   exact ih _
  .simp only[hk,sZ,pure_bind,GZ]
   exact ih _
theorem Ql{scope:rQ}{env:Env}(h:∀y∈scope.names,y.2=.free->∃a,env.cells.lookup y.1=Gc a):closureFor scope env=pure (GZ env.cells scope.names []):=by
 unfold closureFor
 have:=PD (env:=env) scope.names [] h
 simp only[bind_pure]at this⊢
 exact this
theorem Le{cells:List (Str×nH)}{x:Str}{c:nH}:∀{names:List (Str×sI)} {cs:List (Str×nH)},(∀y∈names,y.2=.free->∃a,cells.lookup y.1=Gc a)->(GZ cells names cs).lookup x=Gc c->cs.lookup x=Gc c\/cells.lookup x=Gc c
 | [],cs,_,h=>.inl h
 |(n,k)::r,cs,hh,h=>by
  have hr:∀y∈r,y.2=.free->∃a,cells.lookup y.1=Gc a:=λy hy=>hh y (nC _ hy)
  unfold GZ at h
  by_cases hk:(k==pW)=true
  .rw[nh hk]at h
   rcases Le hr h with q|q
   .obtain⟨a,ha⟩:=hh (n,k) nO (by simpa using hk)
    have ha':cells.lookup n=Gc a:=ha
    rw[qF]at q
    cases hx:x==n with
    |true=>
     rw[hx,ha']at q
     have e:x=n:=by simpa using hx
     subst e
     cases q
     exact .inr ha'
    |false=>
     rw[hx]at q
     exact .inl q
   .exact .inr q
  .rw[oE hk]at h
   exact Le hr h
theorem JE{cells:List (Str×nH)}{x:Str}:∀{names:List (Str×sI)} {cs:List (Str×nH)},((x,pW)∈names\/∃c,cs.lookup x=Gc c)->∃c,(GZ cells names cs).lookup x=Gc c
 | [],cs,h=>h.elim (λz=>nomatch z) id
 |(n,k)::r,cs,h=>by
  unfold GZ
  by_cases hk:(k==pW)=true
  .rw[nh hk]
   refine JE ?_
   by_cases hx:x=n
   .subst hx
    exact .inr ⟨_,by rw[qF,beq_self_eq_true]⟩
   .rcases h with h|⟨c,h⟩
    .rcases nK.mp h with e|e
     .cases e;exact absurd rfl hx
     .exact .inl e
    .refine .inr ⟨c,?_⟩
     rw[qF,show(x==n)=false by simpa using hx]
     exact h
  .rw[oE hk]
   refine JE ?_
   rcases h with h|h
   .rcases nK.mp h with e|e
    .cases e;exact absurd rfl hk
    .exact .inl e
   .exact .inr h
theorem Jw{env:Env}{x:Str}:∀{names:List (Str×sI)},names.lookup x=Gc .free->(names.map λ(n,k)=>if(k==pW && env.scope.kind== .function && env.kindOf n==Gc .cell)then(n,sQ)else(n,k)).lookup x=Gc .cell\/(names.map λ(n,k)=>if(k==pW && env.scope.kind== .function && env.kindOf n==Gc .cell)then(n,sQ)else(n,k)).lookup x=Gc .free
 | [],h=>by simp at h
 |(n,k)::r,h=>by
  have ih:= @Jw env x r
  show List.lookup x ((if(k==pW && env.scope.kind== .function && env.kindOf n==Gc .cell)=true then(n,sQ)else(n,k))::_)=_\/List.lookup x ((if(k==pW && env.scope.kind== .function && env.kindOf n==Gc .cell)=true then(n,sQ)else(n,k))::_)=_
  cases hx:x==n with
  |true=>
   simp only[qF,hx]at h
   cases h
   by_cases hc:(pW==pW && env.scope.kind== .function && env.kindOf n==Gc .cell)=true
   .rw[nh hc];simp only[qF,hx];exact .inl trivial
   .rw[oE hc];simp only[qF,hx];exact .inr trivial
  |false=>
   simp only[qF,hx]at h
   by_cases hc:(k==pW && env.scope.kind== .function && env.kindOf n==Gc .cell)=true
   .rw[nh hc];simp only[qF,hx];exact ih h
   .rw[oE hc];simp only[qF,hx];exact ih h
theorem K6{env:Env}{scope:rQ}{x:Str}{k':sI}(hk:k'=.cell\/k'=.free)(h:(relabel scope env).names.lookup x=Gc k'):(x,pW)∈scope.names\/(x,sQ)∈scope.names:=by
 have hm:=pQ h
 obtain⟨⟨n,k⟩,hy,e⟩:=oR.mp (show(x,k')∈scope.names.map _ from hm)
 by_cases hc:(k==pW && env.scope.kind== .function && env.kindOf n==Gc .cell)=true
 .simp only[hc,uW]at e
  cases e
  have:k=.free:=by
   have:=((nW _ _).mp hc).1
   exact xw.mp ((nW _ _).mp this).1
  subst this
  exact .inl hy
 .simp only[hc,sZ]at e
  cases e
  rcases hk with rfl|rfl
  .exact .inr hy
  .exact .inl hy
theorem Bw:∀(names:List (Str×sI)) (n:Nat) (cs:List (Str×nH)),cellsFrom n names cs=cellsFrom n names []++cs
 | [],_,_=>rfl
 |(x,k)::r,n,cs=>by
  unfold cellsFrom
  split
  .rw[Bw r _ ((x,n)::cs),Bw r _ [(x,n)]];simp
  .exact Bw r n cs
theorem GV{x:Str}{c:nH}:∀{names:List (Str×sI)} {n:Nat},(x,c)∈cellsFrom n names []->(x,sQ)∈names
 | [],_,h=>nomatch h
 |(y,k)::r,n,h=>by
  unfold cellsFrom at h
  split at h
  .rename_i hk
   rw[Bw]at h
   rcases oC.mp h with z|z
   .exact nC _ (GV z)
   .have e:=oK.mp z
    cases e
    rw[xw.mp hk]
    exact nO
  .exact nC _ (GV h)
theorem Ji{M:Model}{A:oU}{E:mz->m8->Prop}{s:m8}{scope:rQ}{globals:nH}{cl:List (Str×nH)}{qual:Str}{env:Env}{Q:Env->m8->Prop}(hQ:∀h':oQ,h'.Ns s.heap.objs.size (λ_=>none)->(∀b o,s.heap.get? b=Gc o->h'.get? b=Gc o)->CellsOk h' (s.heap.objs.size+1) (cellsFrom (s.heap.objs.size+1) scope.names [])->Q (newEnv scope s.heap.objs.size globals (cellsFrom (s.heap.objs.size+1) scope.names cl) qual none .none (Gc env) builtinsNs) {s with heap:=h'}):wpAny M A (newFunctionEnv scope globals cl [] qual none .none (Gc env)) Q E s:=by
 simp only[newFunctionEnv,xy,uW]
 refine Wp (wpAny_alloc ?_)
 refine Wp (wpAny_layCells _ (λname kind cells=>by cases hkc:kind==sQ<;>simp[hkc]) _ _ _ _ ?_)
 have ok:=cellsFrom_ok scope.names (s.heap.push {cls:=.type "dict",data:=.dict #[]}) (s.heap.objs.size+1) [] ⟨λ_ _ hm=>(nomatch hm),vS⟩ (by rw[oJ];exact nG _)
 rw[oJ]at ok
 rw[show({s with heap:=s.heap.push {cls:=.type "dict",data:=.dict #[]}}:m8).heap.objs.size=s.heap.objs.size+1 from oJ ..]
 rw[xA]
 refine Wp (m9 (m9 ?_))
 exact hQ _ ((Heap.Ns.new s.heap (.type "dict")).keeps (ze _ _)) (λb o e=>ze _ _ b o (my _ e)) ok
end L2
end
noncomputable section
namespace L2
open PySem PySem.Spec PyProof.Rows
noncomputable def Q7(N:List Str)(osc scope:rQ):List Str->List (nB Nat)->oO
 | [],[]=>true
 |_::r,none::q=>Q7 N osc scope r q
 |x::r,Gc i::q=>decide (N[i]?=Gc x) && (decide (osc.names.lookup x=Gc .cell)||decide (osc.names.lookup x=Gc .free)) && decide (scope.names.lookup x=Gc .free) && Q7 N osc scope r q
 |_,_=>false
theorem TQ{N:List Str}{osc scope:rQ}:∀{N':List Str} {ix:List (nB Nat)},Q7 N osc scope N' ix=true->ix.length=N'.length
 | [],[],_=>rfl
 |_::r,none::q,h=>by
  unfold Q7 at h
  simp[TQ h]
 |x::r,Gc i::q,h=>by
  unfold Q7 at h
  have:=((nW _ _).mp h).2
  simp[TQ this]
 | [],_::_,h=>by simp[Q7]at h
 |_::_,[],h=>by simp[Q7]at h
theorem aC{N:List Str}{osc scope:rQ}:∀{N':List Str} {ix:List (nB Nat)},Q7 N osc scope N' ix=true->∀{j i:Nat} {x:Str},N'[j]?=Gc x->ix[j]?=Gc (Gc i)->N[i]?=Gc x/\(osc.names.lookup x=Gc .cell\/osc.names.lookup x=Gc .free)/\scope.names.lookup x=Gc .free
 | [],[],_,j,_,_,h,_=>by simp at h
 |_::r,none::q,h,j,i,x,h1,h2=>by
  unfold Q7 at h
  cases j with
  |zero=>simp at h2
  |succ j=>exact aC h (by simpa using h1) (by simpa using h2)
 |y::r,Gc k::q,h,j,i,x,h1,h2=>by
  unfold Q7 at h
  obtain⟨ha,hr⟩:=(nW _ _).mp h
  obtain⟨ha,h3⟩:=(nW _ _).mp ha
  obtain⟨h4,h5⟩:=(nW _ _).mp ha
  cases j with
  |zero=>
   simp at h1 h2
   subst h1 h2
   refine⟨nT h4,?_,nT h3⟩
   rcases(pq _ _).mp h5 with z|z
   .exact .inl (nT z)
   .exact .inr (nT z)
  |succ j=>exact aC hr (by simpa using h1) (by simpa using h2)
 | [],_::_,h,_,_,_,_,_=>by simp[Q7]at h
 |_::_,[],h,_,_,_,_,_=>by simp[Q7]at h
structure Ab(N:List Str)(osc:rQ)(N':List Str)(ix:List (nB Nat))(scope:rQ):Prop where
 kind:scope.kind=.function
 cells:∀y∈scope.names,y.2=.cell->scope.names.lookup y.1=Gc .cell
 names:∀y∈scope.names,y.2=.local->scope.names.lookup y.1=Gc .local
 free:∀y∈scope.names,y.2=.free->(osc.names.lookup y.1=Gc .cell\/osc.names.lookup y.1=Gc .free)
 ok:Q7 N osc scope N' ix=true
noncomputable def sig(ix:List (nB Nat))(σ:St):St:=ix.map λo=>o.bind λi=>(σ[i]?).join
noncomputable def HM(X:Cx)(N':List Str)(scope:rQ)(s:m8)(H:Hp)(fp:List nH):Cx where
 prog:=X.prog
 w:=X.w
 K:=X.K
 mg:=X.mg
 base:=X.base
 A:=X.A
 N:=N'
 s₀:=s
 H₀:=H
 env:=compEnvC scope (cellsFrom (s.heap.objs.size+1) scope.names (GZ X.env.cells scope.names [])) s.heap.objs.size X.env
 outer:=X.stack
 stack:=X.stack
 ex:=fp
 fn:=λx=>decide (scope.names.lookup x=Gc .cell)
 calm:=true
 pn:=[]
 xe:=λ_ _=>sH
section
variable{X:Cx}{pins:List (nH×Obj)}{σ:St}{H:Hp}{s:m8}{N':List Str}{ix:List (nB Nat)}{scope:rQ}{fp:List nH}
theorem Inv.cellsOf(I:Inv X pins σ H s)(S:Ab X.N X.env.scope N' ix scope):∀y∈scope.names,y.2=.free->∃a,X.env.cells.lookup y.1=Gc a:=λy hy hk=>I.ok.has y.1 (S.free y hy hk)
theorem Ws(S:Ab X.N X.env.scope N' ix scope)(hc:X.calm=true)(I:Inv X pins σ H s)(hf:∀b∈fp,QQ X pins H b)(hlt:∀b∈fp,b<s.heap.objs.size){h1:oQ}{m1:Str->nB mz}{tk:Nat}(hn:h1.Ns s.heap.objs.size m1)(hk:∀b o,s.heap.get? b=Gc o->h1.get? b=Gc o)(hC:CellsOk h1 (s.heap.objs.size+1) (cellsFrom (s.heap.objs.size+1) scope.names [])):Inv (HM X N' scope s H fp) [] (sig ix σ) H {s with heap:=h1,toks:=tk}:=by
 have hcl:=I.cellsOf S
 have sub:∀{x:Str} {c:nH},(GZ X.env.cells scope.names []).lookup x=Gc c->X.env.cells.lookup x=Gc c:=λ{x c} h=>by
  rcases Le hcl h with z|z
  .simp at z
  .exact z
 have old:∀{x:Str} {c:nH},X.env.cells.lookup x=Gc c->c<s.heap.objs.size:=λ{x c} h=>by
  obtain⟨v,oc,ho,_⟩:=I.cell x c h
  exact nS ho
 have look:∀{x:Str} {c:nH},(cellsFrom (s.heap.objs.size+1) scope.names (GZ X.env.cells scope.names [])).lookup x=Gc c->(x,c)∈cellsFrom (s.heap.objs.size+1) scope.names []\/X.env.cells.lookup x=Gc c:=λ{x c} h=>by
  rw[Bw,tU]at h
  cases e:(cellsFrom (s.heap.objs.size+1) scope.names []).lookup x with
  |some a=>rw[e]at h;cases h;exact .inl (pQ e)
  |none=>rw[e]at h;exact .inr (sub h)
 refine⟨⟨I.ok.mod,S.kind,I.ok.glob,I.ok.blt,nG _,λx y c h1 h2=>?_,λx hx=>?_,λx c hx h=>?_,λ_=>I.ok.hd hc,I.ok.frames,.inl rfl,λb hb=>?_,I.bs,nL I.ok.bsz I.sz,λb o e hb=>?_,λb hb hs=>?_,I.stack,I.TJ⟩,
  rfl,I.bare,Un.kept hk,⟨m1,hn,λj x v h1 h2 h3=>?_⟩,λx c h=>?_,I.hok.fresh (nG _),λx c h=>?_,λp hp=>absurd (show p∈([]:List (nH×Obj))from hp) (by simp),I.hok.kept hk,?_⟩
 . -- inj
   rcases look h1 with a|a<;>rcases look h2 with b|b
   .exact name_of_addr hC.apart a b
   .exact absurd (nE (old b) (sV (hC.empty _ _ a).2)) (pL _)
   .exact absurd (nE (old a) (sV (hC.empty _ _ b).2)) (pL _)
   .exact I.ok.inj x y c a b
 . -- has
   have hx':(relabel scope X.env).names.lookup x=Gc .cell\/(relabel scope X.env).names.lookup x=Gc .free:=hx
   show∃c,(cellsFrom (s.heap.objs.size+1) scope.names (GZ X.env.cells scope.names [])).lookup x=Gc c
   rw[Bw,tU]
   cases e:(cellsFrom (s.heap.objs.size+1) scope.names []).lookup x with
   |some a=>exact⟨a,rfl⟩
   |none=>
    rcases(hx'.elim (K6 (.inl rfl)) (K6 (.inr rfl)))with z|z
    .exact JE (.inl z)
    .obtain⟨c,hc⟩:=Kk (n:=s.heap.objs.size+1) (S.cells _ z rfl)
     rw[e]at hc;cases hc
 . -- cab
   obtain⟨c',hc'⟩:=Kk (n:=s.heap.objs.size+1) (nT hx)
   have h:(cellsFrom (s.heap.objs.size+1) scope.names (GZ X.env.cells scope.names [])).lookup x=Gc c:=h
   rw[Bw,tU,hc']at h
   cases h
   exact sV (hC.empty _ _ (pQ hc')).2
 . -- exf
   refine⟨nV (hlt b hb),λx c h=>?_⟩
   rcases look h with a|a
   .exact λe=>absurd (nE (e▸hlt b hb) (sV (hC.empty _ _ a).2)) (pL _)
   .exact(hf b hb).2.2.2.2.1 x c a
 . -- ZY
   rcases(hf b hb).2.2.2.1 with z|z
   .exact I.ok.ZY b o e z
   .exact absurd (nE (nS (I.ok.bs b o e).1) z) (pL _)
 . -- bE
   rcases nK.mp (I.SY b hs)with z|z
   .exact(hf b hb).2.1 z
   .exact(hf b hb).2.2.1 z
 . -- loc
   unfold sig at h2
   rw[ng]at h2
   cases e:ix[j]? with
   |none=>rw[e]at h2;cases h2
   |some o=>
    rw[e]at h2
    cases o with
    |none=>cases h2
    |some i=>
     have h2':(σ[i]?).join=Gc v:=by simpa using h2
     have h4:σ[i]?=Gc (Gc v):=by
      cases e4:σ[i]? with
      |none=>rw[e4]at h2';cases h2'
      |some q=>rw[e4]at h2';exact congrArg Gc h2'
     obtain⟨q1,q2,q3⟩:=aC S.ok h1 e
     obtain⟨m,_,hl⟩:=I.loc
     obtain⟨u,r,l⟩:=hl i x v q1 h4 (q2.elim (λz=>.inr (.inl z)) λz=>.inr (.inr z))
     refine⟨u,r,?_⟩
     rcases l with⟨l,_⟩|⟨_,c,lc,z⟩
     .have l':X.env.scope.names.lookup x=Gc .local:=l
      rcases q2 with z|z<;>(rw[z]at l';cases l')
     .refine .inr ⟨Jw q3,?_⟩
      obtain⟨c',hc'⟩:=JE (cells:=X.env.cells) (cs:=[]) (.inl (pQ q3))
      have ec:=sub hc'
      rw[lc]at ec
      cases ec
      have no:(cellsFrom (s.heap.objs.size+1) scope.names []).lookup x=none:=by
       cases e:(cellsFrom (s.heap.objs.size+1) scope.names []).lookup x with
       |none=>rfl
       |some a=>
        have q:=S.cells _ (GV (pQ e)) rfl
        rw[q3]at q;cases q
      refine⟨c,(by show(cellsFrom (s.heap.objs.size+1) scope.names (GZ X.env.cells scope.names [])).lookup x=Gc c;rw[Bw,tU,no];exact hc'),?_⟩
      obtain⟨oc,ho,hd⟩:=z
      exact⟨oc,hk _ _ ho,hd⟩
 .rcases look h with a|a
  .exact⟨_,(hC.empty _ _ a).1⟩
  .obtain⟨v,oc,ho,hd⟩:=I.cell x c a
   exact⟨v,oc,hk _ _ ho,hd⟩
 .rcases look h with a|a
  .exact I.hok.fresh (sV (hC.empty _ _ a).2)
  .exact I.Lv x c a
 .show(sig ix σ).length=N'.length
  unfold sig
  rw[oG]
  exact TQ S.ok
end
end L2
end
noncomputable section
namespace L2
open PySem PySem.Spec PyProof.Rows
def PTs(X:Cx)(ifs:List oI)(t:TT):Prop:=
 ∀(pins:List (nH×Obj)) (s:m8) (σ:St) (H:Hp) (Q:oO->Hp->Prop),Inv X pins σ H s->t σ H Q->
  wpAny (model X.prog X.w) X.A (forIn ifs true λc r=>if r=true then do let ok<-isTrue c X.env (eval c X.env);pure (ui ok)else pure (ui r)) (TP X pins σ Q) X.xe s
noncomputable def iz:TT:=λ_ H Q=>Q true H
theorem aW{X:Cx}:PTs X [] iz:=λ_ _ _ H _ I h=>wpAny_tests_nil ⟨H,I,h⟩
theorem af{X:Cx}{c:oI}{t:TT}(h:PT X c t):PTs X [c] t:=λpins s σ H Q I q=>wpAny_tests_one (h pins s σ H Q I q)
theorem V9{α:Type}{M:Model}{A:oU}{t:Sem α}{Q:α->m8->Prop}{E:mz->m8->Prop}{s:m8}(h:wpAny M A t Q (λ_ _=>sH) s):wpAny M A t Q E s:=uw h (λ_ _ q=>q) λ_ _ f=>f.elim
def cH(ix:List (nB Nat))(g:TG)(tc:TT)(te:TE)(J:It)(σ:St)(H:Hp)(Q:VK):Prop:=
 ∀D,H D=none->∃W:Nat->Nat->St->Hp->List V->Prop,(∃m,W 0 m (sig ix σ) (upd H D (.lst [])) [])/\∀i m σ H ys,W i m σ H ys->H D=Gc (.lst ys)/\
  ((J.stop i H/\Q (.ref D) H)\/(J.go i H/\ys.length<sizeLine/\∀x H',J.yld i H x H'->g x σ H' λσ2 H2=>tc σ2 H2 λb H3=>
    if b=true then te σ2 H3 λy H4=>H4 D=Gc (.lst ys)/\∃m',m'<m/\W (i+1) m' σ2 (upd H4 D (.lst (ys++[y]))) (ys++[y])else∃m',m'<m/\W (i+1) m' σ2 H3 ys))
noncomputable def Y6(ix:List (nB Nat))(wi:TI)(g:TG)(tc:TT)(te:TE):TE:=λσ H Q=>wi σ H λJ H1=>cH ix g tc te J σ H1 Q
section
variable{X:Cx}{pins:List (nH×Obj)}{σ:St}{s₂:m8}{N':List Str}{ix:List (nB Nat)}{scope:rQ}{elt tg iter:oI}{ifs:List oI}{pos:Pos}{g:TG}{tc:TT}{te:TE}
def Block(X:Cx)(N':List Str)(scope:rQ)(tg:oI)(ifs:List oI)(elt:oI)(g:TG)(tc:TT)(te:TE):Prop:=
 ∀(s:m8) (H:Hp) (fp:List nH),PG (HM X N' scope s H fp) tg g/\PTs (HM X N' scope s H fp) ifs tc/\PE (HM X N' scope s H fp) elt te
theorem Tw {X' : Cx} {it : nH} {fp : List nH} {tn : Nat -> oQ -> Prop} {J : It} {D : nH} {Q : VK} {R : Result -> m8 -> Prop} {W : Nat -> Nat -> St -> Hp -> List V -> Prop} {s : m8} {e : Env} {n : Nat} (he : X'.env = e) (hx : X'.xe = fun _ _ => sH) (hcm : X'.calm = true) (T : Turn X'.prog X'.w X'.K tg J fp it tn) (hfp : ∀ H : Hp, (∀ b ∈ fp, H b = none) -> ∀ b ∈ fp, QQ X' [] H b) (hg : PG X' tg g) (ht : PTs X' ifs tc) (hb : PE X' elt te) (turn : ∀ i m σ H ys, W i m σ H ys -> H D = Gc (.lst ys) /\ ((J.stop i H /\ Q (.ref D) H) ∨ (J.go i H /\ ys.length < sizeLine /\ ∀ x H', J.yld i H x H' -> g x σ H' fun σ2 H2 => tc σ2 H2 fun b H3 =>
        if b = true then te σ2 H3 fun y H4 => H4 D = Gc (.lst ys) /\ ∃ m', m' < m /\ W (i + 1) m' σ2 (upd H4 D (.lst (ys ++ [y]))) (ys ++ [y]) else ∃ m', m' < m /\ W (i + 1) m' σ2 H3 ys)))
    (hR : ∀ s' σ' H', Inv X' [] σ' H' s' -> Q (.ref D) H' -> R (.ok .next) s')
    (h0 : ∃ i σ' H' ys, Inv X' [] σ' H' s /\ tn i s.heap /\ (∀ b ∈ fp, H' b = none) /\ W i n σ' H' ys) :
    codeAny (model X'.prog X'.w) X'.A (.compLoop (.ListComp elt [⟨tg, iter, ifs, 0⟩] scope pos) 0 (.ref it) (.ref D) e) R s := by
  subst he
  refine codeAny_loop rfl (fun n s => ∃ i σ' H' ys, Inv X' [] σ' H' s /\ tn i s.heap /\ (∀ b ∈ fp, H' b = none) /\ W i n σ' H' ys) (fun n s3 hI => ?_) n h0
  show wpAny _ X'.A ((compTurn (.ListComp elt [⟨tg, iter, ifs, 0⟩] scope pos) 0 (.ref it) (.ref D) X'.env).onRaise (fun x => do noteFrame x X'.env; theTreesLotGoes x)) _ _ s3
  refine wpAny_noted (V9 ?_)
  rw [compTurn_list]
  obtain ⟨i, σ3, H3, ys, I3, st3, fr3, w3⟩ := hI
  obtain ⟨hD, alt⟩ := turn i n σ3 H3 ys w3
  rcases alt with ⟨stop, q⟩ | ⟨go, hlen, step⟩
  · refine Wp (tN (Wp (thn (T.done X' rfl rfl rfl hcm i [] s3 σ3 H3 _ I3 (hfp H3 fr3) st3 stop) fun r s4 ⟨hr, I4⟩ => ?_)))
    subst hr
    exact m9 (hR s4 σ3 H3 I4 q)
  · refine Wp (tN (Wp (thn (T.item X' rfl rfl rfl hcm i [] s3 σ3 H3 _ I3 (hfp H3 fr3) st3 go) fun r s4 ⟨u, hr, h4⟩ => ?_)))
    subst hr
    refine Wp (thn h4 fun _ s5 ⟨x, H5, I5, r5, y5, st5, fr5⟩ => ?_)
    have I5' := I5.pinned (hfp H5 fr5) (T.obj _ _ st5)
    have hg' := hg _ s5 σ3 H5 x u _ I5' r5 (step x H5 y5)
    rw [hx] at hg'
    refine Wp (thn hg' fun _ s6 ⟨σ6, H6, I6, q6⟩ => ?_)
    have ht' := ht _ s6 σ6 H6 _ I6 q6
    rw [hx] at ht'
    refine Wp (thn ht' fun ok s7 ⟨H7, I7, q7⟩ => ?_)
    have again : ∀ {s8 : m8} {H8 : Hp} {zs : List V} {m' : Nat}, Inv X' ([] ++ PH fp s5.heap) σ6 H8 s8 -> m' < n -> W (i + 1) m' σ6 H8 zs -> ∃ m, m < n /\ ∃ i σ' H' ys, Inv X' [] σ' H' s8 /\ tn i s8.heap /\ (∀ b ∈ fp, H' b = none) /\ W i m σ' H' ys := fun {s8 H8 zs m'} I8 hm w8 => by
      refine ⟨m', hm, i + 1, σ6, H8, zs, I8.Kj, T.keep _ _ _ st5 fun b hb o e => (I8.pin (b, o) (oZ _ (oZ _ (Ho hb e)))).1, fun b hb => ?_, w8⟩
      obtain ⟨o, e, d⟩ := T.obj _ _ st5 b hb
      exact (I8.pin (b, o) (oZ _ (oZ _ (Ho hb e)))).2.1
    cases ok with
    | false =>
      rw [oE (by decide)] at q7
      obtain ⟨m', hm, w7⟩ := q7
      exact m9 ⟨rfl, again I7 hm w7⟩
    | true =>
      rw [nh rfl] at q7
      have hb' := hb _ s7 σ6 H7 _ I7 q7
      rw [hx] at hb'
      refine Wp (Wp (thn hb' fun v s8 ⟨y, H8, I8, r8, hD8, m', hm, w8⟩ => ?_))
      have ha := Oq (X := X') _ s8 σ6 H8 (.ref D) [y] (.ref D) [v] (fun _ H9 => H9 = upd H8 D (.lst (ys ++ [y]))) I8 rfl (.cons r8 .nil) ⟨D, ys, y, rfl, rfl, hD8, hlen, rfl⟩
      rw [hx] at ha
      refine Wp (thn ha fun _ s9 ⟨_, H9, I9, _, e9⟩ => ?_)
      subst e9
      exact m9 (m9 ⟨rfl, again I9 hm w8⟩)
theorem Q5(hc:X.calm=true)(S:Ab X.N X.env.scope N' ix scope)(hb:Block X N' scope tg ifs elt g tc te){it:nH}{fp:List nH}{tn:Nat->oQ->Prop}{J:It}{H₂:Hp}{Q:VK}{E:mz->m8->Prop}{RR:mz->nH->Result->m8->Prop}(I2:Inv X pins σ H₂ s₂)(T:Turn X.prog X.w X.K tg J fp it tn)(st2:tn 0 s₂.heap)(f2:∀b∈fp,QQ X pins H₂ b)(hW:cH ix g tc te J σ H₂ Q)(hRR:∀D C H' s',Inv X pins σ H' s'->(∃m,s'.heap.Ns C m)->QQ X pins H' C->Q (.ref D) H'->RR (.ref D) C (.ok .next) s'):wpAny (model X.prog X.w) X.A (newList []) (λacc s₃=>wpAny (model X.prog X.w) X.A (newFunctionEnv scope X.env.globals (GZ X.env.cells scope.names []) [] X.env.qual none .none (Gc X.env)) (λcenv s₄=>
  codeAny (model X.prog X.w) X.A (.compStart (.ListComp elt [⟨tg,iter,ifs,0⟩] scope pos) 0 (.ref it) acc {cenv with scope:=relabel scope X.env}) (RR acc cenv.locals) s₄) E s₃) E s₂:=by
 have hD0:H₂ s₂.heap.objs.size=none:=I2.hok.fresh (nG _)
 have hlt2:∀b∈fp,b<s₂.heap.objs.size:=λb hb=>by
  obtain⟨o,e,_⟩:=T.obj _ _ st2 b hb
  exact nS e
 refine pE (Ji (λh₁ hns₁ hsb₁ hcl₁=>?_))
 have I3:Inv X pins σ (upd H₂ s₂.heap.objs.size (.lst [])) {s₂ with heap:=s₂.heap.push {cls:=.type "list",dict:=none,data:=.seq ([]:List mz).toArray}}:=
  I2.laid (t':=s₂.toks) (λb u e=>my _ e) (nG _) ⟨pY _,[],0,.nil,nM _ rfl⟩
 have f3:∀b∈fp,QQ X pins (upd H₂ s₂.heap.objs.size (.lst [])) b:=λb hb=>⟨by rw[AY (nV (hlt2 b hb))];exact(f2 b hb).1,(f2 b hb).2⟩
 have k3:∀b o,s₂.heap.get? b=Gc o->(s₂.heap.push {cls:=.type "list",dict:=none,data:=.seq ([]:List mz).toArray}).get? b=Gc o:=λb o e=>my _ e
 dsimp only at hns₁ hsb₁ hcl₁⊢
 generalize hs3:({s₂ with heap:=s₂.heap.push {cls:=.type "list",dict:=none,data:=.seq ([]:List mz).toArray}}:m8)=s₃ at I3
 have eh:s₂.heap.push {cls:=.type "list",dict:=none,data:=.seq ([]:List mz).toArray}=s₃.heap:=by rw[<-hs3]
 have et:s₂.toks=s₃.toks:=by rw[<-hs3]
 have es:∀(h:oQ) (t:Nat),({s₂ with heap:=h,toks:=t}:m8)={s₃ with heap:=h,toks:=t}:=λh t=>by rw[<-hs3]
 rw[eh]at hns₁ hsb₁ hcl₁ k3⊢
 have hlt3:∀b∈fp,b<s₃.heap.objs.size:=λb hb=>by
  obtain⟨o,e,_⟩:=T.obj _ _ st2 b hb
  exact nS (k3 b o e)
 have k4:∀b o,s₃.heap.get? b=Gc o->h₁.get? b=Gc o:=hsb₁
 obtain⟨W,⟨m0,w0⟩,turn⟩:=hW _ hD0
 have I4:∀tk,Inv (HM X N' scope s₃ (upd H₂ s₂.heap.objs.size (.lst [])) fp) [] (sig ix σ) (upd H₂ s₂.heap.objs.size (.lst [])) {s₃ with heap:=h₁,toks:=tk}:=λtk=>Ws S hc I3 f3 hlt3 hns₁ k4 hcl₁
 have st4:tn 0 h₁:=T.keep _ _ _ st2 λb hb o e=>k4 b o (k3 b o e)
 obtain⟨bg,bt,be⟩:=hb s₃ (upd H₂ s₂.heap.objs.size (.lst [])) fp
 have noX:∀(H:Hp),(∀b∈fp,H b=none)->∀b∈fp,QQ (HM X N' scope s₃ (upd H₂ s₂.heap.objs.size (.lst [])) fp) [] H b:=λH hn b hb=>by
  obtain⟨_,h2,h3⟩:=f3 b hb
  refine⟨hn b hb,nV (hlt3 b hb),λhs=>(I4 0).ok.bE b hb hs,.inl hb,λx c h=>?_,λp hp=>absurd (show p∈([]:List (nH×Obj))from hp) (by simp)⟩
  exact((I4 0).ok.exf b hb).2 x c h
 have fin:∀(s':m8) (σ':St) (H':Hp),Inv (HM X N' scope s₃ (upd H₂ s₂.heap.objs.size (.lst [])) fp) [] σ' H' s'->Q (.ref s₂.heap.objs.size) H'->RR (.ref s₂.heap.objs.size) s₃.heap.objs.size (.ok .next) s':=λs' σ' H' I' q=>by
  refine hRR _ _ H' s' ?_ (let⟨m,hn,_⟩:=I'.loc;⟨m,hn⟩) (I3.ZQ (nG _) I'.free) q
  exact I3.iH I'.os I'.base I'.hok I'.bare λb hb=>⟨(f3 b hb).2.2.2.1,(f3 b hb).2.1,(f3 b hb).2.2.2.2.1,(f3 b hb).2.2.2.2.2⟩
 have loop:∀tk,codeAny (model X.prog X.w) X.A (.compLoop (.ListComp elt [⟨tg,iter,ifs,0⟩] scope pos) 0 (.ref it) (.ref s₂.heap.objs.size) (compEnvC scope (cellsFrom (s₃.heap.objs.size+1) scope.names (GZ X.env.cells scope.names [])) s₃.heap.objs.size X.env)) (RR (.ref s₂.heap.objs.size) s₃.heap.objs.size) {s₃ with heap:=h₁,toks:=tk}:=λtk=>
  Tw (X':=HM X N' scope s₃ (upd H₂ s₂.heap.objs.size (.lst [])) fp) (D:=s₂.heap.objs.size) (Q:=Q) (W:=W) rfl rfl rfl T noX bg bt be turn fin ⟨0,_,_,_,I4 tk,st4,λb hb=>(f3 b hb).1,w0⟩
 rw[es]
 exact codeAny_compStart_list (loop _) (T.self _ 0 _ _ _ st4 (loop _))
theorem aU{wi:TI}(hc:X.calm=true)(S:Ab X.N X.env.scope N' ix scope)(hi:PI X tg iter wi)(hb:Block X N' scope tg ifs elt g tc te)(hs:∀x,foldedSetIterable iter X.env x=pure x:=by intro _;rfl):PE X (.ListComp elt [⟨tg,iter,ifs,0⟩] scope pos) (Y6 ix wi g tc te):=by
 intro pins s σ H Q I h
 rw[eval_ListComp]
 refine vY (use:=none) rfl hs (Ql (I.cellsOf S)) S.kind S.names (thn (hi pins s σ H _ I h) λv s1 h1=>thn h1 λitv s2 h2=>?_)
 obtain⟨it,fp,tn,J,H2,e,I2,T,st2,f2,hW⟩:=h2
 subst e
 refine Q5 (RR:=λacc C=>compPost (model X.prog X.w) X.A X.xe none (EP X pins σ Q) acc C) hc S hb I2 T st2 f2 hW ?_
 intro D C H' s' I' hm hC q
 obtain⟨m,hm⟩:=hm
 refine⟨m,hm,λh' hs'=>⟨.ref D,H',I'.turned (it:=C) (t':=s'.toks) (λb o hb e=>hs'.extBut b o hb e) hC.1 hC.2.1 hC.2.2.2.1 hC.2.2.2.2.1 hC.2.2.2.2.2,rfl,q⟩⟩
end
end L2
end
noncomputable section
namespace L2
open PySem PySem.Spec PyProof.Rows
section
variable{X:Cx}{N':List Str}{ix:List (nB Nat)}{scope:rQ}{elt tg iter:oI}{ifs:List oI}{pos spos py:Pos}{g:TG}{tc:TT}{te:TE}{wi:TI}{i:Nat}{y:Str}
theorem RY(hc:X.calm=true)(hN:X.N.Nodup)(hi':X.N[i]?=Gc y)(hx:X.env.scope.names.lookup y=Gc .local)(S:Ab X.N X.env.scope N' ix scope)(hi:PI X tg iter wi)(hb:Block X N' scope tg ifs elt g tc te)(hsw:swapsWith (.ListComp elt [⟨tg,iter,ifs,0⟩] scope pos) (Gc (.Name y py)) spos.line X.env=pure true:=by rfl)(hs:∀x,foldedSetIterable iter X.env x=pure x:=by intro _;rfl):PS X (.Assign [.Name y py] (.ListComp elt [⟨tg,iter,ifs,0⟩] scope pos) spos) (iU (Y6 ix wi g tc te) (Zh i)):=by
 intro pins s σ H D I h
 rw[exec_Assign_Name_used _ _ _ _ hsw]
 refine Wp (tN (Wp ?_))
 show wpAny _ X.A (do let _<-comprehension (.ListComp elt [⟨tg,iter,ifs,0⟩] scope pos) scope X.env _ (newList []) false (eval iter X.env) (Gc (assign (.Name y py) X.env))) _ _ s
 refine Wp (uw (vY (use:=Gc (assign (.Name y py) X.env)) (Q:=λ_ s'=>SP X pins D .next s') rfl hs (Ql (I.cellsOf S)) S.kind S.names
  (thn (hi pins s σ H _ I h) λv s1 h1=>thn h1 λitv s2 h2=>?_)) (λ_ s' hq=>m9 (m9 hq)) λ_ _ e=>e)
 obtain⟨it,fp,tn,J,H2,e,I2,T,st2,f2,hW⟩:=h2
 subst e
 refine Q5 (RR:=λacc C=>compPost (model X.prog X.w) X.A X.xe (Gc (assign (.Name y py) X.env)) (λ_ s'=>SP X pins D .next s') acc C) hc S hb I2 T st2 f2 hW ?_
 intro L C H' s' I' hm hC q
 obtain⟨m,hm⟩:=hm
 show wpAny _ X.A (assign (.Name y py) X.env (.ref L)) _ _ _
 refine yJ (OP I' hN hi' (.inl hx) (v:=.ref L) rfl (λs'' I'' ⟨a,sb,ha⟩=>?_) (.inr hx))
 have hCa:C≠a:=by
  rcases ha with rfl|ha
  .exact hC.2.1
  .exact pV (hC.2.2.2.2.1 y a ha)
 refine⟨m,hm.sameBut sb hCa,λh' hs'=>?_⟩
 exact⟨_,H',I''.turned (it:=C) (t':=s''.toks) (λb o hb e=>hs'.extBut b o hb e) hC.1 hC.2.1 hC.2.2.2.1 hC.2.2.2.2.1 hC.2.2.2.2.2,q⟩
end
end L2
end
noncomputable section
namespace L2
open PySem PySem.Spec PyProof.Rows
section
variable{κ:Type} [wt κ]
noncomputable def R0(kvs:List (κ×V))(k:κ):nB V:=(kvs.find? λkv=>decide (kv.1=k)).map (·.2)
noncomputable def putK(kvs:List (κ×V))(k:κ)(v:V):List (κ×V):=
 if(kvs.any λkv=>decide (kv.1=k))=true then kvs.map (λkv=>if kv.1=k then(kv.1,v)else kv)else kvs++[(k,v)]
theorem Ko{p:κ×V}{r:List (κ×V)}{k:κ}(e:p.1=k):R0 (p::r) k=Gc p.2:=by simp[R0,sM,e]
theorem Kl{p:κ×V}{r:List (κ×V)}{k:κ}(e:¬p.1=k):R0 (p::r) k=R0 r k:=by simp[R0,sM,e]
theorem Q9(k:κ):∀kvs:List (κ×V),(kvs.any λkv=>decide (kv.1=k))=(R0 kvs k).isSome
 | []=>rfl
 |p::r=>by
  rw[qi]
  by_cases e:p.1=k
  .simp only[Ko e,pJ e,Bool.true_or,xy]
  .rw[Kl e,qE e,Bool.false_or];exact Q9 k r
theorem IU(kvs:List (κ×V))(k:κ)(v:V):(putK kvs k v).length<=kvs.length+1:=by
 unfold putK
 split
 .rw[oG];lia
 .rw[pF,oT,sN];lia
theorem Vb.SV{o:nB V}{u:nB mz}(r:Vb o u):o.isSome=u.isSome:=by
 cases o with
 |none=>cases u with
  |none=>rfl
  |some _=>exact(show sH from r).elim
 |some _=>cases u with
  |none=>exact(show sH from r).elim
  |some _=>rfl
theorem Vb.getD{o:nB V}{u:nB mz}{d:V}{d':mz}(r:Vb o u)(rd:RelV d d'):RelV (o.getD d) (u.getD d'):=by
 cases o with
 |none=>cases u with
  |none=>exact rd
  |some _=>exact(show sH from r).elim
 |some _=>cases u with
  |none=>exact(show sH from r).elim
  |some _=>exact r
theorem KV.val{kvs:List (κ×V)}{vs:List (κ×mz)}(r:KV kvs vs)(k:κ):Vb (R0 kvs k) (valueAt vs k):=by
 unfold KV at r
 induction r with
 |nil=>exact rH
 | @cons p q ps qs h t ih=>
   obtain⟨h1,h2⟩:=h
   by_cases e:p.1=k
   .have e':q.1=k:=h1.symm.trans e
    have b:valueAt (q::qs) k=Gc q.2:=by simp[valueAt,sM,e']
    rw[Ko e,b];exact h2
   .have e':¬q.1=k:=λz=>e (h1.trans z)
    have b:valueAt (q::qs) k=valueAt qs k:=by simp[valueAt,sM,e']
    rw[Kl e,b];exact ih
theorem KV.any{kvs:List (κ×V)}{vs:List (κ×mz)}(r:KV kvs vs)(k:κ):(kvs.any λkv=>decide (kv.1=k))=vs.any λkv=>decide (kv.1=k):=by
 unfold KV at r
 induction r with
 |nil=>rfl
 |cons h t ih=>rw[qi,qi,ih,h.1]
theorem KV.ZT{kvs:List (κ×V)}{vs:List (κ×mz)}(r:KV kvs vs)(k:κ){y:V}{u:mz}(ry:RelV y u):KV (kvs.map λkv=>if kv.1=k then(kv.1,y)else kv) (vs.map λkv=>if kv.1=k then(kv.1,u)else kv):=by
 unfold KV at r⊢
 induction r with
 |nil=>exact .nil
 | @cons p q ps qs h t ih=>
   rw[nR,nR]
   refine .cons ?_ ih
   obtain⟨h1,h2⟩:=h
   by_cases e:p.1=k
   .rw[nh e,nh (h1.symm.trans e)];exact⟨h1,ry⟩
   .rw[oE e,oE (λz=>e (h1.trans z))];exact⟨h1,h2⟩
theorem KV.put{kvs:List (κ×V)}{vs:List (κ×mz)}(r:KV kvs vs)(k:κ){y:V}{u:mz}(ry:RelV y u):KV (putK kvs k y) (stored vs k u):=by
 unfold putK stored
 rw[r.any k]
 by_cases e:(vs.any λkv=>decide (kv.1=k))=true
 .rw[nh e,nh e];exact r.ZT k ry
 .rw[oE e,oE e];exact Paired.snoc r ⟨rfl,ry⟩
theorem KV.keys{kvs:List (κ×V)}{vs:List (κ×mz)}(r:KV kvs vs):kvs.map (·.1)=vs.map (·.1):=by
 unfold KV at r
 induction r with
 |nil=>rfl
 |cons h t ih=>rw[nR,nR,ih,h.1]
theorem KV.length{kvs:List (κ×V)}{vs:List (κ×mz)}(r:KV kvs vs):kvs.length=vs.length:=xh r
end
theorem WX{P:nq}{w:oN}{k:Key}{u:mz}(r:RelV (kV k) u):(B8 P w).is k u=true:=by
 cases k with
 |inl i=>obtain⟨t,e⟩:=(show∃t,u=tY i t from r);subst e;exact QN P w i t
 |inr x=>obtain⟨t,e⟩:=(show∃t,u=ve x t from r);subst e;exact Pu P w x t
theorem PQ{P:nq}{w:oN}:∀{ks:List Key} {us:List mz},Vals (ks.map kV) us->ItemsAre (B8 P w) ks us
 | [],_,r=>by rw[oy]at r;cases r;exact .nil
 |k::ks,_,r=>by
  rw[nR]at r
  cases r with
  |cons h t=>exact .cons (WX h) (PQ t)
abbrev KT(H:Hp):List (List Key×V)->List (List Key×nH×mz)->Prop:=Paired λp q=>p.1=q.1/\H q.2.1=Gc (.tup (p.1.map kV))/\RelV p.2 q.2.2
theorem KT.val{H:Hp}{kvs:List (List Key×V)}{xs:List (List Key×nH×mz)}(r:KT H kvs xs)(k:List Key):Vb (R0 kvs k) ((atKey xs k).map (·.2)):=by
 induction r with
 |nil=>exact rH
 | @cons p q ps qs h t ih=>
   obtain⟨h1,_,h2⟩:=h
   by_cases e:p.1=k
   .have e':q.1=k:=h1.symm.trans e
    have b:atKey (q::qs) k=Gc q.2:=by simp[atKey,sM,e']
    rw[Ko e,b];exact h2
   .have e':¬q.1=k:=λz=>e (h1.trans z)
    have b:atKey (q::qs) k=atKey qs k:=by simp[atKey,sM,e']
    rw[Kl e,b];exact ih
theorem KT.ZT{H:Hp}{kvs:List (List Key×V)}{xs:List (List Key×nH×mz)}(r:KT H kvs xs)(k:List Key){y:V}{u:mz}(ry:RelV y u):KT H (kvs.map λkv=>if kv.1=k then(kv.1,y)else kv) (xs.map (putAt k u)):=by
 induction r with
 |nil=>exact .nil
 | @cons p q ps qs h t ih=>
   rw[nR,nR]
   refine .cons ?_ ih
   obtain⟨h1,h2,h3⟩:=h
   unfold putAt
   by_cases e:p.1=k
   .rw[nh e,nh (h1.symm.trans e)];exact⟨h1,h2,ry⟩
   .rw[oE e,oE (λz=>e (h1.trans z))];exact⟨h1,h2,h3⟩
theorem KT.put{H:Hp}{kvs:List (List Key×V)}{xs:List (List Key×nH×mz)}(r:KT H kvs xs)(k:List Key){b:nH}{y:V}{u:mz}(hb:H b=Gc (.tup (k.map kV)))(ry:RelV y u):KT H (putK kvs k y) (storedH xs k b u):=by
 have e:(kvs.any λkv=>decide (kv.1=k))=(atKey xs k).isSome:=by
  rw[Q9,(r.val k).SV,Option.isSome_map]
 unfold putK storedH
 rw[e]
 by_cases q:(atKey xs k).isSome=true
 .rw[nh q,nh q];exact r.ZT k ry
 .rw[oE q,oE q];exact Paired.snoc r ⟨rfl,hb,ry⟩
theorem KT.keeps{H H':Hp}{kvs:List (List Key×V)}{xs:List (List Key×nH×mz)}(r:KT H kvs xs)(ht:∀b ys,H b=Gc (.tup ys)->H' b=Gc (.tup ys)):KT H' kvs xs:=
 Paired.jG r λ_ _ z=>⟨z.1,ht _ _ z.2.1,z.2.2⟩
section
variable{P:nq}{w:oN}{H:Hp}{h:oQ}{a:nH}
theorem eQ{u:HO}(ok:HOk P w H h)(e:Rd H a u):Dr P w H h a u:=e.ok ok
theorem XF{kvs:List (Key×V)}(ok:HOk P w H h)(e:Rd H a (.dK kvs)):kvs.length<=sizeLine/\(a==sysModules)=false/\∃vs,KV kvs vs/\h.DictOf (B8 P w) a vs:=
 show Dr P w H h a (.dK kvs)from eQ ok e
theorem Wd{kvs:List (Key×V)}(ok:HOk P w H h)(e:H a=Gc (.dK kvs)):kvs.length<=sizeLine/\(a==sysModules)=false/\∃vs,KV kvs vs/\h.DictOf (B8 P w) a vs:=XF ok (.inl e)
theorem TF{ks:List Key}(ok:HOk P w H h)(e:H a=Gc (.tup (ks.map kV))):(tupleKind (B8 P w)).is h ks a:=by
 obtain⟨_,its,r,o,h1,h2,n,h3⟩:=(show Dr P w H h a (.tup (ks.map kV))from ok a _ e)
 exact⟨o,its.toArray,n,h1,h2,h3,by simpa using PQ r⟩
theorem ZC{kvs:List (List Key×V)}(ok:HOk P w H h)(e:Rd H a (.dT kvs)):kvs.length<=sizeLine/\(a==sysModules)=false/\∃xs,KT H kvs xs/\h.DictOfH (tupleKind (B8 P w)) a xs:=by
 obtain⟨z,y,xs,r,o,es,ep,h1,h2,h3,h4,h5⟩:=(show Dr P w H h a (.dT kvs)from eQ ok e)
 refine⟨z,y,xs,r,o,es,ep,h1,h2,h3,h4,λx hx=>?_,h5⟩
 have all:∀{l:List (List Key×V)} {m:List (List Key×nH×mz)},KT H l m->∀x∈m,(tupleKind (B8 P w)).is h x.1 x.2.1:=by
  intro l m q
  induction q with
  |nil=>intro x hx;exact nomatch hx
  | @cons p q ps qs hq t ih=>
    intro x hx
    rcases nK.mp hx with e|hx
    .subst e
     exact TF ok (by rw[<-hq.1];exact hq.2.1)
    .exact ih x hx
 exact all r x hx
theorem W9{kvs:List (List Key×V)}(ok:HOk P w H h)(e:H a=Gc (.dT kvs)):kvs.length<=sizeLine/\(a==sysModules)=false/\∃xs,KT H kvs xs/\h.DictOfH (tupleKind (B8 P w)) a xs:=ZC ok (.inl e)
end
def fU(H:Hp)(a:nH)(y:V)(r:nB V):Prop:=
 (∃kvs k,Rd H a (.dK kvs)/\y=kV k/\r=R0 kvs k)\/∃kvs k b,Rd H a (.dT kvs)/\y=.ref b/\H b=Gc (.tup (k.map kV))/\r=R0 kvs k
def eY(H:Hp)(a:nH)(y v:V)(H':Hp):Prop:=
 (∃kvs k,H a=Gc (.dK kvs)/\y=kV k/\kvs.length<sizeLine/\H'=upd H a (.dK (putK kvs k v)))∨
 ∃kvs k b,H a=Gc (.dT kvs)/\y=.ref b/\H b=Gc (.tup (k.map kV))/\kvs.length<sizeLine/\H'=upd H a (.dT (putK kvs k v))
theorem fU.k{H:Hp}{a:nH}{kvs:List (Key×V)}{k:Key}(e:H a=Gc (.dK kvs)):fU H a (kV k) (R0 kvs k):=.inl ⟨kvs,k,.inl e,rfl,rfl⟩
theorem eY.k{H:Hp}{a:nH}{kvs:List (Key×V)}{k:Key}{v:V}(e:H a=Gc (.dK kvs))(hl:kvs.length<sizeLine):eY H a (kV k) v (upd H a (.dK (putK kvs k v))):=.inl ⟨kvs,k,e,rfl,hl,rfl⟩
section
variable{X:Cx}{pins:List (nH×Obj)}{σ:St}{H:Hp}{s:m8}{a:nH}{y v:V}{u r:mz}{o:nB V}{A:oU}{E:mz->m8->Prop}
theorem Inv.big(I:Inv X pins σ H s):sysModules<s.heap.objs.size:=by
 have h:mainGlobals<s.heap.objs.size:=(I.mod.glob.keeps I.bk).lt
 exact r9 (by decide) h
theorem P6{h':oQ}{t':Nat}{ob:HO}(I:Inv X pins σ H s)(mu:Mut (H a))(hs:qf a s.heap h')(he:∃q,h'.get? a=Gc q)(new:Dr X.prog X.w (upd H a ob) h' a ob):Inv X pins σ (upd H a ob) {s with heap:=h',toks:=t'}:=
 I.write (x:=a) (e:=a) mu (.inl rfl) (λb q hb z=>(hs.2 b hb).trans z) he new
theorem VC{P:nq}{w:oN}{H':Hp}{h':oQ}{kvs:List (Key×V)}{vs:List (Key×mz)}(z:kvs.length<=sizeLine)(hd:(a==sysModules)=false)(rel:KV kvs vs)(dd:h'.DictOf (B8 P w) a vs):Dr P w H' h' a (.dK kvs):=⟨z,hd,vs,rel,dd⟩
theorem T6{H':Hp}{Q:Unit->m8->Prop}(hu:A.units+1<cLine)(I:Inv X pins σ H s)(g:eY H a y v H')(ry:RelV y u)(rv:RelV v r)(h:∀s',Inv X pins σ H' s'->Q () s'):wpAny (model X.prog X.w) A (setItem (.ref a) u r) Q E s:=by
 rcases g with⟨kvs,k,e,ey,l,eH⟩|⟨kvs,k,b,e,ey,eb,l,eH⟩
 .subst ey eH
  obtain⟨z,hd,vs,rel,dd⟩:=Wd I.hok e
  have hz:vs.length<=sizeLine:=by rw[<-rel.length];exact z
  have hl:(putK kvs k v).length<=sizeLine:=by have:=IU kvs k v;lia
  refine wpAny_setItem_pairs (hsz:=hz) (WX ry) dd λh' dd' hs=>h _ ?_
  have he:∃q,h'.get? a=Gc q:=let⟨q,_,_,hq,_⟩:=dd';⟨q,hq⟩
  exact P6 I (by rw[e];exact rH) hs he (VC hl hd (rel.put k rv) dd')
 .subst ey eH
  cases (show u=oX b from ry)
  obtain⟨z,hd,xs,rel,dd⟩:=W9 I.hok e
  have hz:xs.length<=sizeLine:=by rw[<-xh rel];exact z
  have hl:(putK kvs k v).length<=sizeLine:=by have:=IU kvs k v;lia
  refine wpAny_setItem_heap (hsz:=hz) (x5 hu) (TF I.hok eb) dd λh' dd' hs=>h _ ?_
  obtain⟨q,es,ep,hq,h2,h3,h4,_,h5⟩:=dd'
  refine P6 I (by rw[e];exact rH) hs ⟨q,hq⟩ ⟨hl,hd,_,(rel.put k eb rv).keeps λc ys ec=>?_,q,es,ep,hq,h2,h3,h4,h5⟩
  rw[AY (jQ ec e (λz=>nomatch z))]
  exact ec
end
section
variable{X:Cx}{pins:List (nH×Obj)}{σ:St}{H:Hp}{s:m8}{a:nH}{kvs:List (Key×V)}{k:Key}{u:mz}{A:oU}{E:mz->m8->Prop}
end
noncomputable def iL(td ty tv:TE):TS:=λD σ H=>tv σ H λv H1=>td σ H1 λx H2=>ty σ H2 λy H3=>∃a H4,x=.ref a/\eY H3 a y v H4/\D.nx σ H4
section
variable{X:Cx}{o i e value:oI}{pos pos' tpos:Pos}{td ty tv:TE}
theorem ZO(hu:X.A.units+1<cLine)(ho:PE X o td)(hi:PE X i ty)(hv:PE X value tv)(hs:swapsWith value (Gc (.Subscript o i pos')) pos.line X.env=pure false):PS X (.Assign [.Subscript o i pos'] value pos) (iL td ty tv):=by
 intro pins s σ H D I h
 refine wpAny_Assign_Subscript (thn (hv pins s σ H _ I h) λr s1 ⟨v,H1,I1,rv,q1⟩=>thn (ho pins s1 σ H1 _ I1 q1) λu s2 ⟨x,H2,I2,rx,q2⟩=>thn (hi pins s2 σ H2 _ I2 q2) λiv s3 ⟨y,H3,I3,ry,a,H4,ex,g,q3⟩=>?_) hs
 subst ex
 obtain rfl:u=oX a:=rx
 exact T6 hu I3 g ry rv λs4 I4=>⟨σ,H4,I4,q3⟩
end
theorem Qi{P:nq}{w:oN}{H:Hp}(h:oQ)(hb:sysModules<h.objs.size):Dr P w H (h.push {cls:=.type "dict",data:=.dict #[]}) h.objs.size (.dK []):=
 ⟨pY _,tJ.mpr (pV (nV hb)),[],.nil,Heap.DictOf.new h⟩
noncomputable def eA:TE:=λ_ H Q=>∀p,H p=none->Q (.ref p) (upd H p (.dK []))
section
variable{X:Cx}{pos:Pos}
theorem V8:PE X (.Dict [] [] pos) eA:=λpins s σ H Q I h=>
 wpAny_Dict_empty ⟨.ref s.heap.objs.size,_,I.laid (a:=s.heap.objs.size) (o:=.dK []) (t':=s.toks) (λ_ _ q=>my _ q) (nG _) (Qi s.heap I.big),rfl,h _ (I.hok.fresh (nG _))⟩
end
def QT:List (TE×TE)->St->Hp->(List (V×V)->Hp->Prop)->Prop
 | [],_,H,Q=>Q [] H
 |(tk,tv)::r,σ,H,Q=>tk σ H λx H1=>tv σ H1 λy H2=>QT r σ H2 λps H3=>Q ((x,y)::ps) H3
abbrev VV:List (V×V)->List (mz×mz)->Prop:=Paired λp q=>RelV p.1 q.1/\RelV p.2 q.2
def PPs(X:Cx)(pos:Pos)(keys:List (nB oI))(values:List oI)(trs:List (TE×TE)):Prop:=
 ∀(pins:List (nH×Obj)) (s:m8) (σ:St) (H:Hp) (Q:List (V×V)->Hp->Prop),Inv X pins σ H s->QT trs σ H Q->
  wpAny (model X.prog X.w) X.A (evalPairs (pairTrees keys values X.env pos)) (λvs s'=>∃ps H',Inv X pins σ H' s'/\VV ps vs/\Q ps H') X.xe s
theorem aL{X:Cx}{pos:Pos}:PPs X pos [] [] []:=λpins s σ H Q I h=>pairTrees_nil_walk ⟨[],H,I,.nil,h⟩
theorem Xv{X:Cx}{pos:Pos}{k v:oI}{ks:List (nB oI)}{vs:List oI}{tk tv:TE}{trs:List (TE×TE)}(hk:PE X k tk)(hv:PE X v tv)(hr:PPs X pos ks vs trs):PPs X pos (Gc k::ks) (v::vs) ((tk,tv)::trs):=λpins s σ H Q I h=>
 pairTrees_cons_walk (thn (hk pins s σ H _ I h) λu s1 ⟨x,H1,I1,rx,q1⟩=>thn (hv pins s1 σ H1 _ I1 q1) λw2 s2 ⟨y,H2,I2,ry,q2⟩=>
  thn (hr pins s2 σ H2 _ I2 q2) λws s3 ⟨ps,H3,I3,rel,q3⟩=>⟨(x,y)::ps,H3,I3,.cons ⟨rx,ry⟩ rel,q3⟩)
noncomputable def K7(kvs more:List (Key×V)):List (Key×V):=more.foldl (λacc kv=>putK acc kv.1 kv.2) kvs
theorem KV.merge:∀{more:List (Key×V)} {rs:List (Key×mz)} {kvs:List (Key×V)} {vs:List (Key×mz)},KV more rs->KV kvs vs->KV (K7 kvs more) (merged vs rs):=by
 intro more rs kvs vs r
 unfold KV at r
 induction r generalizing kvs vs with
 |nil=>intro q;exact q
 | @cons p q ps qs h t ih=>
   intro r0
   have e:KV (putK kvs p.1 p.2) (stored vs q.1 q.2):=by
    have:=r0.put p.1 h.2
    rw[<-h.1];exact this
   exact ih e
theorem JV:∀(more kvs:List (Key×V)),(K7 kvs more).length<=kvs.length+more.length
 | [],kvs=>by show kvs.length<=kvs.length+0;lia
 |p::r,kvs=>by
  have h1:=JV r (putK kvs p.1 p.2)
  have h2:=IU kvs p.1 p.2
  show(K7 (putK kvs p.1 p.2) r).length<=_
  rw[oT];lia
theorem Mm{P:nq}{w:oN}:∀{kvs:List (Key×V)} {ws:List (mz×mz)},VV (kvs.map λkv=>(kV kv.1,kv.2)) ws->∃rs,Carries (B8 P w) ws rs/\KV kvs rs
 | [],_,r=>by rw[oy]at r;cases r;exact⟨[],rH,.nil⟩
 |p::kvs,_,r=>by
  rw[nR]at r
  cases r with
  | @cons a b as bs h t=>
    obtain⟨rs,c,q⟩:=Mm (P:=P) (w:=w) t
    obtain⟨b1,b2⟩:=b
    exact⟨(p.1,b2)::rs,⟨WX h.1,rfl,c⟩,.cons ⟨rfl,h.2⟩ q⟩
noncomputable def iR(trs:List (TE×TE)):TE:=λσ H Q=>∀p,H p=none->QT trs σ (upd H p (.dK [])) λps H2=>H2 p=Gc (.dK [])/\∃kvs:List (Key×V),ps=kvs.map (λkv=>(kV kv.1,kv.2))/\kvs.length<=15/\Q (.ref p) (upd H2 p (.dK (K7 [] kvs)))
theorem Zb{X:Cx}{pos:Pos}{keys:List (nB oI)}{values:List oI}{trs:List (TE×TE)}(h:PPs X pos keys values trs)(hall:keys.all (·.isSome)=true)(hl:keys.length=values.length)(h0:keys≠[])(h15:keys.length<=15):PE X (.Dict keys values pos) (iR trs):=by
 intro pins s σ H Q I q
 have hn:=I.hok.fresh (nG s.heap.objs.size)
 have I1:=I.laid (a:=s.heap.objs.size) (o:=.dK []) (h':=s.heap.push {cls:=.type "dict",data:=.dict #[]}) (t':=s.toks) (λ_ _ q=>my _ q) (nG _) (Qi s.heap I.big)
 refine wpAny_Dict_walk (knd:=B8 X.prog X.w) hall hl h0 h15 (thn (h pins _ σ _ _ I1 (q _ hn)) λws s2 ⟨ps,H2,I2,rel,e,kvs,ep,lk,q2⟩=>?_)
 subst ep
 obtain⟨rs,c,rk⟩:=Mm (P:=X.prog) (w:=X.w) rel
 obtain⟨z,hd,vs0,r0,dd⟩:=Wd I2.hok e
 cases r0
 refine⟨rs,c,dd,λh' dd' hs=>⟨.ref s.heap.objs.size,_,?_,rfl,q2⟩⟩
 have hz:(K7 [] kvs).length<=sizeLine:=by
  have h1:=JV kvs []
  rw[sN]at h1
  rw[tZ];lia
 have he:∃q,h'.get? s.heap.objs.size=Gc q:=let⟨q,_,_,hq,_⟩:=dd';⟨q,hq⟩
 exact P6 I2 (by rw[e];exact rH) hs he (VC hz hd (rk.merge .nil) dd')
structure M1(X:Cx)(o:oI)(m:Str)(apos:Pos)(e:oI)(cpos:Pos):Prop where
 base:attributeBase o m X.env (eval o X.env)=eval o X.env
 few:((backTo cpos (nv [e] X.env)).all (λx=> !x.1) && (backToKw cpos (keywordEach [] X.env)).all (λx=>x.1.isSome)
  && decide (([e]:List oI).length+([]:List vQ).length+(if([]:List vQ).isEmpty then 0 else 1)<30))=true
 line:(apos.endLine==cpos.line)=true
 trees:backTo cpos (nv [e] X.env)=[(false,eval e X.env)]
structure M2(X:Cx)(o:oI)(m:Str)(apos:Pos)(e f:oI)(cpos:Pos):Prop where
 base:attributeBase o m X.env (eval o X.env)=eval o X.env
 few:((backTo cpos (nv [e,f] X.env)).all (λx=> !x.1) && (backToKw cpos (keywordEach [] X.env)).all (λx=>x.1.isSome)
  && decide (([e,f]:List oI).length+([]:List vQ).length+(if([]:List vQ).isEmpty then 0 else 1)<30))=true
 line:(apos.endLine==cpos.line)=true
 trees:backTo cpos (nv [e,f] X.env)=[(false,eval e X.env),(false,eval f X.env)]
def IsD(H:Hp)(a:nH):Prop:=(∃kvs,Rd H a (.dK kvs))\/∃kvs,Rd H a (.dT kvs)
theorem Yc{X:Cx}{pins:List (nH×Obj)}{σ:St}{H:Hp}{s:m8}{a:nH}(I:Inv X pins σ H s)(d:IsD H a):s.TypeIs (.ref a) "dict" /\(∀b,oX a=.ref b->∃ob,s.heap.get? b=Gc ob/\ob.dict=none)/\(a==sysModules)=false:=by
 rcases d with⟨kvs,e⟩|⟨kvs,e⟩
 .obtain⟨_,hd,vs,_,dd⟩:=XF I.hok e
  refine⟨dd.typeIs,λb q=>?_,hd⟩
  cases q
  obtain⟨ob,_,_,h1,h2,_⟩:=dd
  exact⟨ob,h1,h2.2.1⟩
 .obtain⟨_,hd,xs,_,dd⟩:=ZC I.hok e
  refine⟨dd.typeIs,λb q=>?_,hd⟩
  cases q
  obtain⟨ob,_,_,h1,h2,_⟩:=dd
  exact⟨ob,h1,h2.2.1⟩
section
variable{X:Cx}{pins:List (nH×Obj)}{σ:St}{H:Hp}{s:m8}{a:nH}{y d:V}{u r:mz}{o:nB V}{A:oU}{E:mz->m8->Prop}
theorem d8{Q:mz->m8->Prop}(hu:A.units+1<cLine)(I:Inv X pins σ H s)(g:fU H a y o)(ry:RelV y u)(rd:RelV d r)(h:∀w' s',Inv X pins σ H s'->RelV (o.getD d) w'->Q w' s'):wpAny (model X.prog X.w) A (call (.builtin "dict.get") [.ref a,u,r]) Q E s:=by
 rcases g with⟨kvs,k,e,ey,l⟩|⟨kvs,k,b,e,ey,eb,l⟩
 .subst ey
  obtain⟨z,hd,vs,rel,dd⟩:=XF I.hok e
  refine call_meetsIn uR dd.typeIs wF (vn _ _ _) (meets_dict_get_default (B8 X.prog X.w) a (WX ry) hd r) ⟨_,dd.mapOf,h _ _ (I.tok _) ?_⟩
  rw[l]
  exact(rel.val k).getD rd
 .subst ey
  cases (show u=oX b from ry)
  obtain⟨z,hd,xs,rel,dd⟩:=ZC I.hok e
  refine call_meetsIn uR dd.typeIs wF (vn _ _ _) (meetsH_dict_get_default (tupleKind (B8 X.prog X.w)) a b hd r) ⟨x5 hu,k,xs,TF I.hok eb,dd,h _ _ (I.tok _) ?_⟩
  rw[l]
  exact(rel.val k).getD rd
end
noncomputable def dZ(td ty tx:TE):TE:=λσ H Q=>td σ H λx H1=>∃a,x=.ref a/\IsD H1 a/\ty σ H1 λy H2=>tx σ H2 λz H3=>∃o,fU H3 a y o/\Q (o.getD z) H3
section
variable{X:Cx}{o e f:oI}{apos cpos:Pos}{td ty tx:TE}
theorem Vq(hu:X.A.units+1<cLine)(ho:PE X o td)(he:PE X e ty)(hf:PE X f tx)(m:M2 X o "get" apos e f cpos):PE X (.Call (.Attribute o "get" apos) [e,f] [] cpos) (dZ td ty tx):=by
 intro pins s σ H Q I h
 refine yV m.base m.few m.line vo uR PySem.F.type_dict_get (thn (ho pins s σ H _ I h) λu s1 ⟨x,H1,I1,rx,a,ex,d,q1⟩=>?_)
 subst ex
 obtain rfl:u=oX a:=rx
 obtain⟨t1,t2,_⟩:=Yc I1 d
 refine⟨t1,t2,?_⟩
 rw[m.trees]
 refine uA rfl (wy (qy (thn (he pins s1 σ H1 _ I1 q1) λiv s2 ⟨y,H2,I2,ry,q2⟩=>
  qy (thn (hf pins s2 σ H2 _ I2 q2) λfv s3 ⟨z,H3,I3,rz,ov,g,q3⟩=>sY ?_))))
 exact d8 hu I3 g ry rz λw' s4 I4 rw'=>⟨_,H3,I4,rw',q3⟩
end
section
variable{X:Cx}{pins:List (nH×Obj)}{σ:St}{H:Hp}{s:m8}{a:nH}{kvs:List (Key×V)}{A:oU}{E:mz->m8->Prop}
theorem Wc{Q:mz->m8->Prop}(I:Inv X pins σ H s)(e:Rd H a (.dK kvs))(h:∀p s',H p=none->Inv X pins σ (upd H p (.dK kvs)) s'->Q (.ref p) s'):wpAny (model X.prog X.w) A (call (.type "dict") [.ref a]) Q E s:=by
 obtain⟨z,hd,vs,rel,dd⟩:=XF I.hok e
 refine kt_call_dict hd dd (by rw[<-rel.length];exact z) λh' dd' hs=>?_
 refine h _ _ (I.hok.fresh (nG _)) (I.laid (a:=s.heap.objs.size) (o:=.dK kvs) (t':=s.toks) (λb q hq=>?_) (nG _) (VC z (tJ.mpr (pV (nV I.big))) rel dd'))
 exact(hs.2 b (nV (nS hq))).trans (my _ hq)
end
section
variable{X:Cx}{pins:List (nH×Obj)}{σ:St}{H:Hp}{s:m8}{a:nH}{y:V}{u:mz}{A:oU}{E:mz->m8->Prop}
end
end L2
end
noncomputable section
namespace L2
open PySem PySem.Spec PyProof.Rows
section
variable{prog:nq}{w:oN}{A:oU}{E:mz->m8->Prop}{s:m8}
theorem Rv{h:oQ}{it t:nH}{i:Nat}{o:Obj}(ho:h.get? it=Gc o)(hc:o.cls=.type "tuple_iterator")(hd:o.data=.fields #[.ref t,.int i 0]){h':oQ}(e:h'=h.update it (λo=>o.mapFields λa=>a.setIfInBounds 1 (rawInt ((i:Int)+1)))):h'.IsTupleIter it t (i+1):=by
 subst e
 have d:=p9 hd λa=>a.setIfInBounds 1 (rawInt ((i:Int)+1))
 refine⟨_,og _ ho (qu d),?_,?_⟩
 .rw[uB];exact hc
 .rw[d];simp[rawInt]
theorem V6{it t:nH}{i:Nat}{items:oH mz}{x:mz}{Q:mz->m8->Prop}(hit:s.heap.IsTupleIter it t i)(ht:s.heap.IsTuple t items)(hx:items[i]?=Gc x)(hQ:∀h',h'.IsTupleIter it t (i+1)->qf it s.heap h'->Q x {s with heap:=h'}):wpAny (model prog w) A (oY (.ref it)) Q E s:=by
 obtain⟨⟨c,dd,dt,sl⟩,ho,hc,hd⟩:=id hit
 obtain⟨⟨c2,dd2,dt2,sl2⟩,ho2,hc2,n2,hd2⟩:=id ht
 simp only at hc hd hc2 hd2
 subst hc hd hc2 hd2
 unfold oY
 refine Wp (oo (name:=pR "__next__") hit.typeIs qo (oW qo hit.typeIs uq ?_ (uj _)))
 unfold qK.«tuple_iterator.__next__»
 wp_walk using oA ho,oA ho2
 have e:items[(i:Int).toNat]?=Gc x:=by rw[sS];exact hx
 rw[e]
 refine Wp (qp ho rfl (by simp) ?_)
 exact m9 ⟨x,rfl,m9 (hQ _ (Rv ho rfl rfl rfl) (pT ..))⟩
theorem Xt{it t:nH}{i:Nat}{items:oH mz}{Q:mz->m8->Prop}(hh:A.handled=none)(hit:s.heap.IsTupleIter it t i)(ht:s.heap.IsTuple t items)(hx:items[i]?=none)(hE:∀h' e,tq it s.heap h'->(∃o,h'.get? e=Gc o/\o.cls=.type "StopIteration")->E (.ref e) {s with heap:=h'}):wpAny (model prog w) A (oY (.ref it)) Q E s:=by
 obtain⟨⟨c,dd,dt,sl⟩,ho,hc,hd⟩:=id hit
 obtain⟨⟨c2,dd2,dt2,sl2⟩,ho2,hc2,n2,hd2⟩:=id ht
 simp only at hc hd hc2 hd2
 subst hc hd hc2 hd2
 unfold oY
 refine Wp (oo (name:=pR "__next__") hit.typeIs qo (oW qo hit.typeIs uq ?_ (uj _)))
 unfold qK.«tuple_iterator.__next__»
 wp_walk using oA ho,oA ho2
 have e:items[(i:Int).toNat]?=none:=by rw[sS];exact hx
 rw[e]
 refine Wp (rG (Wp (qp ho rfl (by simp) ?_)))
 have hh1:A.in1.handled=none:=hh
 unfold yW
 simp only[newExc,newTuple,raiseNew]
 wp_walk
 refine hE _ _ ?_ ⟨_,nM _ rfl,rfl⟩
 have a:=(pT (a:=it) (h:=s.heap) (f:=xl λx=>x.setIfInBounds 0 pz)).extBut
 exact(a.push _).push _
theorem Tn(l:nH)(items:oH mz)(n:Nat)(dct:nB nH)(sl:oH (nB mz)):Meets (qK.«enumerate.__new__» ⟨[.type "enumerate",.ref l],[]⟩) (λ_ R s=>s.heap.get? l=Gc {cls:=.type "tuple",dict:=dct,data:=.seq items n,slots:=sl}/\R (.ok (.ret (.ref (s.heap.objs.size+1)))) {s with heap:=(s.heap.push {cls:=.type "tuple_iterator",data:=.fields #[.ref l,.int 0 0]}).push {cls:=.type "enumerate",data:=.fields #[.none,.bool false,.ref s.heap.objs.size,rawInt 0,.none,.none]}}):=
 .of_wp λprog w A R s h=>by
  obtain⟨hp,g,d,tk,os⟩:=s
  obtain⟨hl,h⟩:=h
  have hsub:=sub_enumerate
  have hT:ur (rB ⟨hp,g,d,tk,os⟩) l items:=⟨_,hl,rfl,n,rfl⟩
  wp_walk using oA hl
  refine wpAny_stack_any λst=>m9 ?_
  split
  .rename_i c _ _ _ _ _
   cases (c==rZ "enumerate")<;>(wp_walk using oA hl,qQ hT)<;>(refine⟨_,rfl,?_⟩;rw[oJ];exact h)
  .wp_walk using oA hl,qQ hT
   refine⟨_,rfl,?_⟩
   rw[oJ]
   exact h
theorem Rc{l:nH}{items:oH mz}{Q:mz->m8->Prop}(hT:s.heap.IsTuple l items)(h:∀h',IsEnum h' (s.heap.objs.size+1) s.heap.objs.size 0 .none->h'.IsTupleIter s.heap.objs.size l 0->(∀b o,s.heap.get? b=Gc o->h'.get? b=Gc o)->Q (.ref (s.heap.objs.size+1)) {s with heap:=h'}):wpAny (model prog w) A (call (.type "enumerate") [.ref l]) Q E s:=by
 obtain⟨⟨c,dct,dt,sl⟩,hl,hc,n,hd⟩:=hT
 simp only at hc hd
 subst hc hd
 refine callType_new F.called_enumerate (by decide) (F.typeCall_enumerate_1 _) (F.newCall_enumerate_1 _) (λobj=>F.args_object_init_2 obj _) F.entry_enumerate_new (Tn l items n dct sl) ⟨hl,?_⟩
 have z:=nM (s.heap.push {cls:=.type "tuple_iterator",data:=.fields #[.ref l,.int 0 0]}) (o:={cls:=.type "enumerate",data:=.fields #[.none,.bool false,.ref s.heap.objs.size,rawInt 0,.none,.none]}) rfl
 rw[oJ]at z
 exact⟨⟨_,z,rfl⟩,h _ z ⟨_,my _ (nM _ rfl),rfl,rfl⟩ λb o x=>my _ (my _ x)⟩
end
section
variable{X:Cx}
end
end L2
end
noncomputable section
namespace L2
open PySem PySem.Spec PyProof.Rows
structure TopD(K:mx)(w:oN)(a:nH)(kvs:List (Str×V)):Prop where
 ex:∃(es:oH DictEntry) (n:Nat),K.lookup a=Gc ⟨.type "dict",none,.dict es n, #[]⟩/\PySem.W.KeysLit w.params es.toList/\(a==sysModules)=false/\∀x,Vb (kvs.lookup x) (findBy xg es x)
section
variable{X:Cx}
end
end L2
end
noncomputable section
namespace L2
open PySem PySem.Spec PyProof.Rows
def SIt(h:oQ)(j l:nH)(i:Nat)(its:oH mz):Prop:=(h.IsListIter j l i/\h.IsList l its)\/(h.IsTupleIter j l i/\h.IsTuple l its)
section
variable{prog:nq}{w:oN}{A:oU}{E:mz->m8->Prop}{s:m8}{h h':oQ}{j l:nH}{i:Nat}{its:oH mz}
theorem SIt.at(q:SIt h j l i its)(k1:∀o,h.get? j=Gc o->h'.get? j=Gc o)(k2:∀o,h.get? l=Gc o->h'.get? l=Gc o):SIt h' j l i its:=by
 rcases q with⟨a,b⟩|⟨a,b⟩
 .exact .inl ⟨a.at k1,b.at k2⟩
 .exact .inr ⟨a.at k1,let⟨o,e,r⟩:=b;⟨o,k2 o e,r⟩⟩
theorem SIt.but{c:nH}(q:SIt h j l i its)(sb:tq c h h')(n1:j≠c)(n2:l≠c):SIt h' j l i its:=q.at (λo e=>sb _ o n1 e) λo e=>sb _ o n2 e
theorem SIt.live(q:SIt h j l i its):∃o,h.get? j=Gc o/\∀v,o.data≠.cell v:=by
 rcases q with⟨⟨o,a,b,c⟩,_⟩|⟨⟨o,a,b,c⟩,_⟩
 .exact⟨o,a,λv z=>by rw[c]at z;cases z⟩
 .exact⟨o,a,λv z=>by rw[c]at z;cases z⟩
theorem SIt.ne(q:SIt h j l i its):l≠j:=by
 rcases q with⟨⟨o,a,b,_⟩,⟨o2,a2,b2,_⟩⟩|⟨⟨o,a,b,_⟩,⟨o2,a2,b2,_⟩⟩
 .intro z;subst z;rw[a]at a2;cases a2;rw[b]at b2;injection b2 with q;exact absurd q (by decide)
 .intro z;subst z;rw[a]at a2;cases a2;rw[b]at b2;injection b2 with q;exact absurd q (by decide)
theorem Ke{x:mz}{Q:mz->m8->Prop}(q:SIt s.heap j l i its)(hx:its[i]?=Gc x)(k:∀h',SIt h' j l (i+1) its->qf j s.heap h'->Q x {s with heap:=h'}):wpAny (model prog w) A (oY (.ref j)) Q E s:=by
 have n:=q.ne
 rcases q with⟨a,b⟩|⟨a,b⟩
 .exact wpAny_nextOf_list_item a b hx λh' a' sb=>k h' (.inl ⟨a',b.extBut sb.extBut n⟩) sb
 .exact V6 a b hx λh' a' sb=>k h' (.inr ⟨a',let⟨o,e,r⟩:=b;⟨o,sb.extBut _ o n e,r⟩⟩) sb
theorem Kg{Q:mz->m8->Prop}(hh:A.handled=none)(q:SIt s.heap j l i its)(hx:its[i]?=none)(k:∀h' e,tq j s.heap h'->(∃o,h'.get? e=Gc o/\o.cls=.type "StopIteration")->E (.ref e) {s with heap:=h'}):wpAny (model prog w) A (oY (.ref j)) Q E s:=by
 rcases q with⟨a,b⟩|⟨a,b⟩
 .exact wpAny_nextOf_list_end hh a b hx k
 .exact Xt hh a b hx k
theorem Tg{z ti tt j1 j2 l1 l2:nH}{m:Nat}{xs ys:oH mz}{x y u1 u2:mz}{Q:mz->m8->Prop}(D:yX z ti tt j1 j2 l1 l2)(oz:vC s.heap z ti tt .none)(oi:rK s.heap ti (.ref j1) (.ref j2))(ot:rK s.heap tt u1 u2)(q1:SIt s.heap j1 l1 m xs)(q2:SIt s.heap j2 l2 m ys)(ex:xs[m]?=Gc x)(ey:ys[m]?=Gc y)(k:∀h',vC h' z ti tt (rawInt s.heap.objs.size)->rK h' tt x y->SIt h' j1 l1 (m+1) xs->SIt h' j2 l2 (m+1) ys->rK h' s.heap.objs.size x y->(∀c o,c≠z->c≠tt->c≠j1->c≠j2->s.heap.get? c=Gc o->h'.get? c=Gc o)->Q (.ref s.heap.objs.size) {s with heap:=h'}):wpAny (model prog w) A (qK.«zip.__next__» ⟨[.ref z],[]⟩) (λfin s'=>∃v,fin=.done (.ret v)/\Q v s') E s:=by
 show wpAny _ _ (field (.ref z) 2 >>= _) _ _ _
 refine Wp (qh oz rfl (x:=.bool false) rfl ?_)
 show wpAny _ _ (field (.ref z) 3 >>= _) _ _ _
 refine Wp (qh oz rfl (x:=.ref ti) rfl (Wp (qW oi rfl ?_)))
 show wpAny _ _ (qD (.ref z) >>= _) _ _ _
 refine Wp ?_
 unfold qD
 refine Wp (qh oz rfl (x:=.none) rfl (m9 ?_))
 simp only[uW]
 refine Wp (rG (Wp (qh oz rfl (x:=.ref tt) rfl (Wp (qq oz (by simp) λg1 oz1 b1=>?_)))))
 have oz1:vC g1 z ti tt .ellipsis:=oz1
 refine Wp ?_
 simp only[zG,zf,wV,xA]
 refine Wp (Wp (vZ ?_))
 show wpAny _ _ (oY (.ref j1) >>= _) _ _ _
 refine Wp (Ke (q1.but b1.extBut D.i1z D.l1z) ex λg2 q12 b2=>m9 ?_)
 have ot2:rK g2 tt u1 u2:=b2.extBut _ _ D.TOi1 (b1.extBut _ _ D.TOz ot)
 refine Wp (qW ot2 rfl (Wp (ub ot2 λg3 ot3 b3=>?_)))
 have ot3:rK g3 tt x u2:=ot3
 refine Wp (xB (m9 (Wp (Wp (vZ ?_)))))
 show wpAny _ _ (oY (.ref j2) >>= _) _ _ _
 refine Wp (Ke (((q2.but b1.extBut D.i2z D.l2z).but b2.extBut D.i12.symm D.l2i1).but b3.extBut D.TOi2.symm D.l2TO) ey λg4 q24 b4=>m9 ?_)
 have ot4:rK g4 tt x u2:=b4.extBut _ _ D.TOi2 ot3
 refine Wp (qW ot4 rfl (Wp (ub ot4 λg5 ot5 b5=>?_)))
 have ot5:rK g5 tt x y:=ot5
 refine Wp (xB (m9 (m9 (Wp (qW ot5 rfl (Wp (xC ?_)))))))
 have sz:g5.objs.size=s.heap.objs.size:=by rw[b5.1,b4.1,b3.1,b2.1,b1.1]
 have oz5:vC g5 z ti tt .ellipsis:=b5.extBut _ _ D.TOz.symm (b4.extBut _ _ D.i2z.symm (b3.extBut _ _ D.TOz.symm (b2.extBut _ _ D.i1z.symm oz1)))
 have k5:∀c o,c≠z->c≠tt->c≠j1->c≠j2->s.heap.get? c=Gc o->g5.get? c=Gc o:=λc o c1 c2 c3 c4 e=>b5.extBut _ _ c2 (b4.extBut _ _ c4 (b3.extBut _ _ c2 (b2.extBut _ _ c3 (b1.extBut _ _ c1 e))))
 have q15:SIt g5 j1 l1 (m+1) xs:=((q12.but b3.extBut D.TOi1.symm D.l1TO).but b4.extBut D.i12 D.l1i2).but b5.extBut D.TOi1.symm D.l1TO
 have q25:SIt g5 j2 l2 (m+1) ys:=q24.but b5.extBut D.TOi2.symm D.l2TO
 have zlt:z<g5.objs.size:=nS oz5
 show wpAny _ _ (tL (.ref z) (.ref g5.objs.size) >>= _) _ _ _
 refine Wp ?_
 unfold tL
 have oz6:vC (g5.push {cls:=.type "tuple",data:=.seq #[x,y]}) z ti tt .ellipsis:=my _ oz5
 refine Wp (qq oz6 (by simp) λg7 oz7 b7=>?_)
 have oz7:vC g7 z ti tt (rawInt g5.objs.size):=oz7
 refine qq oz7 (by simp) λg8 oz8 b8=>?_
 have oz8:vC g8 z ti tt (rawInt g5.objs.size):=oz8
 have up:∀c o,c≠z->g5.get? c=Gc o->g8.get? c=Gc o:=λc o c1 e=>b8.extBut _ _ c1 (b7.extBut _ _ c1 (my _ e))
 have op8:rK g8 g5.objs.size x y:=b8.extBut _ _ (sg zlt) (b7.extBut _ _ (sg zlt) (nM _ rfl))
 rw[sz]at oz8 op8
 refine m9 ⟨_,rfl,?_⟩
 show Q (.ref g5.objs.size) _
 rw[sz]
 exact k g8 oz8 (up _ _ D.TOz ot5) (q15.at (λo e=>up _ o D.i1z e) λo e=>up _ o D.l1z e) (q25.at (λo e=>up _ o D.i2z e) λo e=>up _ o D.l2z e) op8 λc o c1 c2 c3 c4 e=>up c o c1 (k5 c o c1 c2 c3 c4 e)
theorem WC{z ti tt j1 j2 l1 l2:nH}{m:Nat}{xs ys:oH mz}{u1 u2:mz}{Q:Fin->m8->Prop}(hh:A.handled=none)(D:yX z ti tt j1 j2 l1 l2)(oz:vC s.heap z ti tt .none)(oi:rK s.heap ti (.ref j1) (.ref j2))(ot:rK s.heap tt u1 u2)(q1:SIt s.heap j1 l1 m xs)(q2:SIt s.heap j2 l2 m ys)(en:xs[m]?=none\/ys[m]?=none)(k:∀h' e,(∀c o,c≠z->c≠tt->c≠j1->c≠j2->s.heap.get? c=Gc o->h'.get? c=Gc o)->(∃o,h'.get? e=Gc o/\o.cls=.type "StopIteration")->E (.ref e) {s with heap:=h'}):wpAny (model prog w) A (qK.«zip.__next__» ⟨[.ref z],[]⟩) Q E s:=by
 show wpAny _ _ (field (.ref z) 2 >>= _) _ _ _
 refine Wp (qh oz rfl (x:=.bool false) rfl ?_)
 show wpAny _ _ (field (.ref z) 3 >>= _) _ _ _
 refine Wp (qh oz rfl (x:=.ref ti) rfl (Wp (qW oi rfl ?_)))
 show wpAny _ _ (qD (.ref z) >>= _) _ _ _
 refine Wp ?_
 unfold qD
 refine Wp (qh oz rfl (x:=.none) rfl (m9 ?_))
 simp only[uW]
 refine Wp (rG (Wp (qh oz rfl (x:=.ref tt) rfl (Wp (qq oz (by simp) λg1 oz1 b1=>?_)))))
 have oz1:vC g1 z ti tt .ellipsis:=oz1
 refine Wp ?_
 simp only[zG,zf,wV,xA]
 refine Wp (Wp (vZ ?_))
 show wpAny _ _ (oY (.ref j1) >>= _) _ _ _
 cases ex:xs[m]? with
 |none=>
  refine Wp (Kg hh (q1.but b1.extBut D.i1z D.l1z) ex λg2 e b2 he=>?_)
  obtain⟨oe,e1,e2⟩:=he
  have oz2:vC g2 z ti tt .ellipsis:=b2 _ _ D.i1z.symm oz1
  have nez:e≠z:=λx=>by subst x;rw[oz2]at e1;cases e1;simp at e2
  exact qq oz2 (by simp) λg3 _ b3=>k g3 e (λc o c1 _ c3 _ x=>b3.extBut _ _ c1 (b2 _ _ c3 (b1.extBut _ _ c1 x))) ⟨oe,b3.extBut _ _ nez e1,e2⟩
 |some x=>
  have ey:ys[m]?=none:=by
   rcases en with z|z
   .rw[ex]at z;cases z
   .exact z
  refine Wp (Ke (q1.but b1.extBut D.i1z D.l1z) ex λg2 q12 b2=>m9 ?_)
  have ot2:rK g2 tt u1 u2:=b2.extBut _ _ D.TOi1 (b1.extBut _ _ D.TOz ot)
  refine Wp (qW ot2 rfl (Wp (ub ot2 λg3 ot3 b3=>?_)))
  refine Wp (xB (m9 (Wp (Wp (vZ ?_)))))
  show wpAny _ _ (oY (.ref j2) >>= _) _ _ _
  refine Wp (Kg hh (((q2.but b1.extBut D.i2z D.l2z).but b2.extBut D.i12.symm D.l2i1).but b3.extBut D.TOi2.symm D.l2TO) ey λg4 e b4 he=>?_)
  obtain⟨oe,e1,e2⟩:=he
  have oz4:vC g4 z ti tt .ellipsis:=b4 _ _ D.i2z.symm (b3.extBut _ _ D.TOz.symm (b2.extBut _ _ D.i1z.symm oz1))
  have nez:e≠z:=λx=>by subst x;rw[oz4]at e1;cases e1;simp at e2
  exact qq oz4 (by simp) λg5 _ b5=>k g5 e (λc o c1 c2 c3 c4 x=>b5.extBut _ _ c1 (b4 _ _ c4 (b3.extBut _ _ c2 (b2.extBut _ _ c3 (b1.extBut _ _ c1 x))))) ⟨oe,b5.extBut _ _ nez e1,e2⟩
theorem RJ{z ti tt j1 j2 l1 l2:nH}{m:Nat}{xs ys:oH mz}{x y u1 u2:mz}{Q:nB mz->m8->Prop}(D:yX z ti tt j1 j2 l1 l2)(oz:vC s.heap z ti tt .none)(oi:rK s.heap ti (.ref j1) (.ref j2))(ot:rK s.heap tt u1 u2)(q1:SIt s.heap j1 l1 m xs)(q2:SIt s.heap j2 l2 m ys)(ex:xs[m]?=Gc x)(ey:ys[m]?=Gc y)(k:∀h',vC h' z ti tt (rawInt s.heap.objs.size)->rK h' tt x y->SIt h' j1 l1 (m+1) xs->SIt h' j2 l2 (m+1) ys->rK h' s.heap.objs.size x y->(∀c o,c≠z->c≠tt->c≠j1->c≠j2->s.heap.get? c=Gc o->h'.get? c=Gc o)->Q (Gc (.ref s.heap.objs.size)) {s with heap:=h'}):wpAny (model prog w) A (pyNext (.ref z)) Q E s:=by
 have ht:s.TypeIs (.ref z) "zip":=⟨_,oz,rfl⟩
 unfold pyNext
 exact Wp (tQ (oo (name:=pR "__next__") ht uk (oW uk ht zH
  (Tg D oz oi ot q1 q2 ex ey λh' a1 a2 a3 a4 a5 a6=>m9 (k h' a1 a2 a3 a4 a5 a6)) (yY _))))
theorem UC{z ti tt j1 j2 l1 l2:nH}{m:Nat}{xs ys:oH mz}{u1 u2:mz}{Q:nB mz->m8->Prop}(hh:A.handled=none)(D:yX z ti tt j1 j2 l1 l2)(oz:vC s.heap z ti tt .none)(oi:rK s.heap ti (.ref j1) (.ref j2))(ot:rK s.heap tt u1 u2)(q1:SIt s.heap j1 l1 m xs)(q2:SIt s.heap j2 l2 m ys)(en:xs[m]?=none\/ys[m]?=none)(k:∀h',(∀c o,c≠z->c≠tt->c≠j1->c≠j2->s.heap.get? c=Gc o->h'.get? c=Gc o)->Q none {s with heap:=h'}):wpAny (model prog w) A (pyNext (.ref z)) Q E s:=by
 have ht:s.TypeIs (.ref z) "zip":=⟨_,oz,rfl⟩
 unfold pyNext
 refine Wp (tQ (oo (name:=pR "__next__") ht uk (oW uk ht zH
  (WC hh D oz oi ot q1 q2 en λh' e kp he=>?_) (yY _))))
 obtain⟨o,e1,e2⟩:=he
 exact Wp (sv (T:="StopIteration") (b:=true) ⟨o,e1,e2⟩ xD (m9 (k _ kp)))
end
end L2
end
noncomputable section
namespace L2
open PySem PySem.Spec PyProof.Rows
def L4(h:oQ)(b:oO)(l:nH)(its:oH mz):Prop:=match b with|true=>h.IsTuple l its|false=>h.IsList l its
noncomputable def bz:oO->qj|true=>"tuple_iterator" |false=>"list_iterator"
noncomputable def zh1(h:oQ)(b:oO)(l:nH):oQ:=h.push {cls:=.type (bz b),data:=.fields #[.ref l,.int 0 0]}
noncomputable def zh2(h:oQ)(b c:oO)(l m:nH):oQ:=zh1 (zh1 h b l) c m
noncomputable def zh3(h:oQ)(b c:oO)(l m:nH):oQ:=(zh2 h b c l m).push {cls:=.type "tuple",data:=.seq #[.ref h.objs.size,.ref (zh1 h b l).objs.size]}
noncomputable def zh4(h:oQ)(b c:oO)(l m:nH):oQ:=(zh3 h b c l m).push {cls:=.type "tuple",data:=.seq #[.none,.none]}
noncomputable def zh5(h:oQ)(b c:oO)(l m:nH):oQ:=(zh4 h b c l m).push {cls:=.type "zip",data:=.fields #[.none,.bool false,.bool false,.ref (zh2 h b c l m).objs.size,.ref (zh3 h b c l m).objs.size]}
theorem L4.push{h:oQ}{b:oO}{l:nH}{its:oH mz}(q:L4 h b l its)(o:Obj):L4 (h.push o) b l its:=by
 cases b
 .exact Heap.IsList.push q _
 .obtain⟨u,e,r⟩:=(show h.IsTuple l its from q)
  exact⟨u,my _ e,r⟩
theorem WQ(b c:oO)(l m:nH)(xs ys:oH mz):Meets (qK.«zip.__new__» ⟨[.type "zip",.ref l,.ref m],[]⟩) (λ_ R s=>L4 s.heap b l xs/\L4 s.heap c m ys/\R (.ok (.ret (.ref (zh4 s.heap b c l m).objs.size))) {s with heap:=zh5 s.heap b c l m}):=
 .of_wp λprog w A R s hyp=>by
  obtain⟨hp,gs,dr,tk,os⟩:=s
  obtain⟨i1,i2,hyp⟩:=hyp
  have hsub:=sub_zip
  have i3:L4 (rB ⟨zh1 hp b l,gs,dr,tk,os⟩) c m ys:=L4.push i2 _
  cases b<;>cases c
  .have a1:xE (rB ⟨hp,gs,dr,tk,os⟩) l xs:=i1
   have a2:xE (rB ⟨hp.push {cls:=.type "list_iterator",data:=.fields #[.ref l,.int 0 0]},gs,dr,tk,os⟩) m ys:=i3
   wp_walk using qL a1,qL a2
   exact⟨_,rfl,hyp⟩
  .have a1:xE (rB ⟨hp,gs,dr,tk,os⟩) l xs:=i1
   have a2:ur (rB ⟨hp.push {cls:=.type "list_iterator",data:=.fields #[.ref l,.int 0 0]},gs,dr,tk,os⟩) m ys:=i3
   wp_walk using qL a1,qQ a2
   exact⟨_,rfl,hyp⟩
  .have a1:ur (rB ⟨hp,gs,dr,tk,os⟩) l xs:=i1
   have a2:xE (rB ⟨hp.push {cls:=.type "tuple_iterator",data:=.fields #[.ref l,.int 0 0]},gs,dr,tk,os⟩) m ys:=i3
   wp_walk using qQ a1,qL a2
   exact⟨_,rfl,hyp⟩
  .have a1:ur (rB ⟨hp,gs,dr,tk,os⟩) l xs:=i1
   have a2:ur (rB ⟨hp.push {cls:=.type "tuple_iterator",data:=.fields #[.ref l,.int 0 0]},gs,dr,tk,os⟩) m ys:=i3
   wp_walk using qQ a1,qQ a2
   exact⟨_,rfl,hyp⟩
section
variable{prog:nq}{w:oN}{A:oU}{E:mz->m8->Prop}{s:m8}
theorem X9{h h':oQ}{b:oO}{l j:nH}{its:oH mz}(q:L4 h b l its)(k:∀c o,h.get? c=Gc o->h'.get? c=Gc o)(e:h'.get? j=Gc {cls:=.type (bz b),data:=.fields #[.ref l,.int 0 0]}):SIt h' j l 0 its:=by
 cases b
 .exact .inl ⟨⟨_,e,rfl,rfl⟩,(show h.IsList l its from q).at λo z=>k _ o z⟩
 .exact .inr ⟨⟨_,e,rfl,rfl⟩,let⟨o,z,r⟩:=(show h.IsTuple l its from q);⟨o,k _ o z,r⟩⟩
theorem U6{b c:oO}{l m:nH}{xs ys:oH mz}{Q:mz->m8->Prop}(i1:L4 s.heap b l xs)(i2:L4 s.heap c m ys)(k:∀h',vC h' (s.heap.objs.size+4) (s.heap.objs.size+2) (s.heap.objs.size+3) .none->rK h' (s.heap.objs.size+2) (.ref s.heap.objs.size) (.ref (s.heap.objs.size+1))->rK h' (s.heap.objs.size+3) .none .none->SIt h' s.heap.objs.size l 0 xs->SIt h' (s.heap.objs.size+1) m 0 ys->(∀c o,s.heap.get? c=Gc o->h'.get? c=Gc o)->Q (.ref (s.heap.objs.size+4)) {s with heap:=h'}):wpAny (model prog w) A (call (.type "zip") [.ref l,.ref m]) Q E s:=by
 refine callType_new F.called_zip (by decide) (F.typeCall_zip_2 _ _) (F.newCall_zip_2 _ _) (λobj=>F.args_object_init_3 obj _ _) F.entry_zip_new (WQ b c l m xs ys) ⟨i1,i2,?_⟩
 have z1:(zh1 s.heap b l).objs.size=s.heap.objs.size+1:=oJ ..
 have z2:(zh2 s.heap b c l m).objs.size=s.heap.objs.size+2:=by unfold zh2 zh1;rw[oJ];exact congrArg (· +1) z1
 have z3:(zh3 s.heap b c l m).objs.size=s.heap.objs.size+3:=by unfold zh3;rw[oJ,z2]
 have z4:(zh4 s.heap b c l m).objs.size=s.heap.objs.size+4:=by unfold zh4;rw[oJ,z3]
 have kp:∀d o,s.heap.get? d=Gc o->(zh5 s.heap b c l m).get? d=Gc o:=λd o e=>by
  unfold zh5 zh4 zh3 zh2 zh1
  exact my _ (my _ (my _ (my _ (my _ e))))
 have g5:(zh5 s.heap b c l m).get? (zh4 s.heap b c l m).objs.size=Gc _:=nM _ rfl
 have g4:(zh5 s.heap b c l m).get? (zh3 s.heap b c l m).objs.size=Gc _:=my _ (nM _ rfl)
 have g3:(zh5 s.heap b c l m).get? (zh2 s.heap b c l m).objs.size=Gc _:=my _ (my _ (nM _ rfl))
 have g2:(zh5 s.heap b c l m).get? (zh1 s.heap b l).objs.size=Gc _:=my _ (my _ (my _ (nM _ rfl)))
 have g1:(zh5 s.heap b c l m).get? s.heap.objs.size=Gc _:=my _ (my _ (my _ (my _ (nM _ rfl))))
 show _/\_
 rw[z2,z3,z4]at g5
 rw[z1,z2]at g3
 rw[z3]at g4
 rw[z1]at g2
 rw[z4]
 exact⟨⟨_,g5,rfl⟩,k _ g5 g3 g4 (X9 i1 kp g1) (X9 i2 kp g2) kp⟩
end
end L2
end
noncomputable section
namespace L2
open PySem PySem.Spec PyProof.Rows
def SqB(K:mx)(H:Hp)(k:oO)(a:nH)(xs:List V):Prop:=match k with|true=>SqT K H a xs|false=>SqL K H a xs
def JIt(h:oQ)(k:oO)(j l:nH)(i:Nat):Prop:=match k with|true=>h.IsTupleIter j l i|false=>h.IsListIter j l i
theorem JIt.at{h h':oQ}{k:oO}{j l:nH}{i:Nat}(q:JIt h k j l i)(e:∀o,h.get? j=Gc o->h'.get? j=Gc o):JIt h' k j l i:=by
 cases k
 .exact Heap.IsListIter.at q e
 .exact Heap.IsTupleIter.at q e
theorem JIt.sit{h:oQ}{k:oO}{j l:nH}{i:Nat}{its:oH mz}(q:JIt h k j l i)(p:L4 h k l its):SIt h j l i its:=by
 cases k
 .exact .inl ⟨q,p⟩
 .exact .inr ⟨q,p⟩
theorem SIt.jit{h:oQ}{k:oO}{j l:nH}{i:Nat}{its:oH mz}(q:SIt h j l i its)(p:L4 h k l its):JIt h k j l i:=by
 rcases q with⟨q,r⟩|⟨q,r⟩
 .cases k
  .exact q
  .obtain⟨o,e,c,_⟩:=r;obtain⟨o',e',c',_⟩:=(show h.IsTuple l its from p)
   rw[e]at e';cases e';rw[c]at c';injection c' with z;exact absurd z (by decide)
 .cases k
  .obtain⟨o,e,c,_⟩:=r;obtain⟨o',e',c',_⟩:=(show h.IsList l its from p)
   rw[e]at e';cases e';rw[c]at c';injection c' with z;exact absurd z (by decide)
  .exact q
theorem Inv.sqB{X:Cx}{pins:List (nH×Obj)}{σ:St}{H:Hp}{s:m8}{k:oO}{a:nH}{xs:List V}(I:Inv X pins σ H s)(h:SqB X.K H k a xs):∃its:List mz,Vals xs its/\L4 s.heap k a its.toArray:=by
 cases k
 .obtain⟨its,h1,⟨o,n,q1,q2,_,q3⟩,h3⟩:=I.list h
  exact⟨its,h1,o,q1,q2,n,q3⟩
 .obtain⟨its,h1,h2,h3⟩:=I.tuple h
  exact⟨its,h1,h2⟩
theorem Inv.Pq{X:Cx}{pins:List (nH×Obj)}{σ:St}{H:Hp}{s:m8}{k:oO}{a:nH}{xs ys:List V}(I:Inv X pins σ H s)(h:SqB X.K H k a xs)(g:SqB X.K H k a ys):xs=ys:=by
 cases k
 .exact I.Qz h g
 .exact I.OF h g
noncomputable def Itz(K:mx)(k:oO)(a:nH)(m:oO)(b:nH):It:=
 ⟨λi H=>∃(xs ys:List V) (x y:V),SqB K H k a xs/\SqB K H m b ys/\xs[i]?=Gc x/\ys[i]?=Gc y,
  λi H v H'=>∃(p:nH) (x y:V),H p=none/\v=.ref p/\(∀xs,SqB K H k a xs->xs[i]?=Gc x)/\(∀ys,SqB K H m b ys->ys[i]?=Gc y)/\H'=upd H p (.tup [x,y]),
  λi H=>∃(xs ys:List V),SqB K H k a xs/\SqB K H m b ys/\(xs.length<=i\/ys.length<=i)⟩
structure ZSt(h:oQ)(z ti tt j1 j2:nH)(k:oO)(a:nH)(m:oO)(b:nH)(i:Nat):Prop where
 oz:vC h z ti tt .none
 oi:rK h ti (.ref j1) (.ref j2)
 ot:∃u v,rK h tt u v
 q1:JIt h k j1 a i
 q2:JIt h m j2 b i
structure ZNe(z ti tt j1 j2:nH):Prop where
 n1:ti≠z
 n2:tt≠z
 n3:j1≠z
 n4:j2≠z
 n5:ti≠tt
 n6:ti≠j1
 n7:ti≠j2
 n8:tt≠j1
 n9:tt≠j2
 n10:j1≠j2
theorem ZNe.apart{z ti tt j1 j2 a b:nH}(N:ZNe z ti tt j1 j2)(ha:a∉ [z,tt,j1,j2])(hb:b∉ [z,tt,j1,j2]):yX z ti tt j1 j2 a b:=by
 simp only[nK,oD,qA,wG]at ha hb
 exact⟨N.n1,N.n2,N.n3,N.n4,N.n5,N.n6,N.n7,N.n8,N.n9,N.n10,ha.1,ha.2.1,ha.2.2.1,ha.2.2.2,hb.1,hb.2.1,hb.2.2.1,hb.2.2.2⟩
theorem BV{X:Cx}{pins:List (nH×Obj)}{σ:St}{H:Hp}{s:m8}{k:oO}{a c:nH}{xs:List V}(I:Inv X pins σ H s)(q:SqB X.K H k a xs)(f:QQ X pins H c):a≠c:=by
 intro e
 subst e
 have rd:∀o,Rd H a o->sH:=λo r=>by
  rcases r with r|⟨_,r⟩<;>(rw[f.1]at r;cases r)
 have kk:∀o,X.K.lookup a=Gc o->sH:=λo hk=>by
  have b:=I.ok.mod.kin a o hk
  rcases f.2.2.2.1 with z|z
  .exact I.ok.ZY a o b z
  .exact absurd (nE (nS (I.ok.bs a o b).1) z) (pL _)
 cases k
 .rcases(show SqL X.K H a xs from q)with q|⟨o,_,_,hk,_⟩
  .exact rd _ q
  .exact kk o hk
 .rcases(show SqT X.K H a xs from q)with q|⟨o,_,_,hk,_⟩
  .exact rd _ q
  .exact kk o hk
theorem Vt{P:nq}{w:oN}{K:mx}{elts:List oI}{n:Nat}{pos:Pos}(k:oO)(a:nH)(m:oO)(b:nH)(z ti tt j1 j2:nH)(N:ZNe z ti tt j1 j2):Turn P w K (.Tuple elts n pos) (Itz K k a m b) [z,ti,tt,j1,j2] z (λi h=>ZSt h z ti tt j1 j2 k a m b i) where
 mem:=by simp
 obj:=λi h st c hc=>by
  have jl:∀{q:oO} {j l:nH},JIt h q j l i->∃o,h.get? j=Gc o/\∀v,o.data≠.cell v:=λ{q j l} x=>by
   cases q
   .obtain⟨o,e,_,d⟩:=(show h.IsListIter j l i from x)
    exact⟨o,e,λv z=>by rw[d]at z;cases z⟩
   .obtain⟨o,e,_,d⟩:=(show h.IsTupleIter j l i from x)
    exact⟨o,e,λv z=>by rw[d]at z;cases z⟩
  simp only[nK,oD,qA]at hc
  rcases hc with rfl|rfl|rfl|rfl|rfl
  .exact⟨_,st.oz,λv z=>nomatch z⟩
  .exact⟨_,st.oi,λv z=>nomatch z⟩
  .obtain⟨u,v,e⟩:=st.ot
   exact⟨_,e,λv z=>nomatch z⟩
  .exact jl st.q1
  .exact jl st.q2
 keep:=λi h h' st kp=>⟨kp z (by simp) _ st.oz,kp ti (by simp) _ st.oi,let⟨u,v,e⟩:=st.ot;⟨u,v,kp tt (by simp) _ e⟩,st.q1.at λo e=>kp j1 (by simp) o e,st.q2.at λo e=>kp j2 (by simp) o e⟩
 item:=by
  intro X hP hw hK hc i pins s σ H E I hf st hg
  subst hP hw hK
  obtain⟨xs,ys,x,y,s1,s2,e1,e2⟩:=hg
  obtain⟨i1,r1,p1⟩:=I.sqB s1
  obtain⟨i2,r2,p2⟩:=I.sqB s2
  obtain⟨u1,h1,ru1⟩:=r1.get e1
  obtain⟨u2,h2,ru2⟩:=r2.get e2
  have fz:=hf z (by simp);have fi:=hf ti (by simp);have ft:=hf tt (by simp);have f1:=hf j1 (by simp);have f2:=hf j2 (by simp)
  have ap:=N.apart (a:=a) (b:=b) (by simp[BV I s1 fz,BV I s1 ft,BV I s1 f1,BV I s1 f2]) (by simp[BV I s2 fz,BV I s2 ft,BV I s2 f1,BV I s2 f2])
  obtain⟨v1,v2,ot⟩:=st.ot
  refine RJ ap st.oz st.oi ot (st.q1.sit p1) (st.q2.sit p2) (x:=u1) (y:=u2) (by simpa using h1) (by simpa using h2) λh' oz ot' q1 q2 op kp=>⟨_,rfl,wpAny_letOwnedTupleGo_zip oz λg oz' sb=>?_⟩
  have lt:∀c o,s.heap.get? c=Gc o->c≠s.heap.objs.size:=λc o q=>nV (nS q)
  have nz:z≠s.heap.objs.size:=lt _ _ st.oz
  have nt:tt≠s.heap.objs.size:=lt _ _ ot
  have n1:j1≠s.heap.objs.size:=by obtain⟨o,e,_⟩:=(st.q1.sit p1).live;exact lt _ _ e
  have n2:j2≠s.heap.objs.size:=by obtain⟨o,e,_⟩:=(st.q2.sit p2).live;exact lt _ _ e
  have kp2:∀c o,c≠z->c≠tt->c≠j1->c≠j2->s.heap.get? c=Gc o->g.get? c=Gc o:=λc o c1 c2 c3 c4 q=>(sb.2 c c1).trans (kp c o c1 c2 c3 c4 q)
  have fr:H s.heap.objs.size=none:=I.hok.fresh (nG _)
  have op2:g.get? s.heap.objs.size=Gc {cls:=.type "tuple",data:=.seq #[u1,u2]}:=(sb.2 _ (pV nz)).trans op
  have ne:∀c u,c∈ [z,ti,tt,j1,j2]->∀d,H d=Gc u->d≠c:=λc u hc d q e=>by rw[e,(hf c hc).1]at q;cases q
  have kpH:∀c u,H c=Gc u->∀o,s.heap.get? c=Gc o->g.get? c=Gc o:=λc u q o e=>kp2 c o (ne z u (by simp) c q) (ne tt u (by simp) c q) (ne j1 u (by simp) c q) (ne j2 u (by simp) c q) e
  have ka:∀o,s.heap.get? a=Gc o->g.get? a=Gc o:=λo e=>kp2 a o (BV I s1 fz) (BV I s1 ft) (BV I s1 f1) (BV I s1 f2) e
  have kb:∀o,s.heap.get? b=Gc o->g.get? b=Gc o:=λo e=>kp2 b o (BV I s2 fz) (BV I s2 ft) (BV I s2 f1) (BV I s2 f2) e
  have sq:∀{q:oO} {d:nH} {is:oH mz},L4 s.heap q d is->(∀o,s.heap.get? d=Gc o->h'.get? d=Gc o)->L4 h' q d is:=λ{q d is} x kd=>by
   cases q
   .exact(show s.heap.IsList d is from x).at kd
   .obtain⟨o,e,r⟩:=(show s.heap.IsTuple d is from x)
    exact⟨o,kd o e,r⟩
  have ka1:∀o,s.heap.get? a=Gc o->h'.get? a=Gc o:=λo e=>kp a o (BV I s1 fz) (BV I s1 ft) (BV I s1 f1) (BV I s1 f2) e
  have kb1:∀o,s.heap.get? b=Gc o->h'.get? b=Gc o:=λo e=>kp b o (BV I s2 fz) (BV I s2 ft) (BV I s2 f1) (BV I s2 f2) e
  refine⟨.ref s.heap.objs.size,upd H s.heap.objs.size (.tup [x,y]),?_,rfl,⟨_,x,y,fr,rfl,λzs hz=>by rw[I.Pq hz s1];exact e1,λzs hz=>by rw[I.Pq hz s2];exact e2,rfl⟩,⟨oz',(sb.2 _ N.n1).trans (kp ti _ N.n1 N.n5 N.n6 N.n7 st.oi),⟨_,_,(sb.2 _ N.n2).trans ot'⟩,(q1.jit (sq p1 ka1)).at λo e=>(sb.2 _ N.n3).trans e,(q2.jit (sq p2 kb1)).at λo e=>(sb.2 _ N.n4).trans e⟩,?_⟩
  .show Inv X pins σ _ {s with heap:=g,gens:=s.gens,drawn:=s.drawn,toks:=s.toks}
   refine I.step (g':=s.gens) (d':=s.drawn) (ch:=[z,tt,j1,j2]) ?_ ?_ ?_ ?_ ?_ ?_ ?_ ?_ ?_ ?_ I.bare
   .intro c hc
    have q:QQ X pins H c:=hf c (by simp only[nK,oD,qA]at hc ⊢; rcases hc with z|z|z|z<;>simp[z])
    exact⟨q.2.2.2.1,q.2.1,q.2.2.2.2.1,q.2.2.2.2.2⟩
   .exact λc o _ _ hc q _=>by
     simp only[nK,oD,qA,wG]at hc
     exact kp2 c o hc.1 hc.2.1 hc.2.2.1 hc.2.2.2 q
   .exact λc o _ _ hc q _=>by
     simp only[nK,oD,qA,wG]at hc
     exact⟨o.slots,kp2 c o hc.1 hc.2.1 hc.2.2.1 hc.2.2.2 q⟩
   .exact λc o _ q n=>by rw[AY (lt c o q)];exact n
   .exact λc o hc q=>by
     simp only[nK,oD,qA,wG]at hc
     exact⟨o,kp2 c o hc.1 hc.2.1 hc.2.2.1 hc.2.2.2 q⟩
   .exact λc ys q=>by rw[AY (BN q fr)];exact q
   .exact λc o u q=>by rw[AY (BN q fr)];exact q
   .exact λc ps q=>⟨#[],by rw[AY (BN q fr),q];simp⟩
   .rintro mm ⟨o,es,ep,ho,r⟩
    exact⟨o,es,ep,kp2 _ o (pV fz.2.1) (pV ft.2.1) (pV f1.2.1) (pV f2.2.1) ho,r⟩
   .intro c v q
    by_cases hb:c=s.heap.objs.size
    .subst hb
     rw[Ay]at q
     cases q
     exact⟨by show 2<=sizeLine;decide,[u1,u2],.cons ru1 (.cons ru2 .nil),⟨_,op2,rfl,0,rfl⟩⟩
    .rw[AY hb]at q
     refine(I.hok c v q).We (λd o hd r=>?_) (λd r=>by rw[AY (BN r fr)];exact r) (λd ys r=>by rw[AY (BN r fr)];exact r)
     rcases hd with e|e
     .rw[e]at r ⊢; exact kpH c v q o r
     .exact kpH d _ e o r
  .intro c hc
   have q:=hf c hc
   have:c≠s.heap.objs.size:=by
    simp only[nK,oD,qA]at hc
    rcases hc with e|e|e|e|e
    .rw[e];exact nz
    .rw[e];exact lt _ _ st.oi
    .rw[e];exact nt
    .rw[e];exact n1
    .rw[e];exact n2
   rw[AY this];exact q.1
 done:=by
  intro X hP hw hK hc i pins s σ H E I hf st hg
  subst hP hw hK
  obtain⟨xs,ys,s1,s2,e⟩:=hg
  obtain⟨i1,r1,p1⟩:=I.sqB s1
  obtain⟨i2,r2,p2⟩:=I.sqB s2
  have l1:=r1.length
  have l2:=r2.length
  have hh:X.A.in1.handled=none:=I.ok.hd hc
  have hh0:X.A.handled=none:=I.ok.hd hc
  have fz:=hf z (by simp);have fi:=hf ti (by simp);have ft:=hf tt (by simp);have f1:=hf j1 (by simp);have f2:=hf j2 (by simp)
  have ap:=N.apart (a:=a) (b:=b) (by simp[BV I s1 fz,BV I s1 ft,BV I s1 f1,BV I s1 f2]) (by simp[BV I s2 fz,BV I s2 ft,BV I s2 f1,BV I s2 f2])
  obtain⟨v1,v2,ot⟩:=st.ot
  refine UC hh0 ap st.oz st.oi ot (st.q1.sit p1) (st.q2.sit p2) (by rcases e with e|e;exact .inl (by simp;lia);exact .inr (by simp;lia)) λh' kp=>⟨rfl,?_⟩
  have ne:∀c u,c∈ [z,ti,tt,j1,j2]->∀d,H d=Gc u->d≠c:=λc u hc d q e=>by rw[e,(hf c hc).1]at q;cases q
  show Inv X pins σ _ {s with heap:=h',gens:=s.gens,drawn:=s.drawn,toks:=s.toks}
  refine I.step (g':=s.gens) (d':=s.drawn) (ch:=[z,tt,j1,j2]) ?_ ?_ ?_ ?_ ?_ ?_ ?_ ?_ ?_ ?_ I.bare
  .intro c hc
   have q:QQ X pins H c:=hf c (by simp only[nK,oD,qA]at hc ⊢; rcases hc with z|z|z|z<;>simp[z])
   exact⟨q.2.2.2.1,q.2.1,q.2.2.2.2.1,q.2.2.2.2.2⟩
  .exact λc o _ _ hc q _=>by
    simp only[nK,oD,qA,wG]at hc
    exact kp c o hc.1 hc.2.1 hc.2.2.1 hc.2.2.2 q
  .exact λc o _ _ hc q _=>by
    simp only[nK,oD,qA,wG]at hc
    exact⟨o.slots,kp c o hc.1 hc.2.1 hc.2.2.1 hc.2.2.2 q⟩
  .exact λc o _ q n=>n
  .exact λc o hc q=>by
    simp only[nK,oD,qA,wG]at hc
    exact⟨o,kp c o hc.1 hc.2.1 hc.2.2.1 hc.2.2.2 q⟩
  .exact λc ys q=>q
  .exact λc o u q=>q
  .exact λc ps q=>⟨#[],by rw[q];simp⟩
  .rintro mm ⟨o,es,ep,ho,r⟩
   exact⟨o,es,ep,kp _ o (pV fz.2.1) (pV ft.2.1) (pV f1.2.1) (pV f2.2.1) ho,r⟩
  .intro c v q
   refine(I.hok c v q).We (λd o hd r=>?_) (λd r=>r) (λd ys r=>r)
   rcases hd with e|e
   .rw[e]at r ⊢; exact kp c o (ne z v (by simp) c q) (ne tt v (by simp) c q) (ne j1 v (by simp) c q) (ne j2 v (by simp) c q) r
   .exact kp d o (ne z _ (by simp) d e) (ne tt _ (by simp) d e) (ne j1 _ (by simp) d e) (ne j2 _ (by simp) d e) r
 self:=λ_ _ _ _ _ st h=>zI st.oz h
end L2
end
noncomputable section
namespace L2
open PySem PySem.Spec PyProof.Rows
theorem zne(n:Nat):ZNe (n+4) (n+2) (n+3) n (n+1):=⟨λe=>by have:n+2=n+4:=e;lia,λe=>by have:n+3=n+4:=e;lia,λe=>by have:n=n+4:=e;lia,λe=>by have:n+1=n+4:=e;lia,λe=>by have:n+2=n+3:=e;lia,λe=>by have:n+2=n:=e;lia,λe=>by have:n+2=n+1:=e;lia,λe=>by have:n+3=n:=e;lia,λe=>by have:n+3=n+1:=e;lia,λe=>by have:n=n+1:=e;lia⟩
section
variable{X:Cx}
noncomputable def kc(K:mx)(ta:TA):TI:=λσ H R=>ta σ H λvs H1=>∃k a m b,vs=[.ref a,.ref b]/\(∃xs,SqB K H1 k a xs)/\(∃ys,SqB K H1 m b ys)/\R (Itz K k a m b) H1
theorem cD{a b:oI}{ta:TA}{p pos tp:Pos}{elts:List oI}{n:Nat}(hg:Gl X "zip")(hm:X.mg "zip"=none)(ha:PA X [a,b] ta)(hs:nv [a,b] X.env=[(false,eval a X.env),(false,eval b X.env)]:=by rfl)(hs2:nv [b] X.env=[(false,eval b X.env)]:=by rfl):PI X (.Tuple elts n tp) (.Call (.Name "zip" p) [a,b] [] pos) (kc X.K ta):=by
 intro pins s σ H R I h
 refine Call_ (JW I hg hm boot_zip (qI (thn (ha pos pins s σ H _ I h) λus s1 ⟨vs,H1,I1,r1,q1⟩=>?_) (by rw[hs,hs2]) (by rw[hs2];rfl)))
 obtain⟨k,a',m,b',e,⟨xs,hq⟩,⟨ys,hr⟩,q⟩:=q1
 subst e
 obtain⟨u,v,rfl,ru,rv⟩:=r1.two
 cases (show u=oX a' from ru)
 cases (show v=oX b' from rv)
 obtain⟨i1,v1,p1⟩:=I1.sqB hq
 obtain⟨i2,v2,p2⟩:=I1.sqB hr
 refine U6 p1 p2 λh' oz oi ot q1 q2 kp=>zI (s:={s1 with heap:=h'}) oz ?_
 have sq:∀{q:oO} {d:nH} {is:oH mz},L4 s1.heap q d is->L4 h' q d is:=λ{q d is} x=>by
  cases q
  .exact(show s1.heap.IsList d is from x).at λo e=>kp _ o e
  .obtain⟨o,e,r⟩:=(show s1.heap.IsTuple d is from x)
   exact⟨o,kp _ o e,r⟩
 refine⟨s1.heap.objs.size+4,[s1.heap.objs.size+4,s1.heap.objs.size+2,s1.heap.objs.size+3,s1.heap.objs.size,s1.heap.objs.size+1],_,_,H1,rfl,I1.kept (t':=s1.toks) kp,
  Vt k a' m b' _ _ _ _ _ (zne s1.heap.objs.size),⟨oz,oi,⟨_,_,ot⟩,q1.jit (sq p1),q2.jit (sq p2)⟩,λc hc=>?_,q⟩
 simp only[nK,oD,qA]at hc
 have:s1.heap.objs.size<=c:=by rcases hc with rfl|rfl|rfl|rfl|rfl<;>first|exact nG _|exact vp _ _
 exact I1.ZQ this (I1.hok.fresh this)
end
end L2
end
noncomputable section
namespace L2
open PySem PySem.Spec PyProof.Rows
section
variable{prog:nq}{w:oN}{A:oU}{E:mz->m8->Prop}{s:m8}
theorem IsList.Qq{h h':oQ}{a:nH}{items:oH mz}(p:h.IsList a items)(k:∀o,h.get? a=Gc o->h'.get? a=Gc o):h'.IsList a items:=by
 obtain⟨o,ho,r⟩:=p
 exact⟨o,k o ho,r⟩
theorem OY{it t:nH}{items:oH mz}(hne:t≠it):∀(n i:Nat) (s:m8) (Q:List mz->m8->Prop),s.heap.IsListIter it t i->s.heap.IsList t items->i+n<=items.size->(∀h',h'.IsListIter it t (i+n)->qf it s.heap h'->Q ((items.toList.drop i).take n) {s with heap:=h'})->wpAny (model prog w) A (draw (.ref it) n) Q E s
 |0,i,s,Q,hit,_,_,hQ=>by
  show wpAny _ _ (pure []) Q E s
  exact m9 (by simpa using hQ s.heap hit (yZ ..))
 |n+1,i,s,Q,hit,ht,hle,hQ=>by
  have hlt:i<items.size:=by lia
  show wpAny _ _ (pyNext (.ref it) >>= _) Q E s
  refine Wp (t7 hit ht (x:=items[i]) (by simp[hlt]) λh1 hit1 hs1=>?_)
  refine Wp (oq (OY hne n (i+1) _ _ hit1 (IsList.Qq ht λo e=>hs1.extBut t o hne e) (by lia) λh2 hit2 hs2=>m9 ?_))
  have hd:items.toList.drop i=items[i]::items.toList.drop (i+1):=by simp[qP,hlt]
  have:=hQ h2 (by rw[show i+(n+1)=i+1+n by lia];exact hit2) (hs1.trans hs2)
  rw[hd,List.take_succ_cons]at this
  exact this
theorem KO{t:nH}{items:oH mz}{Q:List mz->m8->Prop}(hh:A.handled=none)(ht:s.heap.IsList t items)(hty:s.TypeIs (.ref t) "list")(hQ:∀h',tq s.heap.objs.size s.heap h'->Q items.toList {s with heap:=h'}):wpAny (model prog w) A (unpackItems (.ref t) items.size none) Q E s:=by
 have hlt:t≠s.heap.objs.size:=by obtain⟨o,ho,_⟩:=ht;exact nV (nS ho)
 unfold unpackItems
 refine Wp ?_
 .unfold notIterableAtAll
  refine Wp (wW hty F.slot_list_iter.lookup ?_)
  refine m9 ?_
  simp only[qR,sZ]
  refine Wp (oq (qL ht ?_))
  refine Wp (oq (OY hlt items.size 0 _ _ ⟨_,nM _ rfl,rfl,rfl⟩ (IsList.Qq ht λo e=>my _ e) (by lia) λh1 hit1 hs1=>?_))
  have hall:zJ items.size (List.drop 0 items.toList)=items.toList:=by
   rw[List.drop_zero];exact sC (by simp)
  rw[hall]
  rw[oE (by simp)]
  have ht1:h1.IsList t items:=IsList.Qq (IsList.Qq ht λo e=>my _ e) λo e=>hs1.extBut t o hlt e
  refine Wp (oq (uQ hh hit1 ht1 (by simp) λh2 he2=>?_))
  simp only[Option.isSome_none,qR,sZ]
  refine m9 (hQ h2 λb o hb e=>he2 b o hb (hs1.extBut b o hb (my _ e)))
theorem Jn{env:Env}{elts:List oI}{x1}{pos:Pos}{t:nH}{items:oH mz}{Q:Unit->m8->Prop}(hh:A.handled=none)(ht:s.heap.IsList t items)(hty:s.TypeIs (.ref t) "list")(hn:(assignEach elts env).length=items.size)(hstar:(assignEach elts env).findIdx? (·.1)=none)(h:∀h',tq s.heap.objs.size s.heap h'->wpAny (model prog w) A (assignInOrder ((assignEach elts env).map (·.2)) items.toList) Q E {s with heap:=h'}):wpAny (model prog w) A (assign (.Tuple elts x1 pos) env (.ref t)) Q E s:=by
 rw[PyProof.Rows.assign_Tuple]
 refine Wp (tN ?_)
 unfold unpack
 rw[hn,hstar]
 exact Wp (oq (KO hh ht hty h))
end
section
variable{X:Cx}{pos:Pos}
noncomputable def kY(K:mx)(n:Nat)(t:TGs):TG:=λv σ H Q=>∃a xs,v=.ref a/\(SqT K H a xs\/H a=Gc (.lst xs))/\xs.length=n/\t xs σ H Q
theorem eT{es:List oI}{k:Nat}{t:TGs}{n:Nat}(hc:X.calm=true)(h:PGs X es t)(hn:(assignEach es X.env).length=n:=by rfl)(hst:(assignEach es X.env).findIdx? (·.1)=none:=by rfl):PG X (.Tuple es k pos) (kY X.K n t):=by
 intro pins s σ H v u Q I r hw
 obtain⟨a,xs,e1,hq,hl,hw⟩:=hw
 rcases hq with hq|hq
 .exact eB hc h hn hst pins s σ H v u Q I r ⟨a,xs,e1,hq,hl,hw⟩
 .subst e1
  cases r
  obtain⟨its,rv,p,hz⟩:=I.list (SqL.of hq)
  obtain⟨z,its2,m,rv2,_,e⟩:=I.Xj hq
  refine Jn (I.ok.hd hc) p.isList ⟨_,e,rfl⟩ (by simp[hn,<-hl,rv.length]) hst λh' hx=>?_
  have I1:Inv X pins σ H {s with heap:=h'}:=I.kept (t':=s.toks) λb o e=>hx b o (nV (nS e)) e
  exact h pins _ σ H xs _ Q I1 (by simpa using rv) hw
end
end L2
end
noncomputable section
namespace L2
open PySem PySem.Spec PyProof.Rows
theorem JIt.live{h:oQ}{k:oO}{j l:nH}{i:Nat}(q:JIt h k j l i):∃o,h.get? j=Gc o/\∀v,o.data≠.cell v:=by
 cases k with
 |true=>obtain⟨o,e,c,d⟩:=q;exact⟨o,e,λv z=>by rw[d]at z;cases z⟩
 |false=>obtain⟨o,e,c,d⟩:=q;exact⟨o,e,λv z=>by rw[d]at z;cases z⟩
theorem L4.mono{h h':oQ}{k:oO}{l:nH}{its:oH mz}(q:L4 h k l its)(e:∀o,h.get? l=Gc o->h'.get? l=Gc o):L4 h' k l its:=by
 cases k with
 |true=>obtain⟨o,ho,r⟩:=q;exact⟨o,e o ho,r⟩
 |false=>obtain⟨o,ho,r⟩:=q;exact⟨o,e o ho,r⟩
theorem So{prog:nq}{w:oN}{A:oU}(hh:A.handled=none)(it t:nH)(hne:t≠it)(items:oH mz):Draws prog w A it [it,t] items.size (λi v=>items[i]?=Gc v) (λi h=>SIt h it t i items) where
 live:=λ_ _ st=>let⟨o,ho,_⟩:=st.live;⟨o,ho⟩
 frame:=λ_ _ _ st hk=>st.at (λo e=>hk it (by simp) o e) λo e=>hk t (by simp) o e
 item:=λi s Q E hi st hQ=>Ke st (x:=items[i]) (by simp[hi]) λh' a b=>hQ _ h' s.toks (by simp[hi]) a b
 done:=λs Q E st hE=>Kg hh st (by simp) hE
noncomputable def ItE(K:mx)(kk:oO)(a:nH):It:=
 ⟨λi H=>∃xs x,SqB K H kk a xs/\xs[i]?=Gc x,λi H x H'=>∃p y,H p=none/\x=.ref p/\(∀xs,SqB K H kk a xs->xs[i]?=Gc y)/\H'=upd H p (.tup [.int i,y]),λi H=>∃xs,SqB K H kk a xs/\xs.length<=i⟩
theorem Rk{P:nq}{w:oN}{K:mx}{elts:List oI}{k:Nat}{pos:Pos}(kk:oO)(a e it:nH)(hei:e≠it):Turn P w K (.Tuple elts k pos) (ItE K kk a) [e,it] e (λi h=>(∃old,IsEnum h e it i old)/\JIt h kk it a i) where
 mem:=by simp
 obj:=λi h st b hb=>by
  obtain⟨⟨old,h1⟩,st2⟩:=st
  obtain⟨o,h2,h4⟩:=st2.live
  simp only[nK,oD,qA]at hb
  rcases hb with rfl|rfl
  .exact⟨_,h1,λv z=>nomatch z⟩
  .exact⟨o,h2,h4⟩
 keep:=λi h h' st k=>by
  obtain⟨⟨old,h1⟩,h2⟩:=st
  exact⟨⟨old,k e (by simp) _ h1⟩,h2.at λo q=>k it (by simp) o q⟩
 item:=by
  intro X hP hw hK hc i pins s σ H E I hf st hg
  subst hP hw hK
  obtain⟨xs,x,hq,hx⟩:=hg
  obtain⟨its,rv,p⟩:=I.sqB hq
  obtain⟨u,hu,ru⟩:=rv.get hx
  obtain⟨⟨old,h1⟩,h2⟩:=st
  obtain⟨oi,hi1,hi2⟩:=h2.live
  have hea:a≠e:=BV I hq (hf e (by simp))
  have hia:a≠it:=BV I hq (hf it (by simp))
  have hil:i<its.toArray.size:=by
   have:=(nP.mp hu).1
   simpa using this
  have hh:X.A.in1.handled=none:=I.ok.hd hc
  have D:=So (prog:=X.prog) (w:=X.w) hh it a hia its.toArray
  refine wpAny_pyNext_enum_itemD D h1 (h2.sit p) hil hei (by simp[hei,pV hea]) ?_
  intro y h' tk hy out st' tup size kept
  have ey:y=u:=by
   have:its[i]?=Gc y:=by simpa using hy
   rw[hu]at this
   exact(pD this).symm
  subst ey
  refine⟨_,rfl,wpAny_letOwnedTupleGo_enum out λh'' en sb=>?_⟩
  have hfe:=hf e (by simp)
  have hfi:=hf it (by simp)
  have lt:∀b o,s.heap.get? b=Gc o->b≠s.heap.objs.size:=λb o q=>nV (nS q)
  have kept2:∀b o,b≠e->b≠it->s.heap.get? b=Gc o->h''.get? b=Gc o:=λb o b1 b2 q=>(sb.2 b b1).trans (kept b o b1 b2 q)
  have fr:H s.heap.objs.size=none:=I.hok.fresh (nG _)
  have tup2:h''.get? s.heap.objs.size=Gc {cls:=.type "tuple",data:=.seq #[.int i tk,y]}:=(sb.2 _ (pV (lt e _ h1))).trans tup
  have ne1:∀b u,H b=Gc u->b≠e:=λb u q z=>by rw[z,hfe.1]at q;cases q
  have ne2:∀b u,H b=Gc u->b≠it:=λb u q z=>by rw[z,hfi.1]at q;cases q
  refine⟨.ref s.heap.objs.size,upd H s.heap.objs.size (.tup [.int i,x]),?_,rfl,⟨_,x,fr,rfl,λys hys=>by rw[I.Pq hys hq];exact hx,rfl⟩,⟨⟨y,en⟩,?_⟩,?_⟩
  .show Inv X pins σ _ {s with heap:=h'',gens:=s.gens,drawn:=s.drawn,toks:=tk+1}
   refine I.step (g':=s.gens) (d':=s.drawn) (ch:=[e,it]) ?_ ?_ ?_ ?_ ?_ ?_ ?_ ?_ ?_ ?_ I.bare
   .intro b hb
    simp only[nK,oD,qA]at hb
    rcases hb with rfl|rfl
    .exact⟨hfe.2.2.2.1,hfe.2.1,hfe.2.2.2.2.1,hfe.2.2.2.2.2⟩
    .exact⟨hfi.2.2.2.1,hfi.2.1,hfi.2.2.2.2.1,hfi.2.2.2.2.2⟩
   .exact λb o _ _ hc q _=>kept2 b o (λz=>hc (by simp[z])) (λz=>hc (by simp[z])) q
   .exact λb o _ _ hc q _=>⟨o.slots,kept2 b o (λz=>hc (by simp[z])) (λz=>hc (by simp[z])) q⟩
   .exact λb o _ q n=>by rw[AY (lt b o q)];exact n
   .exact λb o hc q=>⟨o,kept2 b o (λz=>hc (by simp[z])) (λz=>hc (by simp[z])) q⟩
   .exact λb ys q=>by rw[AY (BN q fr)];exact q
   .exact λb o u q=>by rw[AY (BN q fr)];exact q
   .exact λb ps q=>⟨#[],by rw[AY (BN q fr),q];simp⟩
   .rintro m ⟨o,es,ep,ho,r⟩
    exact⟨o,es,ep,kept2 _ o (pV hfe.2.1) (pV hfi.2.1) ho,r⟩
   .intro b v q
    by_cases hb:b=s.heap.objs.size
    .subst hb
     rw[Ay]at q
     cases q
     exact⟨by show 2<=sizeLine;decide,[.int i tk,y],.cons ⟨tk,rfl⟩ (.cons ru .nil),⟨_,tup2,rfl,0,rfl⟩⟩
    .rw[AY hb]at q
     refine(I.hok b v q).We (λc z hc r=>kept2 c z ?_ ?_ r) (λc r=>by rw[AY (BN r fr)];exact r) (λc ys r=>by rw[AY (BN r fr)];exact r)
     .rcases hc with z|z
      .rw[z];exact ne1 b v q
      .exact ne1 c _ z
     .rcases hc with z|z
      .rw[z];exact ne2 b v q
      .exact ne2 c _ z
  .have pa:L4 h'' kk a its.toArray:=p.mono λo q=>kept2 a o hea hia q
   exact(st'.at (λo q=>(sb.2 it (pV hei)).trans q) λo q=>(sb.2 a hea).trans q).jit pa
  .intro b hb
   simp only[nK,oD,qA]at hb
   rcases hb with rfl|rfl
   .rw[AY (lt b _ h1)];exact hfe.1
   .rw[AY (lt b _ hi1)];exact hfi.1
 done:=by
  intro X hP hw hK hc i pins s σ H E I hf st hg
  subst hP hw hK
  obtain⟨xs,hq,hx⟩:=hg
  obtain⟨its,rv,p⟩:=I.sqB hq
  obtain⟨⟨old,h1⟩,h2⟩:=st
  have hl:=rv.length
  have hh:X.A.in1.handled=none:=I.ok.hd hc
  obtain⟨f0,f1,f2,f3,f4,f5⟩:=hf it (by simp)
  have D:Draws X.prog X.w X.A.in1 it [it,a] i (λ_ _=>z6) (λj h=>j=i/\SIt h it a i its.toArray):=
   {live:=λ_ _ st=>let⟨o,ho,_⟩:=st.2.live;⟨o,ho⟩
    frame:=λ_ _ _ st hk=>⟨st.1,st.2.at (λo e=>hk it (by simp) o e) λo e=>hk a (by simp) o e⟩
    item:=λj s Q E hj st _=>absurd st.1 (nV hj)
    done:=λs Q E st hE=>Kg hh st.2 (by simp;lia) hE}
  exact wpAny_pyNext_enum_endD D h1 ⟨rfl,h2.sit p⟩ λh' eb=>⟨rfl,I.turned (t':=s.toks) (λb o hb q=>eb b o hb q) f0 f1 f3 f4 f5⟩
 self:=λ_ _ _ _ _ st h=>by
  obtain⟨⟨old,h1⟩,_⟩:=st
  exact ya h1 h
section
variable{X:Cx}
noncomputable def bf(K:mx)(ta:TA):TI:=λσ H R=>ta σ H λvs H1=>∃kk a,vs=[.ref a]/\(∃xs,SqB K H1 kk a xs)/\R (ItE K kk a) H1
theorem V2{a:oI}{ta:TA}{p pos tp:Pos}{elts:List oI}{k:Nat}(hg:Gl X "enumerate")(hm:X.mg "enumerate"=none)(ha:PA X [a] ta)(hs:nv [a] X.env=[(false,eval a X.env)]:=by rfl):PI X (.Tuple elts k tp) (.Call (.Name "enumerate" p) [a] [] pos) (bf X.K ta):=by
 intro pins s σ H R I h
 refine Call_ (JW I hg hm boot_enumerate (callWith_type1 (thn (ha pos pins s σ H _ I h) λus s1 ⟨vs,H1,I1,r1,q1⟩=>?_) hs rfl))
 obtain⟨kk,b,e,⟨xs,hq⟩,q⟩:=q1
 subst e
 obtain⟨u,rfl,ru⟩:=r1.one
 cases (show u=oX b from ru)
 obtain⟨its,rv,pt⟩:=I1.sqB hq
 have fin:∀h':oQ,IsEnum h' (s1.heap.objs.size+1) s1.heap.objs.size 0 .none->JIt h' kk s1.heap.objs.size b 0->(∀b o,s1.heap.get? b=Gc o->h'.get? b=Gc o)->wpAny (model X.prog X.w) X.A (pyIter (.ref (s1.heap.objs.size+1))) (PIE X pins σ (.Tuple elts k tp) R) X.xe {s1 with heap:=h'}:=λh' en it kp=>by
  refine ya (s:={s1 with heap:=h'}) en ?_
  refine⟨s1.heap.objs.size+1,[s1.heap.objs.size+1,s1.heap.objs.size],_,_,H1,rfl,I1.kept (t':=s1.toks) kp,Rk kk b (s1.heap.objs.size+1) s1.heap.objs.size (Nat.succ_ne_self _),⟨⟨_,en⟩,it⟩,λc hc=>?_,q⟩
  simp only[nK,oD,qA]at hc
  rcases hc with rfl|rfl
  .exact I1.ZQ (by lia) (I1.hok.fresh (by lia))
  .exact I1.ZQ (nG _) (I1.hok.fresh (nG _))
 cases kk with
 |true=>exact Rc (show s1.heap.IsTuple b its.toArray from pt) λh' en it kp=>fin h' en it kp
 |false=>exact call_enumerate_list (show s1.heap.IsList b its.toArray from pt) λh' en it _ kp=>fin h' en it kp
end
end L2
end
noncomputable section
namespace St
open PySem PySem.Spec L2 PyProof.Rows
inductive Kd where
 |non|bl|int|str|tup|lst|dct
 deriving wt
noncomputable def Kd.ty:Kd->qj
 | .non=>"NoneType" | .bl=>"bool" | .int=>"int" | .str=>"str" | .tup=>"tuple" | .lst=>"list" | .dct=>"dict"
noncomputable def Kd.isA:Kd->qj->oO
 | .bl,"bool"=>true| .bl,"int"=>true| .int,"int"=>true| .str,"str"=>true| .tup,"tuple"=>true| .lst,"list"=>true| .dct,"dict"=>true
 |_,_=>false
section
variable{K:mx}
theorem aQ(k:Kd):ql K (.type k.ty) (.type "int")=Gc (k.isA "int"):=by
 cases k<;>first|rfl|(unfold ql;rfl)
theorem XE(k:Kd):ql K (.type k.ty) (.type "bool")=Gc (k.isA "bool"):=by
 cases k<;>rfl
theorem kit_tuple(k:Kd):ql K (.type k.ty) (.type "tuple")=Gc (k.isA "tuple"):=by
 cases k<;>rfl
theorem Y8(k:Kd):ql K (.type k.ty) (.type "str")=Gc (k.isA "str"):=by
 cases k<;>rfl
end
structure Dfn(P:nq)(w:oN)(K:mx)(mg:Str->nB mz)(base:oQ)(x:Str)(k:Nat)(ps:List Str)(sp:Sp):Prop where
 ex:∃f fd,mg x=Gc (.ref f)/\qk K (.ref f)=true/\Binds K fd ps []/\OM P w K mg base CX0 k f fd ps sp
structure Src(K:mx)(mg:Str->nB mz)(x:Str)(st:pN):Prop where
 ex:∃f fd,Fun K x x st f fd/\mg x=Gc (.ref f)
theorem iS{X:Cx}{k:Nat}{x:Str}{ps:List Str}{sp:Sp}{e:oI}{es:List oI}{t:TA}{p pos:Pos}(d:Dfn X.prog X.w X.K X.mg X.base x k ps sp)(hr:Lq k X.A)(hg:Gl X x)(ha:PA X (e::es) t)(hdb:(x==("__debug__":Str))=false:=by decide)(he:nv (e::es) X.env=(false,eval e X.env)::nv es X.env:=by rfl)(hpl:(backTo pos (nv es X.env)).any (·.1)=false:=by rfl):PE X (.Call (.Name x p) (e::es) [] pos) (Y5 sp [] E0 t):=by
 obtain⟨f,fd,a,b,c,F⟩:=d.ex
 exact Zq F hr hg a b c .nil jg ha hdb he hpl
section
variable{X:Cx}
theorem aP{n:Nat}(h:n<2^8000):n.log2<9000:=by
 by_cases h0:n=0
 .subst h0;decide
 .exact r9 ((Nat.log2_lt h0).mpr h) (by decide)
theorem WG:OpR X (binaryOp .FloorDiv) (rI (λ_ j=>0<j/\j.natAbs<2^8000) λi j=>.int (i / j)):=opI λi j _ _ _ _ _ hc q=>by
 have h1:(0:Int)<j:=hc.1
 exact floordiv_int (by lia) (by rw[Int.fdiv_eq_ediv_of_nonneg i (by lia)];exact q) (.inl (PyProof.noPylong_of_log2 (aP hc.2)))
theorem Rq{prog:nq}{w:oN}{A:oU}(hh:A.handled=none){a it:nH}(hne:a≠it){vs:List mz}:Walks prog w A it [it,a] [it] vs.length (λi v=>vs[i]?=Gc v) (λi h=>h.IsListIter it a i/\h.IsList a vs.toArray) where
 sub:=λb hb=>by simp at hb;simp[hb]
 frame:=λi h h' st k=>⟨st.1.at λo e=>k it (by simp) o e,by
  obtain⟨o,ho,r⟩:=st.2
  exact⟨o,k a (by simp) o ho,r⟩⟩
 item:=λi s Q E hi st hQ=>by
  refine t7 st.1 st.2 (x:=vs[i]) (by simp[hi]) λh' st' sb=>?_
  refine hQ _ h' s.toks (by simp[hi]) ⟨st',?_⟩ λb o hb e=>(sb.2 b (by simpa using hb)).trans e
  obtain⟨o,ho,r⟩:=st.2
  exact⟨o,(sb.2 a hne).trans ho,r⟩
 done:=λs Q E st hQ=>uQ hh st.1 st.2 (by simp) λh' eb=>hQ h' s.toks λb o hb e=>eb b o (by simpa using hb) e
 self:=λi s Q E st hQ=>wd st.1 hQ
theorem Xm{ns:List Int}{j:Nat}(h:j<ns.length):(ns.take (j+1)).sum=(ns.take j).sum+ns.getD j 0:=by
 have e:ns.getD j 0=ns[j]:=by simp[nJ,nN h]
 rw[List.take_succ,nN h,zg,e]
 show _+(ns[j]+0)=_
 lia
theorem Lh{ns:List Int}:∀{j:Nat},j<=ns.length->preSum (λi=>ns.getD i 0) j=(ns.take j).sum
 |0,_=>by simp[preSum]
 |j+1,h=>by
  rw[preSum,Lh (by lia),Xm (by lia)]
theorem TC{ns:List Int}(h:∀n∈ns,0<=n/\n<=1000000):0<=ns.sum/\ns.sum<=1000000*ns.length:=by
 induction ns with
 |nil=>simp
 |cons a l ih=>
  have h1:=h a (by simp)
  have h2:=ih λn hn=>h n (by simp[hn])
  rw[pB,oT]
  have:((l.length+1:Nat):Int)=(l.length:Int)+1:=by lia
  lia
end
section
variable{prog:nq}{w:oN}{A:oU}{E:mz->m8->Prop}{s:m8}
theorem Jf{t sl:nH}{items:oH mz}{vl vu:mz}{lo hi:nB Int}{Q:mz->m8->Prop}(ht:IsTup s.heap t items)(hs:s.heap.IsSliceOf sl vl vu .none)(pl:v9 vl lo)(pu:v9 vu hi)(hw:HT.sIx items.size 0 lo=0/\HT.sIx items.size items.size hi=items.size)(h:Q (.ref t) s):wpAny (model prog w) A (getItem (.ref t) (.ref sl)) Q E s:=by
 obtain⟨os,hos,hcs,hds⟩:=id hs
 have hTs:s.TypeIs (.ref sl) "slice":=⟨os,hos,hcs⟩
 unfold getItem
 try with_reducible refine oq ?_
 first|refine Wp (m9 ?_)|skip
 refine Wp (yS ht.typeIs (by decide) ?_)
 refine Wp (oo (name:=pR "__getitem__") ht.typeIs pH
  (oW pH ht.typeIs xV ?_ (xt _ _)))
 show wpAny _ _ (vB (.ref t) >>= _) _ _ s
 refine Wp (tupleItemsOf_ ht ?_)
 refine Wp (rh hTs ?_)
 rw[nh (by decide)]
 refine Wp (HT.Gy hs pl pu ?_)
 show wpAny _ _ (if(((HT.sIx items.size 0 lo:Nat):Int)==0 && (1:Int)==1 && (HT.sIx items.size items.size hi-HT.sIx items.size 0 lo)==items.size)=true then _ else _) _ _ s
 rw[nh (by rw[hw.1,hw.2];simp)]
 unfold Builtin.Tuple.tupleIsExact
 refine Wp (Wp (rh ht.typeIs (m9 ?_)))
 rw[nh (by decide)]
 exact Wp (rG (m9 ⟨_,rfl,m9 h⟩))
end
section
variable{X:Cx}
def mJ(K:mx):V->nB Int->nB Int->Hp->VK->Prop:=λx lo hi H Q=>∃a xs,x=.ref a/\SqT K H a xs/\HT.sIx xs.length 0 lo=0/\HT.sIx xs.length xs.length hi=xs.length/\Q x H
theorem cy:SlR X (mJ X.K):=by
 intro pins s σ H x v vl vu lo hi sl Q I rx hs pl pu h
 obtain⟨a,xs,rfl,hx,h1,h2,q⟩:=h
 cases rx
 obtain⟨its,r,ht,hz⟩:=I.tuple hx
 have hlen:its.toArray.size=xs.length:=by rw[nQ];exact r.length.symm
 refine⟨"tuple",_,pH.lookup,ht.typeIs,?_⟩
 exact Jf ht hs pl pu (by rw[hlen];exact⟨h1,h2⟩) ⟨.ref a,H,I,rfl,q⟩
noncomputable def jf(K:mx):R2:=λx y H Q=>∃a b ys,x=.ref a/\y=.ref b/\SqT K H a []/\SqT K H b ys/\Q (.ref b) H
theorem aX:OpR X (binaryOp .Add) (jf X.K):=by
 intro pins s σ H x y v u Q I rx ry h
 obtain⟨a,b,ys,rfl,rfl,ha,hb,q⟩:=h
 cases rx
 cases ry
 obtain⟨its,r1,p1,_⟩:=I.tuple ha
 obtain⟨its2,r2,p2,_⟩:=I.tuple hb
 have e0:its=[]:=r1.NZ.mpr rfl
 subst e0
 obtain⟨⟨cls,dd,data,sl⟩,ho,hc,n,hd⟩:=id p1
 obtain⟨⟨cls2,dd2,data2,sl2⟩,ho2,hc2,n2,hd2⟩:=id p2
 simp only at hc hd hc2 hd2
 subst hc hd hc2 hd2
 exact yR ⟨_,ho,rfl⟩ ⟨_,ho2,rfl⟩ vh xk t9 tm (tP _ _)
  (tuple_addW0 a b #[] its2.toArray n n2 dd dd2 sl sl2 rfl) ⟨ho,ho2,⟨.ref b,H,I,rfl,q⟩⟩
end
end St
end
noncomputable section
namespace Mi
open PySem PySem.Spec L2
inductive D where
 |non|bl (b:oO)|int (i:Int)|str (x:Str)|ty (n:qj)|tup (ds:List D)|lst (ds:List D)|dct (kvs:List (Key×D))|scr (ns:List Int)|ref (n:Nat)
inductive Wv where
 |val (d:D)|own (ds:List D)
inductive Cl where
 |lst (ds:List D)|dct (kvs:List (Key×D))|tab (x:Str)
abbrev Sto:=List Cl
structure Ms where
 cel:List nH
 tmp:List nH
def Ms.mem(M:Ms)(a:nH):Prop:=a∈M.cel\/a∈M.tmp
noncomputable def Ms.no:Ms:=⟨[],[]⟩
theorem Ms.YX{a:nH}:¬Ms.no.mem a:=λz=>z.elim (λz=>by cases z) λz=>by cases z
def KL(K:mx)(a:nH)(xs:List V):Prop:=∃(o:Obj) (its:oH mz) (n:Nat),K.lookup a=Gc o/\o.cls=.type "list" /\o.dict=none/\o.data=.seq its n/\its.size<=sizeLine/\Vals xs its.toList
mutual
inductive DA(K:mx)(M:Ms)(H:Hp):V->D->Prop
 |non:DA K M H .non .non
 |bl (b:oO):DA K M H (.bl b) (.bl b)
 |int (i:Int):DA K M H (.int i) (.int i)
 |str (x:Str):DA K M H (.str x) (.str x)
 |ty (n:qj):DA K M H (.ty n) (.ty n)
 |tup {a:nH} {xs:List V} {ds:List D} (h:SqT K H a xs) (r:Ai K M H xs ds):DA K M H (.ref a) (.tup ds)
 |lst {a:nH} {xs:List V} {ds:List D} (h:H a=Gc (.lst xs)) (n:¬M.mem a) (r:Ai K M H xs ds):DA K M H (.ref a) (.lst ds)
 |scr {a:nH} {ns:List Int} (h:(Rd H a (.lst (ns.map V.int))/\¬M.mem a)\/KL K a (ns.map V.int)):DA K M H (.ref a) (.scr ns)
 |dct {a:nH} {kvs:List (Key×V)} {es:List (Key×D)} (h:H a=Gc (.dK kvs)) (n:¬M.mem a) (r:Bo K M H kvs es):DA K M H (.ref a) (.dct es)
 |ref {a:nH} {n:Nat} (h:M.cel[n]?=Gc a):DA K M H (.ref a) (.ref n)
inductive Ai(K:mx)(M:Ms)(H:Hp):List V->List D->Prop
 |nil:Ai K M H [] []
 |cons {v:V} {d:D} {vs:List V} {ds:List D} (h:DA K M H v d) (t:Ai K M H vs ds):Ai K M H (v::vs) (d::ds)
inductive Bo(K:mx)(M:Ms)(H:Hp):List (Key×V)->List (Key×D)->Prop
 |nil:Bo K M H [] []
 |cons {k:Key} {v:V} {d:D} {vs:List (Key×V)} {ds:List (Key×D)} (h:DA K M H v d) (t:Bo K M H vs ds):Bo K M H ((k,v)::vs) ((k,d)::ds)
end
def MOk(M:Ms)(H:Hp):Prop:=∀a,M.mem a->(∃xs,H a=Gc (.lst xs))\/(∃kvs,H a=Gc (.dK kvs))\/∃ps,H a=Gc (.tbl ps)
structure Sp1(M:Ms)(H:Hp)(M':Ms)(H':Hp):Prop where
 mo:MOk M H
 pre:M.cel <+: M'.cel
 fresh:∀a,M'.mem a->M.mem a\/H a=none
 keep:∀a o,H a=Gc o->¬M.mem a->H' a=Gc o
structure Gr(M:Ms)(H:Hp)(M':Ms)(H':Hp):Prop where
 mo:MOk M H
 pre:M.cel <+: M'.cel
 tmp:M'.tmp=M.tmp
 fresh:∀a,a∈M'.cel->a∈M.cel\/H a=none
 keep:∀a o,H a=Gc o->a∉M.cel->H' a=Gc o
 some:∀a,H a≠none->H' a≠none
section
variable{K:mx}{M M' M2:Ms}{H H' H2:Hp}
theorem MOk.some(mo:MOk M H){a:nH}(h:M.mem a):H a≠none:=λz=>by
 rcases mo a h with⟨xs,e⟩|⟨xs,e⟩|⟨xs,e⟩<;>(rw[e]at z;cases z)
theorem Gr.st(g:Gr M H M' H'):Sp1 M H M' H':=⟨g.mo,g.pre,λa z=>z.elim (λz=>(g.fresh a z).imp .inl id) λz=>.inl (.inr (by rw[<-g.tmp];exact z)),λa o e n=>g.keep a o e λz=>n (.inl z)⟩
theorem Gr.refl(mo:MOk M H):Gr M H M H:=⟨mo,pU,rfl,λ_ z=>.inl z,λ_ _ e _=>e,λ_ e=>e⟩
theorem Gr.none(g:Gr M H M' H'){a:nH}(h:H' a=none):H a=none:=by
 cases e:H a with
 |none=>rfl
 |some o=>exact absurd h (g.some a (by rw[e];intro z;cases z))
theorem Gr.trans(h:Gr M H M' H')(g:Gr M' H' M2 H2):Gr M H M2 H2:=
 ⟨h.mo,h.pre.trans g.pre,g.tmp.trans h.tmp,λa z=>(g.fresh a z).elim (h.fresh a) λz=>.inr (h.none z),λa o e n=>g.keep a o (h.keep a o e n) (λz=>by
   rcases h.fresh a z with z|z
   .exact n z
   .rw[e]at z;cases z),λa e=>g.some a (h.some a e)⟩
theorem Gr.grow(mo:MOk M H)(k:∀a o,H a=Gc o->H' a=Gc o):Gr M H M H':=
 ⟨mo,pU,rfl,λ_ z=>.inl z,λb u eb _=>k b u eb,λb eb z=>by
   cases h:H b with
   |none=>exact eb h
   |some o=>rw[k b o h]at z;cases z⟩
theorem LS{α:Type}{xs ys:List α}(h:xs <+: ys){n:Nat}{a:α}(e:xs[n]?=Gc a):ys[n]?=Gc a:=by
 obtain⟨zs,rfl⟩:=h
 rw[nF (nP.mp e).1]
 exact e
theorem W7{a:nH}{xs:List V}(h:SqT K H a xs)(k:∀b o,H b=Gc o->(∀ys,o≠.lst ys)->(∀ys,o≠.dK ys)->(∀ys,o≠.tbl ys)->H' b=Gc o):SqT K H' a xs:=by
 rcases h with h|h
 .rcases h with h|⟨o,h⟩
  .exact .inl (.inl (k _ _ h (λys z=>by cases z) (λys z=>by cases z) λys z=>by cases z))
  .exact .inl (.inr ⟨o,k _ _ h (λys z=>by cases z) (λys z=>by cases z) λys z=>by cases z⟩)
 .exact .inr h
theorem Sp1.sqT(g:Sp1 M H M' H'){a:nH}{xs:List V}(h:SqT K H a xs):SqT K H' a xs:=W7 h λb o e n1 n2 n3=>g.keep b o e λz=>by
 rcases g.mo b z with⟨ys,q⟩|⟨ys,q⟩|⟨ys,q⟩
 .exact n1 ys (pD (e.symm.trans q))
 .exact n2 ys (pD (e.symm.trans q))
 .exact n3 ys (pD (e.symm.trans q))
theorem Sp1.nm(g:Sp1 M H M' H'){a:nH}{o:HO}(e:H a=Gc o)(n:¬M.mem a):¬M'.mem a:=λz=>by
 rcases g.fresh _ z with z|z
 .exact n z
 .rw[z]at e;cases e
mutual
theorem DA.step(g:Sp1 M H M' H'):∀{v:V} {d:D},DA K M H v d->DA K M' H' v d
 |_,_,.non=>.non
 |_,_,.bl b=>.bl b
 |_,_,.int b=>.int b
 |_,_,.str b=>.str b
 |_,_,.ty b=>.ty b
 |_,_,.tup h r=>.tup (g.sqT h) (Ai.step g r)
 |_,_,.lst (a:=a) (xs:=xs) h n r=>.lst (g.keep _ _ h n) (g.nm h n) (Ai.step g r)
 |_,_,.scr (a:=a) (ns:=ns) h=>by
  rcases h with⟨h,n⟩|h
  .rcases h with h|⟨o,h⟩
   .exact .scr (.inl ⟨.inl (g.keep _ _ h n),g.nm h n⟩)
   .exact .scr (.inl ⟨.inr ⟨o,g.keep _ _ h n⟩,g.nm h n⟩)
  .exact .scr (.inr h)
 |_,_,.dct (a:=a) h n r=>.dct (g.keep _ _ h n) (g.nm h n) (Bo.step g r)
 |_,_,.ref h=>.ref (LS g.pre h)
theorem Ai.step(g:Sp1 M H M' H'):∀{v:List V} {d:List D},Ai K M H v d->Ai K M' H' v d
 |_,_,.nil=>.nil
 |_,_,.cons h t=>.cons (DA.step g h) (Ai.step g t)
theorem Bo.step(g:Sp1 M H M' H'):∀{v:List (Key×V)} {d:List (Key×D)},Bo K M H v d->Bo K M' H' v d
 |_,_,.nil=>.nil
 |_,_,.cons h t=>.cons (DA.step g h) (Bo.step g t)
end
theorem Ai.length:∀{v:List V} {d:List D},Ai K M H v d->v.length=d.length
 |_,_,.nil=>rfl
 |_,_,.cons _ t=>by simp[Ai.length t]
theorem Ai.get:∀{v:List V} {d:List D} {i:Nat} {y:D},Ai K M H v d->d[i]?=Gc y->∃x,v[i]?=Gc x/\DA K M H x y
 |_,_,i,y,.nil,e=>by simp at e
 |_,_,0,y,.cons h t,e=>by simp at e;subst e;exact⟨_,rfl,h⟩
 |_,_,i+1,y,.cons h t,e=>by
  obtain⟨x,h1,h2⟩:=Ai.get (i:=i) t (by simpa using e)
  exact⟨x,by simpa using h1,h2⟩
theorem Ai.append:∀{v v':List V} {d d':List D},Ai K M H v d->Ai K M H v' d'->Ai K M H (v++v') (d++d')
 |_,_,_,_,.nil,s=>s
 |_,_,_,_,.cons h t,s=>.cons h (Ai.append t s)
theorem Ai.take:∀{v:List V} {d:List D} (n:Nat),Ai K M H v d->Ai K M H (v.take n) (d.take n)
 |_,_,0,_=>.nil
 |_,_,_+1,.nil=>.nil
 |_,_,n+1,.cons h t=>.cons h (Ai.take n t)
theorem Ai.drop:∀{v:List V} {d:List D} (n:Nat),Ai K M H v d->Ai K M H (v.drop n) (d.drop n)
 |_,_,0,r=>r
 |_,_,_+1,.nil=>.nil
 |_,_,n+1,.cons _ t=>Ai.drop n t
theorem Ai.set{x:V}{y:D}(r:DA K M H x y):∀{v:List V} {d:List D} (i:Nat),Ai K M H v d->Ai K M H (v.set i x) (d.set i y)
 |_,_,_,.nil=>.nil
 |_,_,0,.cons _ t=>.cons r t
 |_,_,i+1,.cons q t=>.cons q (Ai.set r i t)
end
abbrev En:=List (nB D)
abbrev Sg:=List (nB V)
structure EnR(K:mx)(M:Ms)(E:En)(σ:Sg)(H:Hp):Prop where
 len:E.length=σ.length
 val:∀(i:Nat) (d:D),E[i]?=Gc (Gc d)->∃v,σ[i]?=Gc (Gc v)/\DA K M H v d
noncomputable def lR(x:Str):Str:=(x++(".<locals>.":Str))++("<lambda>":Str)
def ZJ(K:mx)(c P:nH):Prop:=
 ∃o vs file tf flags tg inF text tt,K.lookup c=Gc o/\o.cls=rZ "code" /\o.data=zU vs/\vs[11]?=Gc (oX P)/\vs.getD 11 pz=oX P/\vs.getD 18 pz=ve file tf/\vs.getD 7 pz=tY flags tg/\vs.getD 9 pz=xp inF/\vs.getD 10 pz=tY text tt/\c≠P
def TabAt(K:mx)(x:Str)(P:nH):Prop:=
 ∃f oc od fd osl c,yb K mainGlobals x=Gc (Gc (oX f))/\K.lookup f=Gc ⟨oc,od,Data.func fd,osl⟩/\fd.code=oX c/\ZJ K c P
def dw(q:Str)(o:Obj):Prop:=∃vs t,o.data=zU vs/\vs[1]?=Gc (ve q t)
structure WM(K:mx)(H:Hp)(x:Str)(P:nH)(ps:oH mz):Prop where
 tri:PySem.TriplesOk ps.toList
 tat:TabAt K x P
 cod:∀pos cv,PySem.codeAmong pos ps.toList=Gc cv->∃c o,cv=oX c/\H c=Gc (.frz o (.own 0))/\dw (lR x) o
theorem WM.step{x:Str}{P:nH}{ps:oH mz}{K:mx}{M M':Ms}{H H':Hp}(t:WM K H x P ps)(g:Sp1 M H M' H'):WM K H' x P ps:=⟨t.tri,t.tat,λpos cv e=>by
 obtain⟨c,o,h1,h2,h3⟩:=t.cod pos cv e
 refine⟨c,o,h1,g.keep _ _ h2 λz=>?_,h3⟩
 rcases g.mo c z with⟨ys,q⟩|⟨ys,q⟩|⟨ys,q⟩<;>(rw[h2]at q;cases q)⟩
def cx(K:mx)(M:Ms)(H:Hp)(a:nH):Cl->Prop
 | .lst ds=>∃xs,H a=Gc (.lst xs)/\Ai K M H xs ds
 | .dct es=>∃kvs,H a=Gc (.dK kvs)/\Bo K M H kvs es
 | .tab x=>∃ps,H a=Gc (.tbl ps)/\WM K H x a ps
structure StR(K:mx)(M:Ms)(S:Sto)(H:Hp):Prop where
 mo:MOk M H
 nd:M.cel.Nodup
 nt:∀a∈M.tmp,a∉M.cel
 len:M.cel.length=S.length
 cell:∀(n:Nat) (a:nH) (c:Cl),M.cel[n]?=Gc a->S[n]?=Gc c->cx K M H a c
section
variable{K:mx}{M M' M2:Ms}{H H' H2:Hp}{E:En}{σ:Sg}{S:Sto}
theorem EnR.step(r:EnR K M E σ H)(g:Sp1 M H M' H'):EnR K M' E σ H':=⟨r.len,λi d e=>by
 obtain⟨v,h1,h2⟩:=r.val i d e
 exact⟨v,h1,h2.step g⟩⟩
theorem StR.grow(r:StR K M S H)(k:∀a o,H a=Gc o->H' a=Gc o):StR K M S H':=by
 have g:Sp1 M H M H':=⟨r.mo,pU,λ_ z=>.inl z,λa o e _=>k a o e⟩
 refine⟨λa z=>(r.mo a z).imp (λ⟨xs,e⟩=>⟨xs,k _ _ e⟩) (Or.imp (λ⟨xs,e⟩=>⟨xs,k _ _ e⟩) λ⟨xs,e⟩=>⟨xs,k _ _ e⟩),r.nd,r.nt,r.len,λn a c h1 h2=>?_⟩
 have q:=r.cell n a c h1 h2
 cases c with
 |lst ds=>obtain⟨xs,e,rr⟩:=q;exact⟨xs,k _ _ e,rr.step g⟩
 |dct ds=>obtain⟨xs,e,rr⟩:=q;exact⟨xs,k _ _ e,rr.step g⟩
 |tab ds=>obtain⟨xs,e,rr⟩:=q;exact⟨xs,k _ _ e,rr.step g⟩
theorem StR.chg(r:StR K M S H){n:Nat}{a:nH}{ds es:List D}{ys:List V}(h1:M.cel[n]?=Gc a)(h2:S[n]?=Gc (.lst ds))(hy:Ai K M H ys es):StR K M (S.set n (.lst es)) (upd H a (.lst ys))/\Gr M H M (upd H a (.lst ys)):=by
 have ha:a∈M.cel:=nZ h1
 have hl:n<S.length:=(nP.mp h2).1
 have g:Gr M H M (upd H a (.lst ys)):=⟨r.mo,pU,rfl,λ_ z=>.inl z,λb o eb nb=>by rw[AY (λz=>nb (by rw[z];exact ha))];exact eb,λb eb=>by
  by_cases h:b=a
  .subst h;rw[Ay];intro z;cases z
  .rw[AY h];exact eb⟩
 refine⟨⟨λb z=>?_,r.nd,r.nt,by rw[qZ];exact r.len,λm b c e1 e2=>?_⟩,g⟩
 .by_cases h:b=a
  .subst h;exact .inl ⟨ys,Ay⟩
  .rw[AY h];exact r.mo b z
 .by_cases h:n=m
  .subst h
   rw[h1]at e1;cases e1
   rw[nU hl]at e2;cases e2
   exact⟨ys,Ay,hy.step g.st⟩
  .rw[nI h]at e2
   have hb:b≠a:=λz=>by
    subst z
    exact h ((uC (nP.mp h1).1 r.nd).mp (h1.trans e1.symm))
   have q:=r.cell m b c e1 e2
   cases c with
   |lst fs=>obtain⟨xs,e,rr⟩:=q;exact⟨xs,by rw[AY hb];exact e,rr.step g.st⟩
   |dct fs=>obtain⟨xs,e,rr⟩:=q;exact⟨xs,by rw[AY hb];exact e,rr.step g.st⟩
   |tab fs=>obtain⟨xs,e,rr⟩:=q;exact⟨xs,by rw[AY hb];exact e,rr.step g.st⟩
theorem StR.Z6(r:StR K M S H){a:nH}{xs:List V}{ds:List D}(e:H a=none)(k:∀b o,H b=Gc o->H' b=Gc o)(ea:H' a=Gc (.lst xs))(rr:Ai K M H xs ds):StR K ⟨M.cel++[a],M.tmp⟩ (S++[.lst ds]) H'/\Gr M H ⟨M.cel++[a],M.tmp⟩ H':=by
 have g:Gr M H ⟨M.cel++[a],M.tmp⟩ H':=⟨r.mo,sD _ _,rfl,λb z=>by
  rcases oC.mp z with z|z
  .exact .inl z
  .simp at z;subst z;exact .inr e,λb o eb _=>k b o eb,λb eb z=>by
  cases h:H b with
  |none=>exact eb h
  |some o=>rw[k b o h]at z;cases z⟩
 have na:¬M.mem a:=λz=>r.mo.some z e
 refine⟨⟨λb z=>?_,?_,λb hb z=>?_,by simp[r.len],λm b c e1 e2=>?_⟩,g⟩
 .have z':M.mem b\/b=a:=by
   rcases z with z|z
   .rcases oC.mp z with z|z
    .exact .inl (.inl z)
    .simp at z;exact .inr z
   .exact .inl (.inr z)
  rcases z' with z|z
  .exact(r.mo b z).imp (λ⟨xs,e⟩=>⟨xs,k _ _ e⟩) (Or.imp (λ⟨xs,e⟩=>⟨xs,k _ _ e⟩) λ⟨xs,e⟩=>⟨xs,k _ _ e⟩)
  .subst z;exact .inl ⟨xs,ea⟩
 .rw[sW]
  refine⟨r.nd,by simp,λx hx y hy=>?_⟩
  simp at hy;subst hy
  exact λz=>na (.inl (by rw[<-z];exact hx))
 .rcases oC.mp z with z|z
  .exact r.nt b hb z
  .simp at z;subst z;exact na (.inr hb)
 .by_cases h:m<S.length
  .rw[nF (by rw[r.len];exact h)]at e1
   rw[nF h]at e2
   have q:=r.cell m b c e1 e2
   cases c with
   |lst fs=>obtain⟨xs,e,rr⟩:=q;exact⟨xs,k _ _ e,rr.step g.st⟩
   |dct fs=>obtain⟨xs,e,rr⟩:=q;exact⟨xs,k _ _ e,rr.step g.st⟩
   |tab fs=>obtain⟨xs,e,rr⟩:=q;exact⟨xs,k _ _ e,rr.step g.st⟩
  .have hm:m=S.length:=by
    have:=(nP.mp e2).1
    simp at this;lia
   subst hm
   rw[oP (by rw[r.len];exact nG _)]at e1
   rw[oP (nG _)]at e2
   rw[r.len]at e1
   simp at e1 e2
   subst e1 e2
   exact⟨xs,ea,rr.step g.st⟩
end
abbrev Ev:=En->Sto->nB (D×Sto)
noncomputable def tD(K:mx)(f:Ev):TE:=λσ H Q=>∃M E S d S',f E S=Gc (d,S')/\EnR K M E σ H/\StR K M S H/\∀v H' M',Gr M H M' H'->StR K M' S' H'->DA K M' H' v d->Q v H'
structure DE(X:Cx)(e:oI)(f:Ev):Prop where
 pe:PE X e (tD X.K f)
theorem BI{X:Cx}{e:oI}{t t':TE}(h:PE X e t)(m:∀σ H Q,t' σ H Q->t σ H Q):PE X e t':=λpins s σ H Q I q=>h pins s σ H Q I (m _ _ _ q)
theorem Uw{X:Cx}{e:oI}{t t':TT}(h:PT X e t)(m:∀σ H Q,t' σ H Q->t σ H Q):PT X e t':=λpins s σ H Q I q=>h pins s σ H Q I (m _ _ _ q)
theorem IS{K:mx}{f:Ev}{σ:Sg}{H:Hp}{Q Q':VK}(h:tD K f σ H Q)(m:∀v H',Q v H'->Q' v H'):tD K f σ H Q':=by
 obtain⟨M,E,S,d,S',e,r,st,q⟩:=h
 exact⟨M,E,S,d,S',e,r,st,λv H' M' g s r=>m _ _ (q v H' M' g s r)⟩
theorem Am{α β:Type}{o:nB α}{k:α->nB β}{y:β}(e:o.bind k=Gc y):∃x,o=Gc x/\k x=Gc y:=by
 cases o with
 |none=>cases e
 |some x=>exact⟨x,rfl,e⟩
theorem Iu{α β:Type}{o:nB α}{k:α->β}{y:β}(e:o.map k=Gc y):∃x,o=Gc x/\k x=y:=by
 cases o with
 |none=>cases e
 |some x=>cases e;exact⟨x,rfl,rfl⟩
noncomputable def fz:Wv->D
 | .val d=>d
 | .own ds=>.lst ds
noncomputable def at?(E:En)(i:Nat):nB D:=(E[i]?).join
theorem at?_some{E:En}{i:Nat}{w:D}(h:at? E i=Gc w):E[i]?=Gc (Gc w):=by
 unfold at? at h
 cases e:E[i]? with
 |none=>rw[e]at h;cases h
 |some q=>rw[e]at h;exact congrArg Gc h
noncomputable def evs:List Ev->En->Sto->nB (List D×Sto)
 | [],_,S=>Gc ([],S)
 |f::fs,E,S=>(f E S).bind λr=>(evs fs E r.2).map λq=>(r.1::q.1,q.2)
noncomputable def tDs(K:mx):List Ev->TA
 | []=>j7
 |f::fs=>cm (tD K f) (tDs K fs)
structure DEs(X:Cx)(es:List oI)(fs:List Ev):Prop where
 pe:PA X es (tDs X.K fs)
theorem AF{X:Cx}:DEs X [] []:=⟨TH⟩
theorem AA{X:Cx}{e:oI}{es:List oI}{f:Ev}{fs:List Ev}(h:DE X e f)(t:DEs X es fs)(hs:nv (e::es) X.env=(false,eval e X.env)::nv es X.env:=by rfl):DEs X (e::es) (f::fs):=⟨Nz h.pe t.pe hs⟩
section
variable{K:mx}{M M':Ms}{E:En}{S:Sto}{σ:Sg}{H H':Hp}
theorem HN:∀{fs:List Ev} {M:Ms} {S:Sto} {ds:List D} {S':Sto} {H:Hp} {Q:List V->Hp->Prop},evs fs E S=Gc (ds,S')->EnR K M E σ H->StR K M S H->(∀vs H' M',Gr M H M' H'->StR K M' S' H'->Ai K M' H' vs ds->Q vs H')->tDs K fs σ H Q
 | [],M,S,ds,S',H,Q,e,r,st,q=>by
   cases e
   exact q [] H M (.refl st.mo) st .nil
 |f::fs,M,S,ds,S',H,Q,e,r,st,q=>by
  obtain⟨⟨d,S1⟩,e1,e⟩:=Am e
  obtain⟨⟨es,S2⟩,e2,e⟩:=Iu e
  cases e
  refine⟨M,E,S,d,S1,e1,r,st,λv H1 M1 g1 st1 d1=>?_⟩
  exact HN e2 (r.step g1.st) st1 λvs H2 M2 g2 st2 d2=>q _ _ M2 (g1.trans g2) st2 (.cons (d1.step g2.st) d2)
theorem Pd:∀{fs:List Ev} {S:Sto} {ds:List D} {S':Sto},evs fs E S=Gc (ds,S')->ds.length=fs.length
 | [],_,_,_,e=>by cases e;rfl
 |f::fs,S,ds,S',e=>by
  obtain⟨⟨d,S1⟩,e1,e⟩:=Am e
  obtain⟨⟨es,S2⟩,e2,e⟩:=Iu e
  cases e
  simp[Pd e2]
def Sh(K:mx)(M:Ms)(H:Hp)(v:V):Wv->Prop
 | .val d=>DA K M H v d
 | .own ds=>∃a xs,v=.ref a/\H a=Gc (.lst xs)/\Ai K M H xs ds
inductive Shs(K:mx)(M:Ms)(H:Hp):List V->List Wv->Prop
 |nil:Shs K M H [] []
 |cons {v:V} {w:Wv} {vs:List V} {ws:List Wv} (h:Sh K M H v w) (t:Shs K M H vs ws):Shs K M H (v::vs) (w::ws)
noncomputable def dr(S:Sto):D->Wv
 | .ref n=>match S[n]? with
   |some (.lst ds)=>.own ds
   |_=>.val (.ref n)
 |d=>.val d
theorem aB(st:StR K M S H){v:V}{d:D}(h:DA K M H v d):Sh K M H v (dr S d):=by
 cases h with
 |ref h=>
  rename_i a n
  show Sh K M H (.ref a) (match S[n]? with|some (.lst ds)=>.own ds|_=>.val (.ref n))
  split
  .rename_i ds e
   obtain⟨xs,h1,h2⟩:=st.cell n a _ h e
   exact⟨a,xs,rfl,h1,h2⟩
  .exact .ref h
 |non=>exact .non
 |bl b=>exact .bl b
 |int b=>exact .int b
 |str b=>exact .str b
 |ty b=>exact .ty b
 |tup h r=>exact .tup h r
 |lst h n r=>exact .lst h n r
 |scr h=>exact .scr h
 |dct h n r=>exact .dct h n r
theorem YN(st:StR K M S H):∀{vs:List V} {ds:List D},Ai K M H vs ds->Shs K M H vs (ds.map (dr S))
 |_,_,.nil=>.nil
 |_,_,.cons h t=>.cons (aB st h) (YN st t)
def NwR(K:mx)(M:Ms)(H H':Hp)(v:V):Wv->Prop
 | .val d=>DA K M H' v d
 | .own ds=>∃a xs,v=.ref a/\H a=none/\H' a=Gc (.lst xs)/\Ai K M H xs ds
structure Nw(K:mx)(M:Ms)(H H':Hp)(v:V)(w:Wv):Prop where
 grow:∀a o,H a=Gc o->H' a=Gc o
 rel:NwR K M H H' v w
theorem Nw.same{v:V}{d:D}(mo:MOk M H)(h:DA K M H v d):Nw K M H H v (.val d):=⟨λ_ _ e=>e,h⟩
theorem Fi{a:nH}{o:HO}(e:H a=none):∀b u,H b=Gc u->upd H a o b=Gc u:=λb u eb=>by rw[AY (λz=>by subst z;rw[e]at eb;cases eb)];exact eb
theorem Nw.lst{a:nH}{xs:List V}{ds:List D}(mo:MOk M H)(e:H a=none)(h:Ai K M H xs ds):Nw K M H (upd H a (.lst xs)) (.ref a) (.own ds):=⟨Fi e,a,xs,rfl,e,Ay,h⟩
theorem Nw.tup{a:nH}{xs:List V}{ds:List D}(mo:MOk M H)(e:H a=none)(h:Ai K M H xs ds):Nw K M H (upd H a (.tup xs)) (.ref a) (.val (.tup ds)):=⟨Fi e,.tup (.of Ay) (h.step (Gr.grow mo (Fi e)).st)⟩
noncomputable def fin:oO->Wv->Sto->nB (D×Sto)
 |_,.val d,S=>Gc (d,S)
 |false,.own ds,S=>Gc (.lst ds,S)
 |true,.own ds,S=>Gc (.ref S.length,S++[.lst ds])
theorem Nw.fin{c:oO}{v:V}{w:Wv}{d:D}{S':Sto}(n:Nw K M H H' v w)(st:StR K M S H)(e:fin c w S=Gc (d,S')):∃M',Gr M H M' H'/\StR K M' S' H'/\DA K M' H' v d:=by
 cases w with
 |val d'=>
  cases e
  exact⟨M,.grow st.mo n.grow,st.grow n.grow,n.rel⟩
 |own ds=>
  obtain⟨a,xs,rfl,h1,h2,h3⟩:=n.rel
  cases c with
  |false=>
   cases e
   exact⟨M,.grow st.mo n.grow,st.grow n.grow,.lst h2 (λz=>st.mo.some z h1) (h3.step (Gr.grow st.mo n.grow).st)⟩
  |true=>
   cases e
   obtain⟨s1,g1⟩:=st.Z6 h1 n.grow h2 h3
   refine⟨_,g1,s1,.ref ?_⟩
   rw[<-st.len]
   exact nY
abbrev Op1:=Wv->nB Wv
abbrev Op2:=Wv->Wv->nB Wv
abbrev OpN:=List Wv->nB Wv
noncomputable def rOp(K:mx)(op:Op2):R2:=λx y H Q=>∃M w1 w2 r,op w1 w2=Gc r/\MOk M H/\Sh K M H x w1/\Sh K M H y w2/\∀v H',Nw K M H H' v r->Q v H'
def rUn(K:mx)(op:Op1):V->Hp->VK->Prop:=λx H Q=>∃M w r,op w=Gc r/\MOk M H/\Sh K M H x w/\∀v H',Nw K M H H' v r->Q v H'
def rN(K:mx)(op:OpN):List V->Hp->VK->Prop:=λxs H Q=>∃M ws r,op ws=Gc r/\MOk M H/\Shs K M H xs ws/\∀v H',Nw K M H H' v r->Q v H'
noncomputable def Nc(c:oO)(op:OpN)(fs:List Ev):Ev:=λE S=>(evs fs E S).bind λr=>(op (r.1.map (dr r.2))).bind λw=>fin c w r.2
abbrev eOp:=Nc false
abbrev cN:=Nc true
noncomputable def o1(op:Op1):OpN| [a]=>op a|_=>none
noncomputable def o2(op:Op2):OpN| [a,b]=>op a b|_=>none
theorem Ks{c:oO}{op:OpN}{fs:List Ev}{Q:VK}{d:D}{S':Sto}(e:Nc c op fs E S=Gc (d,S'))(r:EnR K M E σ H)(st:StR K M S H)(h:∀v H' M',Gr M H M' H'->StR K M' S' H'->DA K M' H' v d->Q v H'):tDs K fs σ H λvs H1=>rN K op vs H1 Q:=by
 obtain⟨⟨ds,S1⟩,e1,e⟩:=Am e
 obtain⟨w,e2,e⟩:=Am e
 refine HN e1 r st λvs H1 M1 g1 st1 d1=>⟨M1,_,w,e2,st1.mo,YN st1 d1,λv H2 n=>?_⟩
 obtain⟨M2,g2,st2,d2⟩:=n.fin st1 e
 exact h v H2 M2 (g1.trans g2) st2 d2
end
theorem dN{K:mx}{f:Op2}{x y:V}{H:Hp}{Q:VK}(h:rN K (o2 f) [x,y] H Q):rOp K f x y H Q:=by
 obtain⟨M,ws,r,e,mo,s,q⟩:=h
 cases s with
 |cons h1 s=>
  cases s with
  |cons h2 s=>
   cases s
   exact⟨M,_,_,r,e,mo,h1,h2,q⟩
theorem cI{K:mx}{f:Op1}{x:V}{H:Hp}{Q:VK}(h:rN K (o1 f) [x] H Q):rUn K f x H Q:=by
 obtain⟨M,ws,r,e,mo,s,q⟩:=h
 cases s with
 |cons h1 s=>
  cases s
  exact⟨M,_,r,e,mo,h1,q⟩
theorem RD{K:mx}{c:oO}{f:Op2}{fa fb:Ev}{σ:Sg}{H:Hp}{Q:VK}(h:tD K (Nc c (o2 f) [fa,fb]) σ H Q):tOp (rOp K f) (tD K fa) (tD K fb) σ H Q:=by
 obtain⟨M,E,S,d,S',e,r,st,q⟩:=h
 have z:tD K fa σ H λx H1=>tD K fb σ H1 λy H2=>rN K (o2 f) [x,y] H2 Q:=Ks (Q:=Q) e r st q
 exact IS z λx H1 z1=>IS z1 λy H2 z2=>dN z2
theorem bu{K:mx}{c:oO}{f:Op1}{fa:Ev}{σ:Sg}{H:Hp}{Q:VK}(h:tD K (Nc c (o1 f) [fa]) σ H Q):tUn (rUn K f) (tD K fa) σ H Q:=by
 obtain⟨M,E,S,d,S',e,r,st,q⟩:=h
 have z:tD K fa σ H λx H1=>rN K (o1 f) [x] H1 Q:=Ks (Q:=Q) e r st q
 exact IS z λx H1 z1=>cI z1
section
variable{X:Cx}{a b e:oI}{es:List oI}{fa fb:Ev}{fs:List Ev}{pos p:Pos}{c:oO}
theorem Aj{op:Operator}{f:Op2}(ho:OpR X (binaryOp op) (rOp X.K f))(ha:DE X a fa)(hb:DE X b fb):DE X (.BinOp a op b pos) (Nc c (o2 f) [fa,fb]):=⟨BI (i0 ho ha.pe hb.pe) λ_ _ _ h=>RD h⟩
theorem IJ{op:CmpOp}{f:Op2}(ho:OpR X (compareOp op) (rOp X.K f))(ha:DE X a fa)(hb:DE X b fb)(hm:behindInMarks op b=false:=by rfl):DE X (.Compare a [op] [b] pos) (Nc c (o2 f) [fa,fb]):=⟨BI (Yx ho ha.pe hb.pe hm) λ_ _ _ h=>RD h⟩
theorem Ph{op:UnaryOp}{f:Op1}(ho:UnR X (unaryOp op) (rUn X.K f))(ha:DE X a fa):DE X (.UnaryOp op a pos) (Nc c (o1 f) [fa]):=⟨BI (iP ho ha.pe) λ_ _ _ h=>bu h⟩
theorem AL{f:Op2}(hr:IxR X (rOp X.K f))(ha:DE X a fa)(hb:DE X b fb)(hs:SS b:=by exact λ_ _=>rfl):DE X (.Subscript a b pos) (Nc c (o2 f) [fa,fb]):=⟨BI (je hr ha.pe hb.pe hs) λ_ _ _ h=>RD h⟩
theorem Al{id:qj}{x:Str}{f:OpN}(hc:Dl X (.builtin id) (rN X.K f))(hg:Gl X x)(hm:X.mg x=none)(hv:bootBuiltins x=Gc (.builtin id))(ha:DEs X (e::es) fs)(hn:x≠ "__name__":=by decide)(hdb:(x==("__debug__":Str))=false:=by decide)(he:nv (e::es) X.env=(false,eval e X.env)::nv es X.env:=by rfl)(hpl:(backTo pos (nv es X.env)).any (·.1)=false:=by rfl):DE X (.Call (.Name x p) (e::es) [] pos) (Nc c f fs):=⟨
 BI (WE hc hg hm hv ha.pe hn hdb he hpl) λ_ _ _ h=>by
  obtain⟨M,E,S,d,S',e,r,st,q⟩:=h
  exact Ks e r st q⟩
theorem Bc{T:qj}{x:Str}{f:OpN}(hc:Dl X (.type T) (rN X.K f))(hg:Gl X x)(hm:X.mg x=none)(hv:bootBuiltins x=Gc (.type T))(ha:DEs X (e::es) fs)(hn:x≠ "__name__":=by decide)(hdb:(x==("__debug__":Str))=false:=by decide)(he:nv (e::es) X.env=(false,eval e X.env)::nv es X.env:=by rfl)(hpl:(backTo pos (nv es X.env)).any (·.1)=false:=by rfl):DE X (.Call (.Name x p) (e::es) [] pos) (Nc c f fs):=⟨
 BI (La hc hg hm hv ha.pe hn hdb he hpl) λ_ _ _ h=>by
  obtain⟨M,E,S,d,S',e,r,st,q⟩:=h
  exact Ks e r st q⟩
noncomputable def eC(d:D):Ev:=λ_ S=>Gc (d,S)
theorem Ov{v:V}{d:D}(h:PE X e (tC v))(r:∀K M H,DA K M H v d):DE X e (eC d):=⟨BI h λσ H Q z=>by
 obtain⟨M,E,S,w,S',e,rr,st,q⟩:=z
 cases e
 exact q _ _ M (.refl st.mo) st (r _ _ _)⟩
theorem AG{i:Int}{j:Nat}:DE X (.Constant (.int i) j pos) (eC (.int i)):=Ov dQ λ_ _ _=>.int _
theorem Ui{i:oO}{j:Nat}:DE X (.Constant (.bool i) j pos) (eC (.bl i)):=Ov jF λ_ _ _=>.bl _
theorem A3{i:Str}{j:Nat}:DE X (.Constant (.str i) j pos) (eC (.str i)):=Ov dg λ_ _ _=>.str _
theorem X7{j:Nat}:DE X (.Constant .none j pos) (eC .non):=Ov bF λ_ _ _=>.non
noncomputable def eV(i:Nat):Ev:=λE S=>(at? E i).map λd=>(d,S)
theorem AB(i:Nat){x:Str}(hN:X.N[i]?=Gc x:=by rfl)(hv:Vis X.env.scope x:=by first|exact Or.inl rfl|exact xv (Or.inl rfl)|exact xv (xv rfl))(hd:(x==("__debug__":Str))=false:=by decide)(hcd:(x==("__classdict__":Str))=false:=by decide):DE X (.Name x pos) (eV i):=⟨BI (YM hN hv hd hcd) λσ H Q z=>by
 obtain⟨M,E,S,d,S',e,r,st,q⟩:=z
 obtain⟨d',e1,e⟩:=Iu e
 cases e
 obtain⟨v,hv,rd⟩:=r.val i d (at?_some e1)
 exact⟨v,hv,q v H M (.refl st.mo) st rd⟩⟩
end
theorem G5:fillsNumberSlot (.type "tuple") "mul"=pure false:=
 fillsNumberSlot_seq (id:="tuple.__mul__") (r:=Gc (.builtin "tuple.__rmul__")) uT.lookup (by decide+kernel) yc.lookup (by decide+kernel)
theorem Ju:seqRepeat? (.type "tuple")=pure (Gc (.builtin "tuple.__mul__")):=by
 unfold seqRepeat?
 rw[seqSlot_of (T:="tuple") (name:="__mul__") (id:="tuple.__mul__") uT.lookup (by decide+kernel),seqSlot_of (T:="tuple") (name:="__rmul__") (id:="tuple.__rmul__") yc.lookup (by decide+kernel)]
 rfl
theorem IG(a:Int)(t:Tok)(l:nH)(items:oH mz)(n:Nat)(dd:nB nH)(sl:oH (nB mz)):Meets (qK.«int.__rmul__» ⟨[.int a t,.ref l],[]⟩) (λ_ R s=>s.heap.get? l=Gc {cls:=.type "tuple",dict:=dd,data:=.seq items n,slots:=sl}/\R (.ok (.ret Value.notImplemented)) s):=
 .of_wp λprog w A R s h=>by obtain⟨hp,g,d,tk,os⟩:=s;obtain⟨hl,h⟩:=h;wp_walk;exact⟨_,rfl,h⟩
theorem Uc(its:List mz)(m:Nat):xu (λx1 x2=>x1++x2) #[] (nX m its.toArray)=(nX m its).flatten.toArray:=by
 have:=foldl_rep its m []
 rw[oM]at this
 exact this
theorem Zx{X:Cx}:OpR X (binaryOp .Mult) (λx y H Q=>∃a xs k,x=.ref a/\y=.int k/\SqT X.K H a xs/\xs≠[]/\1<=k/\xs.length*k.toNat<=sizeLine/\(k=1->Q (.ref a) H)/\(k≠1->∀p,H p=none->Q (.ref p) (upd H p (.tup (nX k.toNat xs).flatten)))):=by
 intro pins s σ H x y v u Q I rx ry h
 obtain⟨a,xs,k,rfl,rfl,hx,hne,hk,hz,q1,q2⟩:=h
 cases rx
 obtain⟨t,rfl⟩:=ry
 obtain⟨its,r,⟨⟨c,dd,data,sl⟩,ho,hc,n,hd⟩,hzz⟩:=I.tuple hx
 simp only at hc hd
 subst hc hd
 have hl:=r.length
 have hsz:its.toArray.size=xs.length:=by rw[nQ];exact hl.symm
 have hpos:0<xs.length:=xX.mpr hne
 have hkl:k.toNat<=sizeLine:=nL (Nat.le_mul_of_pos_left _ hpos) hz
 have hk63:k<2^63:=by
  have:(sizeLine:Nat)<2^63:=by decide
  lia
 refine tE (T:="tuple") (U:="int") (by decide) ⟨_,ho,rfl⟩ (λs'=>uS s' k t) G5 wU sL Ju vk.lookup
  (tT sL (uS s k t) vm (vR _ _) (IG k t a its.toArray n dd sl) ⟨ho,rfl,⟨_,ho,rfl⟩,?_⟩)
 refine oW uT ⟨_,ho,rfl⟩ yd ?_ (x8 _ _)
 unfold qK.«tuple.__mul__»
 wp_walk using oA ho
 rw[oE (show¬(decide (k< -2^63)||decide (k≥2^63))=true by
  rw[pq]
  rintro (z|z)
  .have:=nT z;lia
  .have:=nT z;lia)]
 wp_walk using oA ho
 by_cases h1:k=1
 .subst h1
  rw[nh (show(its.toArray.isEmpty||(1:Int)==1)=true by simp)]
  wp_walk using oA ho
  exact⟨_,rfl,.ref a,H,I,rfl,q1 rfl⟩
 .have hemp:its.toArray.isEmpty=false:=by
   cases its with
   |nil=>rw[sN]at hl;lia
   |cons b bs=>rfl
  rw[oE (show¬(its.toArray.isEmpty||k==1)=true by rw[hemp];simpa using h1)]
  wp_walk using oA ho
  have hmul:((its.toArray.size:Int)*k)=((xs.length*k.toNat:Nat):Int):=by
   rw[hsz,wX]
   congr 1
   lia
  rw[oE (show¬(decide (k<=0)||its.toArray.isEmpty)=true by
   rw[hemp,Bool.or_false]
   intro z
   have:=nT z
   lia)]
  wp_walk
  rw[oE (show¬((its.toArray.size:Int)*k>(2^63-1) / 8) by
   rw[hmul]
   have:(sizeLine:Nat)<=(2^63-1) / 8:=by decide
   lia)]
  wp_walk
  rw[oE (show¬vD ((its.toArray.size:Int)*k)=true by
   unfold vD
   rw[hmul]
   intro z
   have:=nT z
   lia)]
  rw[Uc]
  wp_walk
  have hlen:(nX k.toNat its).flatten.length<=sizeLine:=by rw[len_rep,rm,<-hl];exact hz
  rw[oE (show¬((nX k.toNat its).flatten.toArray.size>sizeLine) by rw[nQ];lia)]
  wp_walk
  refine⟨_,rfl,.ref _,_,I.laid (o:=.tup (nX k.toNat xs).flatten) (t':=s.toks) (λb ob q=>my _ q) (nG _) ?_,rfl,q2 h1 _ (I.hok.fresh (nG _))⟩
  exact⟨by rw[len_rep,rm];exact hz,_,r.rep k.toNat,tK _ _⟩
mutual
noncomputable def D.py:D->PyData
 | .non=>.none| .bl b=>.bool b| .int i=>.int i| .str x=>.str x| .ty _=>.none
 | .tup ds=>.tuple (D.pys ds)| .lst ds=>.list (D.pys ds)| .dct _=>.none| .scr _=>.none| .ref _=>.none
noncomputable def D.pys:List D->List PyData
 | []=>[]
 |d::ds=>D.py d::D.pys ds
end
mutual
noncomputable def D.lay:D->oO
 | .non=>true| .bl _=>true| .int _=>true| .str x=>qG x| .ty _=>false| .dct _=>false| .scr _=>false| .ref _=>false
 | .tup ds=>D.Sv ds| .lst ds=>D.Sv ds
noncomputable def D.Sv:List D->oO
 | []=>true
 |d::ds=>D.lay d && D.Sv ds
end
mutual
theorem Jp:∀{d:D},d.lay=true->d.py.canLay0=true
 | .non,_=>rfl
 | .bl _,_=>rfl
 | .int _,_=>rfl
 | .str x,h=>h
 | .ty _,h=>qH h
 | .dct _,h=>qH h
 | .scr _,h=>qH h
 | .ref _,h=>qH h
 | .tup ds,h=>by show uD (D.pys ds)=true;exact Nr h
 | .lst ds,h=>by show uD (D.pys ds)=true;exact Nr h
theorem Nr:∀{ds:List D},D.Sv ds=true->uD (D.pys ds)=true
 | [],_=>rfl
 |d::ds,h=>by
  have h':(D.lay d && D.Sv ds)=true:=h
  rw[nW]at h'
  show(PyData.canLay0 d.py && uD (D.pys ds))=true
  rw[Jp h'.1,Nr h'.2];rfl
end
section
variable{X:Cx}{pins:List (nH×Obj)}{σ:Sg}{H:Hp}{s:m8}{M:Ms}
theorem LW(I:Inv X pins σ H s){a:nH}{xs:List V}(h:Rd H a (.lst xs)):∃its:List mz,Vals xs its/\∃o n,s.heap.get? a=Gc o/\o.cls=.type "list" /\o.data=.seq its.toArray n:=by
 obtain⟨z,its,n,r,e⟩:=h.ok I.hok
 exact⟨its,r,_,n,e,rfl,rfl⟩
mutual
theorem DA.reads(I:Inv X pins σ H s):∀{v:V} {d:D} {u:mz},DA X.K M H v d->RelV v u->d.lay=true->∃as,Reads s.heap u d.py as
 |_,_,_,.non,r,_=>by cases r;exact⟨_,.none⟩
 |_,_,_,.bl b,r,_=>by cases r;exact⟨_,.bool b⟩
 |_,_,_,.int b,r,_=>by obtain⟨t,rfl⟩:=r;exact⟨_,.int b t⟩
 |_,_,_,.str b,r,_=>by obtain⟨t,rfl⟩:=r;exact⟨_,.str b t⟩
 |_,_,_,.ty _,_,h=>qH h
 |_,_,_,.dct _ _ _,_,h=>qH h
 |_,_,_,.ref _,_,h=>qH h
 |_,_,_,.scr _,_,h=>qH h
 |_,_,_,.tup h rs,r,hl=>by
  cases r
  obtain⟨its,rv,⟨o,e,hc,n,hd⟩,_⟩:=I.tuple h
  obtain⟨as,ra⟩:=Ai.reads I rs rv hl
  exact⟨as,.tuple e hc hd ra⟩
 |_,_,_,.lst h _ rs,r,hl=>by
  cases r
  obtain⟨its,rv,o,n,e,hc,hd⟩:=LW I (.inl h)
  obtain⟨as,ra⟩:=Ai.reads I rs rv hl
  exact⟨_,.list e hc hd ra⟩
theorem Ai.reads(I:Inv X pins σ H s):∀{vs:List V} {ds:List D} {us:List mz},Ai X.K M H vs ds->Vals vs us->D.Sv ds=true->∃as,ReadsAll s.heap us (D.pys ds) as
 |_,_,_,.nil,r,_=>by cases r;exact⟨_,.nil⟩
 |_,_,_,.cons (d:=d) (ds:=ds) h t,r,hl=>by
  cases r with
  |cons r1 r2=>
   have hl':(D.lay d && D.Sv ds)=true:=hl
   rw[nW]at hl'
   obtain⟨as,ra⟩:=DA.reads I h r1 hl'.1
   obtain⟨bs,rb⟩:=Ai.reads I t r2 hl'.2
   exact⟨_,.cons ra rb⟩
end
end
noncomputable def deq(a b:D):oO:=PyData.eqv a.py b.py
noncomputable def EB(a b:D):oO:=a.lay && b.lay && decide (min a.py.depth b.py.depth<=60)
noncomputable def wEq:Op2:=λa b=>if EB (fz a) (fz b)=true then Gc (.val (.bl (deq (fz a) (fz b))))else none
noncomputable def wNe:Op2:=λa b=>if EB (fz a) (fz b)=true then Gc (.val (.bl (!deq (fz a) (fz b))))else none
section
variable{X:Cx}
theorem Sh.reads{pins:List (nH×Obj)}{σ:Sg}{H:Hp}{s:m8}{M:Ms}{v:V}{u:mz}{w:Wv}(h:Sh X.K M H v w)(I:Inv X pins σ H s)(r:RelV v u)(hl:(fz w).lay=true):∃as,Reads s.heap u (fz w).py as:=by
 cases w with
 |val d=>exact DA.reads I h r hl
 |own ds=>
  obtain⟨a,xs,rfl,h1,h2⟩:=h
  cases r
  obtain⟨its,rv,o,n,e,hc,hd⟩:=LW I (.inl h1)
  obtain⟨as,ra⟩:=Ai.reads I h2 rv hl
  exact⟨_,.list e hc hd ra⟩
theorem Bm(hu:X.A.units+100<cLine):OpR X (compareOp .Eq) (rOp X.K wEq):=by
 intro pins s σ H x y v u Q I rx ry h
 obtain⟨M,w1,w2,r,e,mo,s1,s2,q⟩:=h
 unfold wEq at e
 split at e
 .rename_i hk
  unfold EB at hk
  rw[nW,nW]at hk
  cases e
  obtain⟨as,ra⟩:=s1.reads I rx hk.1.1
  obtain⟨bs,rb⟩:=s2.reads I ry hk.1.2
  have hd:=nT hk.2
  exact SeqAt.compareEq_reads ra rb (Jp hk.1.1) (Jp hk.1.2) (by omega) ⟨.bl _,H,I,rfl,q _ _ (.same mo (.bl _))⟩
 .cases e
theorem HK(hu:X.A.units+100<cLine):OpR X (compareOp .NotEq) (rOp X.K wNe):=by
 intro pins s σ H x y v u Q I rx ry h
 obtain⟨M,w1,w2,r,e,mo,s1,s2,q⟩:=h
 unfold wNe at e
 split at e
 .rename_i hk
  unfold EB at hk
  rw[nW,nW]at hk
  cases e
  obtain⟨as,ra⟩:=s1.reads I rx hk.1.1
  obtain⟨bs,rb⟩:=s2.reads I ry hk.1.2
  have hd:=nT hk.2
  exact SeqAt.compareNe_reads ra rb (Jp hk.1.1) (Jp hk.1.2) (by omega) ⟨.bl _,H,I,rfl,q _ _ (.same mo (.bl _))⟩
 .cases e
noncomputable def wI2(f:Int->Int->nB D):Op2
 | .val (.int i),.val (.int j)=>(f i j).map .val
 |_,_=>none
theorem Qr{g:mz->mz->Sem mz}{C:Int->Int->Prop}{h:Int->Int->V}{f:Int->Int->nB D}(o:OpR X g (rI C h))(hf:∀i j d,f i j=Gc d->C i j/\∀K M H,DA K M H (h i j) d):OpR X g (rOp X.K (wI2 f)):=by
 intro pins s σ H x y v u Q I rx ry hh
 obtain⟨M,w1,w2,r,e,mo,s1,s2,q⟩:=hh
 unfold wI2 at e
 split at e
 .cases s1
  cases s2
  rename_i i j
  cases e1:f i j with
  |none=>rw[e1]at e;cases e
  |some d=>
   rw[e1]at e
   cases e
   obtain⟨c,rd⟩:=hf i j d e1
   exact o pins s σ H _ _ v u Q I rx ry ⟨i,j,rfl,rfl,c,q _ _ (.same mo (rd _ _ _))⟩
 .cases e
theorem K0{g:mz->mz->Sem mz}{h:Int->Int->V}{f:Int->Int->nB D}(o:OpR X g (rI0 h))(hf:∀i j d,f i j=Gc d->∀K M H,DA K M H (h i j) d):OpR X g (rOp X.K (wI2 f)):=by
 intro pins s σ H x y v u Q I rx ry hh
 obtain⟨M,w1,w2,r,e,mo,s1,s2,q⟩:=hh
 unfold wI2 at e
 split at e
 .cases s1
  cases s2
  rename_i i j
  cases e1:f i j with
  |none=>rw[e1]at e;cases e
  |some d=>
   rw[e1]at e
   cases e
   exact o pins s σ H _ _ v u Q I rx ry ⟨i,j,rfl,rfl,q _ _ (.same mo (hf i j d e1 _ _ _))⟩
 .cases e
noncomputable def R6:Op2:=wI2 λi j=>Gc (.int (i-j))
noncomputable def YR:Nat:=2^60000
noncomputable def Fg:Nat:=2^8000
noncomputable def D5(i j:Int):oO:=decide (i.natAbs<2^64)||(decide (j.natAbs<2^64)||(decide (i.natAbs<YR) && decide (j.natAbs<YR)))
theorem ZG:OpR X (binaryOp .Mult) (rI (λi j=>D5 i j=true) λi j=>.int (i*j)):=by
 intro pins s σ H x y v u Q I rx ry h
 obtain⟨i,j,rfl,rfl,hk,q⟩:=h
 unfold D5 at hk
 rw[pq,pq,nW]at hk
 rcases hk with hk|hk|hk
 .have:=nT hk
  exact YH pins s σ H _ _ v u Q I rx ry ⟨i,j,rfl,rfl,.inl ⟨by omega,by omega⟩,q⟩
 .have:=nT hk
  exact YH pins s σ H _ _ v u Q I rx ry ⟨i,j,rfl,rfl,.inr ⟨by omega,by omega⟩,q⟩
 .have h1:i.natAbs<2^60000:=nT hk.1
  have h2:j.natAbs<2^60000:=nT hk.2
  obtain⟨t1,rfl⟩:=rx
  obtain⟨t2,rfl⟩:=ry
  exact PyProof.Rows.mul_int ⟨.int _,H,I.tok _,⟨_,rfl⟩,q⟩ (PyProof.Rows.mulOk_of_bits (m:=60000) (n:=60000) (xF.mpr h1) (xF.mpr h2) (by decide))
noncomputable def cw:Op2:=wI2 λi j=>if D5 i j=true then Gc (.int (i*j))else none
noncomputable def OA:Op2:=wI2 λi j=>if(decide (0<j) && decide (j.natAbs<Fg))=true then Gc (.int (i / j))else none
noncomputable def Pa:Op2:=wI2 λi j=>if 0<j then Gc (.int (i % j))else none
noncomputable def fI:Op2:=wI2 λi j=>if(decide (0<=j) && decide (j<=1000) && decide (i.natAbs<2^64))=true then Gc (.int (i^j.toNat))else none
noncomputable def wLt:Op2:=wI2 λi j=>Gc (.bl (decide (i<j)))
noncomputable def wLe:Op2:=wI2 λi j=>Gc (.bl (decide (i<=j)))
noncomputable def wGt:Op2:=wI2 λi j=>Gc (.bl (decide (j<i)))
noncomputable def wGe:Op2:=wI2 λi j=>Gc (.bl (decide (j<=i)))
theorem HL:OpR X (binaryOp .Sub) (rOp X.K R6):=K0 cK λi j d e K M H=>by cases e;exact .int _
theorem Y4:OpR X (binaryOp .Mult) (rOp X.K cw):=Qr ZG λi j d e=>by
 split at e
 .rename_i hk
  cases e
  exact⟨hk,λ_ _ _=>.int _⟩
 .cases e
theorem GU:OpR X (binaryOp .FloorDiv) (rOp X.K OA):=Qr St.WG λi j d e=>by
 split at e
 .rename_i hk
  rw[nW]at hk
  cases e
  exact⟨⟨nT hk.1,nT hk.2⟩,λ_ _ _=>.int _⟩
 .cases e
theorem Fs:OpR X (binaryOp .Mod) (rOp X.K Pa):=Qr eF λi j d e=>by
 split at e
 .rename_i hk
  cases e
  exact⟨hk,λ_ _ _=>.int _⟩
 .cases e
theorem Tz:OpR X (binaryOp .Pow) (rOp X.K fI):=Qr dC λi j d e=>by
 split at e
 .rename_i hk
  rw[nW,nW]at hk
  cases e
  have:=nT hk.1.2
  exact⟨⟨nT hk.1.1,by omega,nT hk.2⟩,λ_ _ _=>.int _⟩
 .cases e
theorem MK:OpR X (compareOp .Lt) (rOp X.K wLt):=K0 hV λi j d e K M H=>by cases e;exact .bl _
theorem bp:OpR X (compareOp .LtE) (rOp X.K wLe):=K0 ic λi j d e K M H=>by cases e;exact .bl _
theorem MS:OpR X (compareOp .Gt) (rOp X.K wGt):=K0 ip λi j d e K M H=>by cases e;exact .bl _
theorem Tu:OpR X (compareOp .GtE) (rOp X.K wGe):=K0 iV λi j d e K M H=>by cases e;exact .bl _
noncomputable def asL:Wv->nB (List D)
 | .own ds=>Gc ds
 | .val (.lst ds)=>Gc ds
 |_=>none
noncomputable def asT:Wv->nB (List D)
 | .val (.tup ds)=>Gc ds
 |_=>none
noncomputable def asC:Wv->nB (List D)
 | .val (.scr ns)=>Gc (ns.map .int)
 |_=>none
noncomputable def asS(w:Wv):nB (List D):=(asL w).or ((asT w).or (asC w))
section
variable{K:mx}{M:Ms}{H:Hp}{v:V}{w:Wv}{ds:List D}
theorem Sh.l(h:Sh K M H v w)(e:asL w=Gc ds):∃a xs,v=.ref a/\H a=Gc (.lst xs)/\Ai K M H xs ds:=by
 cases w with
 |own es=>cases e;obtain⟨a,xs,rfl,h1,h2⟩:=h;exact⟨a,xs,rfl,h1,h2⟩
 |val d=>
  cases d<;>first|(cases e;done)|skip
  cases e
  cases h with
  |lst h n r=>exact⟨_,_,rfl,h,r⟩
theorem Sh.t(h:Sh K M H v w)(e:asT w=Gc ds):∃a xs,v=.ref a/\SqT K H a xs/\Ai K M H xs ds:=by
 cases w with
 |own es=>cases e
 |val d=>
  cases d<;>first|(cases e;done)|skip
  cases e
  cases h with
  |tup h r=>exact⟨_,_,rfl,h,r⟩
theorem Gi:∀{ns:List Int},Ai K M H (ns.map V.int) (ns.map D.int)
 | []=>.nil
 |n::ns=>.cons (.int n) Gi
theorem Sh.c(h:Sh K M H v w)(e:asC w=Gc ds):∃a xs,v=.ref a/\SqL K H a xs/\Ai K M H xs ds:=by
 cases w with
 |own es=>cases e
 |val d=>
  cases d<;>first|(cases e;done)|skip
  cases e
  cases h with
  |scr h=>
   refine⟨_,_,rfl,?_,Gi⟩
   rcases h with h|h
   .exact .inl h.1
   .exact .inr h
theorem Sh.s(h:Sh K M H v w)(e:asS w=Gc ds):∃a xs,v=.ref a/\(SqL K H a xs\/SqT K H a xs)/\Ai K M H xs ds:=by
 unfold asS at e
 cases e1:asL w with
 |some es=>
  rw[e1]at e
  cases e
  obtain⟨a,xs,h1,h2,h3⟩:=h.l e1
  exact⟨a,xs,h1,.inl (.of h2),h3⟩
 |none=>
  rw[e1]at e
  cases e2:asT w with
  |some es=>
   rw[e2]at e
   cases e
   obtain⟨a,xs,h1,h2,h3⟩:=h.t e2
   exact⟨a,xs,h1,.inr h2,h3⟩
  |none=>
   rw[e2]at e
   obtain⟨a,xs,h1,h2,h3⟩:=h.c e
   exact⟨a,xs,h1,.inl h2,h3⟩
end
noncomputable def Gu:Op1:=λw=>match w with
 | .val (.str z)=>if z.length<=sizeLine then Gc (.val (.int z.length))else none
 |_=>(asS w).map λds=>.val (.int ds.length)
theorem BQ:Dl X (.builtin "len") (rN X.K (o1 Gu)):=by
 intro pins s σ H xs us Q I r h
 obtain⟨M,ws,w,e,mo,sh,q⟩:=h
 cases sh with
 |nil=>cases e
 |cons h1 t=>
  cases t with
  |cons h2 t=>cases e
  |nil=>
   rename_i v w1
   have e':Gu w1=Gc w:=e
   unfold Gu at e'
   split at e'
   .split at e'
    .rename_i z hz
     cases e'
     cases h1
     exact OX pins s σ H _ us Q I r ⟨z,rfl,hz,q _ _ (.same mo (.int _))⟩
    .cases e'
   .cases e1:asS w1 with
    |none=>rw[e1]at e';cases e'
    |some ds=>
     rw[e1]at e'
     cases e'
     obtain⟨a,ys,rfl,h3,h4⟩:=h1.s e1
     refine Oz pins s σ H _ us Q I r ⟨a,ys,rfl,h3,q _ _ ?_⟩
     rw[h4.length]
     exact .same mo (.int _)
noncomputable def wIx:Op2:=λa b=>match a,b with
 |a,.val (.int i)=>(asS a).bind λds=>(atI ds i).map .val
 |_,_=>none
theorem Zz{K:mx}{M:Ms}{H:Hp}{xs:List V}{ds:List D}{i:Int}{d:D}(h:Ai K M H xs ds)(e:atI ds i=Gc d):∃x,atI xs i=Gc x/\DA K M H x d:=by
 unfold atI at e⊢
 rw[h.length]
 cases e1:ixN ds.length i with
 |none=>rw[e1]at e;cases e
 |some j=>
  rw[e1]at e
  exact h.get e
theorem AZ:IxR X (rOp X.K wIx):=by
 intro value slice pins s σ H x y v u Q I rx ry h hs
 obtain⟨M,w1,w2,r,e,mo,s1,s2,q⟩:=h
 unfold wIx at e
 split at e
 .rename_i i
  cases e1:asS w1 with
  |none=>rw[e1]at e;cases e
  |some ds=>
   rw[e1]at e
   simp only[uU]at e
   cases e2:atI ds i with
   |none=>rw[e2]at e;cases e
   |some d=>
    rw[e2]at e
    cases e
    cases s2
    obtain⟨a,ys,rfl,h3,h4⟩:=s1.s e1
    obtain⟨z,h5,h6⟩:=Zz h4 e2
    rcases h3 with h3|h3
    .exact Zp value slice pins s σ H _ _ v u Q I rx ry ⟨a,ys,i,z,rfl,rfl,h3,h5,q _ _ (.same mo h6)⟩ hs
    .exact bW value slice pins s σ H _ _ v u Q I rx ry ⟨a,ys,i,z,rfl,rfl,h3,h5,q _ _ (.same mo h6)⟩ hs
 .cases e
end
section
variable{X:Cx}
noncomputable def Dt:Op2:=λa b=>match a,b with
 | .val (.int i),.val (.int j)=>Gc (.val (.int (i+j)))
 | .val (.str x),.val (.str y)=>if x.length+y.length<=sizeLine then Gc (.val (.str (x++y)))else none
 | .val (.tup xs),.val (.tup ys)=>if xs.length+ys.length<=sizeLine then Gc (.val (.tup (xs++ys)))else none
 |a,b=>(asL a).bind λxs=>(asL b).bind λys=>if xs.length+ys.length<=sizeLine then Gc (.own (xs++ys))else none
theorem An:OpR X (binaryOp .Add) (rOp X.K Dt):=by
 intro pins s σ H x y v u Q I rx ry h
 obtain⟨M,w1,w2,r,e,mo,s1,s2,q⟩:=h
 unfold Dt at e
 split at e
 .cases e
  cases s1;cases s2
  exact c8 pins s σ H _ _ v u Q I rx ry ⟨_,_,rfl,rfl,q _ _ (.same mo (.int _))⟩
 .split at e
  .cases e
   cases s1;cases s2
   exact RO pins s σ H _ _ v u Q I rx ry ⟨_,_,rfl,rfl,by assumption,q _ _ (.same mo (.str _))⟩
  .cases e
 .split at e
  .rename_i xs ys hz
   cases e
   cases s1 with
   |tup h1 r1=>
    cases s2 with
    |tup h2 r2=>
     rename_i a xs' b ys'
     have l1:=r1.length
     have l2:=r2.length
     by_cases hx:xs'=[]
     .subst hx
      cases r1
      refine St.aX pins s σ H _ _ v u Q I rx ry ⟨_,_,_,rfl,rfl,h1,h2,q _ _ (.same mo ?_)⟩
      exact .tup h2 r2
     .refine Zf pins s σ H _ _ v u Q I rx ry ⟨_,_,_,_,rfl,rfl,h1,h2,hx,by lia,λz=>?_,λ_ p hp=>q _ _ (.tup mo hp (r1.append r2))⟩
      subst z
      cases r2
      rw[uh]at q
      exact q _ _ (.same mo (.tup h1 r1))
  .cases e
 .cases e1:asL w1 with
  |none=>rw[e1]at e;cases e
  |some xs=>
   rw[e1]at e
   cases e2:asL w2 with
   |none=>rw[e2]at e;cases e
   |some ys=>
    rw[e2]at e
    simp only[uU]at e
    split at e
    .rename_i hz
     cases e
     obtain⟨a,xs',rfl,h1,r1⟩:=s1.l e1
     obtain⟨b,ys',rfl,h2,r2⟩:=s2.l e2
     have l1:=r1.length
     have l2:=r2.length
     exact dJ pins s σ H _ _ v u Q I rx ry ⟨a,b,xs',ys',rfl,rfl,h1,h2,by lia,λp hp=>q _ _ (.lst mo hp (r1.append r2))⟩
    .cases e
noncomputable def gY:Op2:=λa b=>match a,b with
 | .val (.int i),.val (.int j)=>if D5 i j=true then Gc (.val (.int (i*j)))else none
 | .val (.tup xs),.val (.int k)=>if(!xs.isEmpty && decide (1<=k) && decide (xs.length*k.toNat<=sizeLine))=true then Gc (.val (.tup (nX k.toNat xs).flatten))else none
 |a,.val (.int k)=>(asL a).bind λxs=>if(decide (k<2^63) && decide (-(2^63)<=k) && decide (xs.length*k.toNat<=sizeLine))=true then Gc (.own (nX k.toNat xs).flatten)else none
 |_,_=>none
theorem Ai.rep{K:mx}{M:Ms}{H:Hp}{xs:List V}{ds:List D}(h:Ai K M H xs ds):∀n:Nat,Ai K M H (nX n xs).flatten (nX n ds).flatten
 |0=>.nil
 |n+1=>by
  rw[pS,pS,rA,rA]
  exact h.append (Ai.rep h n)
theorem SK:OpR X (binaryOp .Mult) (rOp X.K gY):=by
 intro pins s σ H x y v u Q I rx ry h
 obtain⟨M,w1,w2,r,e,mo,s1,s2,q⟩:=h
 unfold gY at e
 split at e
 .rename_i i j
  refine Y4 pins s σ H x y v u Q I rx ry ⟨M,_,_,r,?_,mo,s1,s2,q⟩
  unfold cw wI2
  show x9 Wv.val (if D5 i j=true then Gc (D.int (i*j))else none)=Gc r
  split at e
  .rename_i hk
   rw[nh hk]
   exact e
  .cases e
 .rename_i xs k
  split at e
  .rename_i hk
   rw[nW,nW]at hk
   cases e
   cases s2
   cases s1 with
   | @tup a ys _ h1 r1=>
     have l1:=r1.length
     have z:=nT hk.2
     have hk1:=nT hk.1.2
     have hne:ys≠[]:=λzz=>by
      subst zz
      cases r1
      exact absurd hk.1.1 (by decide)
     refine Zx pins s σ H _ _ v u Q I rx ry ⟨a,ys,k,rfl,rfl,h1,hne,hk1,by rw[l1];exact z,λe1=>?_,λ_ p hp=>q _ _ (.tup mo hp (r1.rep _))⟩
     subst e1
     have:(nX (1:Int).toNat xs).flatten=xs:=by simp
     rw[this]at q
     exact q _ _ (.same mo (.tup h1 r1))
  .cases e
 .rename_i k hn hn2
  cases e1:asL w1 with
  |none=>rw[e1]at e;cases e
  |some xs=>
   rw[e1]at e
   simp only[uU]at e
   split at e
   .rename_i hk
    rw[nW,nW]at hk
    cases e
    cases s2
    obtain⟨a,xs',rfl,h1,r1⟩:=s1.l e1
    have l1:=r1.length
    have z:=nT hk.2
    exact eD pins s σ H _ _ v u Q I rx ry ⟨a,k,xs',rfl,rfl,h1,nT hk.1.2,nT hk.1.1,by rw[l1];exact z,λp hp=>q _ _ (.lst mo hp (r1.rep _))⟩
   .cases e
 .cases e
noncomputable def R3:Op1
 | .val (.int i)=>Gc (.val (.int (-i)))
 |_=>none
theorem Ib:UnR X (unaryOp .USub) (rUn X.K R3):=by
 intro pins s σ H x v Q I rx h
 obtain⟨M,w,r,e,mo,s1,q⟩:=h
 unfold R3 at e
 split at e
 .cases e
  cases s1
  exact eL pins s σ H _ v Q I rx ⟨_,rfl,q _ _ (.same mo (.int _))⟩
 .cases e
noncomputable def Ih:D->oO
 | .non=>true| .bl _=>true| .int _=>true| .str _=>true
 |_=>false
theorem Sh.flat{K:mx}{M:Ms}{H:Hp}{v:V}{w:Wv}(h:Sh K M H v w)(f:Ih (fz w)=true):DA K M H v (fz w):=by
 cases w with
 |val d=>exact h
 |own ds=>cases f
noncomputable def inD(x:D)(xs:List D):oO:=xs.any λy=>deq y x
theorem Qy{K:mx}{M:Ms}{H:Hp}{v:V}{d:D}(h:DA K M H v d)(f:Ih d=true):MA v=true:=by
 cases h<;>first|rfl|cases f
theorem Y3{K:mx}{M:Ms}{H:Hp}{v u:V}{d e:D}(h:DA K M H v d)(g:DA K M H u e)(f:Ih d=true)(f':Ih e=true):eqV v u=deq d e:=by
 cases h<;>first|(cases f;done)|skip
 all_goals (cases g<;>first|(cases f';done)|rfl)
theorem Ol{K:mx}{M:Ms}{H:Hp}:∀{vs:List V} {ds:List D},Ai K M H vs ds->ds.all Ih=true->vs.all MA=true
 |_,_,.nil,_=>rfl
 |_,_,.cons h t,f=>by
  rw[uX,nW]at f⊢
  exact⟨Qy h f.1,Ol t f.2⟩
theorem U2{K:mx}{M:Ms}{H:Hp}{u:V}{e:D}(g:DA K M H u e)(f':Ih e=true):∀{vs:List V} {ds:List D},Ai K M H vs ds->ds.all Ih=true->inV u vs=inD e ds
 |_,_,.nil,_=>rfl
 |_,_,.cons h t,f=>by
  rw[uX,nW]at f
  have ih:=U2 g f' t f.2
  unfold inV inD at ih⊢
  rw[qi,qi,ih,Y3 h g f.1 f']
noncomputable def wIn(neg:oO):Op2:=λa b=>(asS b).bind λds=>if(Ih (fz a) && ds.all Ih)=true then Gc (.val (.bl (if neg then !inD (fz a) ds else inD (fz a) ds)))else none
theorem Yi{M:Ms}{H:Hp}{x y:V}{w1 w2 r:Wv}{neg:oO}{Q:VK}(e:wIn neg w1 w2=Gc r)(mo:MOk M H)(s1:Sh X.K M H x w1)(s2:Sh X.K M H y w2)(q:∀v H',Nw X.K M H H' v r->Q v H'):rIn X.K neg x y H Q:=by
 unfold wIn at e
 cases e1:asS w2 with
 |none=>rw[e1]at e;cases e
 |some ds=>
  rw[e1]at e
  simp only[uU]at e
  split at e
  .rename_i hk
   rw[nW]at hk
   cases e
   obtain⟨a,xs,rfl,h3,h4⟩:=s2.s e1
   have g1:=s1.flat hk.1
   refine⟨a,xs,rfl,h3,Qy g1 hk.1,Ol h4 hk.2,?_⟩
   rw[U2 g1 hk.1 h4 hk.2]
   exact q _ _ (.same mo (.bl _))
  .cases e
theorem Hc:OpR X (compareOp .In) (rOp X.K (wIn false)):=by
 intro pins s σ H x y v u Q I rx ry h
 obtain⟨M,w1,w2,r,e,mo,s1,s2,q⟩:=h
 exact TM pins s σ H _ _ v u Q I rx ry (Yi e mo s1 s2 q)
theorem Oe:OpR X (compareOp .NotIn) (rOp X.K (wIn true)):=by
 intro pins s σ H x y v u Q I rx ry h
 obtain⟨M,w1,w2,r,e,mo,s1,s2,q⟩:=h
 exact PL pins s σ H _ _ v u Q I rx ry (Yi e mo s1 s2 q)
noncomputable def isN:Wv->oO
 | .val .non=>true
 |_=>false
noncomputable def fQ(neg:oO):Op2:=λa b=>match b with
 | .val .non=>Gc (.val (.bl (if neg then !isN a else isN a)))
 |_=>none
theorem Z2{K:mx}{M:Ms}{H:Hp}{x:V}{w:Wv}(s:Sh K M H x w):decide (x=.non)=isN w:=by
 cases w with
 |own ds=>obtain⟨a,xs,rfl,_⟩:=s;rfl
 |val d=>cases s<;>rfl
theorem XN:OpR X (compareOp .IsNot) (rOp X.K (fQ true)):=by
 intro pins s σ H x y v u Q I rx ry h
 obtain⟨M,w1,w2,r,e,mo,s1,s2,q⟩:=h
 unfold fQ at e
 split at e
 .cases e
  cases s2
  refine Zn pins s σ H _ _ v u Q I rx ry ⟨rfl,?_⟩
  rw[Z2 s1]
  exact q _ _ (.same mo (.bl _))
 .cases e
theorem GY{K:mx}{M:Ms}{H:Hp}{xs:List V}{ws:List Wv}{f:Op1}{r:Wv}(h:Shs K M H xs ws)(e:o1 f ws=Gc r):∃v w,xs=[v]/\ws=[w]/\Sh K M H v w/\f w=Gc r:=by
 cases h with
 |nil=>cases e
 |cons h1 t=>
  cases t with
  |cons h2 t=>cases e
  |nil=>exact⟨_,_,rfl,rfl,h1,e⟩
theorem Py{K:mx}{M:Ms}{H:Hp}{xs:List V}{ws:List Wv}{f:Op2}{r:Wv}(h:Shs K M H xs ws)(e:o2 f ws=Gc r):∃v w v' w',xs=[v,v']/\ws=[w,w']/\Sh K M H v w/\Sh K M H v' w'/\f w w'=Gc r:=by
 cases h with
 |nil=>cases e
 |cons h1 t=>
  cases t with
  |nil=>cases e
  |cons h2 t=>
   cases t with
   |cons h3 t=>cases e
   |nil=>exact⟨_,_,_,_,rfl,rfl,h1,h2,e⟩
noncomputable def bB:Op1
 | .val (.int i)=>Gc (.val (.int (if i<0 then-i else i)))
 |_=>none
theorem Kz:Dl X (.builtin "abs") (rN X.K (o1 bB)):=by
 intro pins s σ H xs us Q I r h
 obtain⟨M,ws,w,e,mo,sh,q⟩:=h
 obtain⟨v,w1,rfl,rfl,s1,e1⟩:=GY sh e
 unfold bB at e1
 split at e1
 .cases e1
  cases s1
  exact XY pins s σ H _ us Q I r ⟨_,rfl,q _ _ (.same mo (.int _))⟩
 .cases e1
noncomputable def gP:Op2:=wI2 λi j=>Gc (.int (if j>i then j else i))
noncomputable def az:Op2:=wI2 λi j=>Gc (.int (if j<i then j else i))
theorem Qw{f:Int->Int->nB D}{a b r:Wv}(e:wI2 f a b=Gc r):∃i j d,a=.val (.int i)/\b=.val (.int j)/\f i j=Gc d/\r=.val d:=by
 unfold wI2 at e
 split at e
 .rename_i i j
  cases e1:f i j with
  |none=>rw[e1]at e;cases e
  |some d=>rw[e1]at e;cases e;exact⟨i,j,d,rfl,rfl,e1,rfl⟩
 .cases e
theorem U1(hc:X.calm=true):Dl X (.builtin "max") (rN X.K (o2 gP)):=by
 intro pins s σ H xs us Q I r h
 obtain⟨M,ws,w,e,mo,sh,q⟩:=h
 obtain⟨v,w1,v',w2,rfl,rfl,s1,s2,e1⟩:=Py sh e
 obtain⟨i,j,d,rfl,rfl,e2,rfl⟩:=Qw e1
 cases e2;cases s1;cases s2
 exact Uz hc pins s σ H _ us Q I r ⟨_,_,rfl,q _ _ (.same mo (.int _))⟩
theorem Ou(hc:X.calm=true):Dl X (.builtin "min") (rN X.K (o2 az)):=by
 intro pins s σ H xs us Q I r h
 obtain⟨M,ws,w,e,mo,sh,q⟩:=h
 obtain⟨v,w1,v',w2,rfl,rfl,s1,s2,e1⟩:=Py sh e
 obtain⟨i,j,d,rfl,rfl,e2,rfl⟩:=Qw e1
 cases e2;cases s1;cases s2
 exact UQ hc pins s σ H _ us Q I r ⟨_,_,rfl,q _ _ (.same mo (.int _))⟩
noncomputable def Fd:Op1:=λw=>(asS w).map λds=>.val (.tup ds)
theorem Bn:Dl X (.type "tuple") (rN X.K (o1 Fd)):=by
 intro pins s σ H xs us Q I r h
 obtain⟨M,ws,w,e,mo,sh,q⟩:=h
 obtain⟨v,w1,rfl,rfl,s1,e1⟩:=GY sh e
 unfold Fd at e1
 cases e2:asS w1 with
 |none=>rw[e2]at e1;cases e1
 |some ds=>
  rw[e2]at e1
  cases e1
  obtain⟨a,ys,rfl,h3,h4⟩:=s1.s e2
  refine Mz pins s σ H _ us Q I r ⟨a,ys,rfl,?_⟩
  rcases h3 with h3|h3
  .exact .inl ⟨h3,λl hl=>q _ _ (.tup mo hl h4)⟩
  .exact .inr ⟨h3,q _ _ (.same mo (.tup h3 h4))⟩
noncomputable def Pm:Op1:=λw=>(asS w).map λds=>.own ds
theorem Mu:Dl X (.type "list") (rN X.K (o1 Pm)):=by
 intro pins s σ H xs us Q I r h
 obtain⟨M,ws,w,e,mo,sh,q⟩:=h
 obtain⟨v,w1,rfl,rfl,s1,e1⟩:=GY sh e
 unfold Pm at e1
 cases e2:asS w1 with
 |none=>rw[e2]at e1;cases e1
 |some ds=>
  rw[e2]at e1
  cases e1
  obtain⟨a,ys,rfl,h3,h4⟩:=s1.s e2
  exact Og pins s σ H _ us Q I r ⟨a,ys,rfl,h3,λl hl=>q _ _ (.lst mo hl h4)⟩
noncomputable def Zj:Op1
 | .val (.int i)=>Gc (.val (.int i))
 | .val (.bl b)=>Gc (.val (.int (if b then 1 else 0)))
 |_=>none
theorem K3:Dl X (.type "int") (rN X.K (o1 Zj)):=by
 intro pins s σ H xs us Q I r h
 obtain⟨M,ws,w,e,mo,sh,q⟩:=h
 obtain⟨v,w1,rfl,rfl,s1,e1⟩:=GY sh e
 unfold Zj at e1
 split at e1
 .cases e1;cases s1
  exact OL pins s σ H _ us Q I r (.inl ⟨_,rfl,q _ _ (.same mo (.int _))⟩)
 .cases e1;cases s1
  exact OL pins s σ H _ us Q I r (.inr ⟨_,rfl,q _ _ (.same mo (.int _))⟩)
 .cases e1
noncomputable def kdW:Wv->nB St.Kd
 | .own _=>Gc .lst
 | .val .non=>Gc .non| .val (.bl _)=>Gc .bl| .val (.int _)=>Gc .int| .val (.str _)=>Gc .str| .val (.lst _)=>Gc .lst| .val (.dct _)=>Gc .dct| .val (.tup _)=>Gc .tup
 | .val (.ty _)=>none| .val (.scr _)=>none| .val (.ref _)=>none
end
section
variable{X:Cx}
theorem Vo{K:mx}(k:St.Kd):ql K (.type k.ty) (.type "list")=Gc (k.isA "list"):=by
 cases k<;>rfl
noncomputable def RL(T:qj):oO:=T== "int" ||T== "bool" ||T== "tuple" ||T== "str" ||T== "list"
theorem eN{K:mx}{T:qj}(h:RL T=true)(k:St.Kd):ql K (.type k.ty) (.type T)=Gc (k.isA T):=by
 unfold RL at h
 simp only[pq,xw]at h
 rcases h with(((rfl|rfl)|rfl)|rfl)|rfl
 .exact St.aQ k
 .exact St.XE k
 .exact St.kit_tuple k
 .exact St.Y8 k
 .exact Vo k
noncomputable def br:Op2:=λa t=>match t with
 | .val (.ty T)=>if RL T=true then(kdW a).map λk=>.val (.bl (k.isA T))else none
 |_=>none
theorem OG:Dl X (.builtin "isinstance") (rN X.K (o2 br)):=by
 intro pins s σ H xs us Q I r h
 obtain⟨M,ws,w,e,mo,sh,q⟩:=h
 obtain⟨v,w1,v',w2,rfl,rfl,s1,s2,e1⟩:=Py sh e
 unfold br at e1
 split at e1
 .rename_i T
  split at e1
  .rename_i hT
   cases e2:kdW w1 with
   |none=>rw[e2]at e1;cases e1
   |some k=>
    rw[e2]at e1
    cases e1
    cases s2
    obtain⟨u1,u2,rfl,r1,r2⟩:=r.two
    cases (show u2=rZ T from r2)
    have fin:∀tk,EP X pins σ Q (.bool (k.isA T)) {s with toks:=tk}:=λtk=>⟨.bl _,H,I.tok tk,rfl,q _ _ (.same mo (.bl _))⟩
    have kk:=eN (K:=X.K) hT k
    cases w1 with
    |own ds=>
     cases e2
     obtain⟨a,ys,rfl,h1,_⟩:=s1
     exact FG I r1 (.lst h1) kk fin
    |val d=>
     have s1':DA X.K M H v d:=s1
     cases s1' with
     |non=>cases e2;exact FG I r1 .non kk fin
     |bl b=>cases e2;exact FG I r1 (.bl b) kk fin
     |int b=>cases e2;exact FG I r1 (.int b) kk fin
     |str b=>cases e2;exact FG I r1 (.str b) kk fin
     |ty b=>cases e2
     |scr h=>cases e2
     |lst h n rr=>cases e2;exact FG I r1 (.lst h) kk fin
     |dct h n rr=>cases e2;exact FG I r1 (.dK h) kk fin
     |ref h=>cases e2
     |tup h rr=>
      cases e2
      rename_i a ys ds
      cases (show u1=oX a from r1)
      obtain⟨its,_,⟨o,h1,h2,_⟩,_⟩:=I.tuple h
      exact pf xr I.kIn ⟨o,h1,h2⟩ kk (λz=>nomatch z) fin
  .cases e1
 .cases e1
noncomputable def CY(fs:List Ev):Ev:=λE S=>(evs fs E S).bind λr=>if r.1.length<=sizeLine then Gc (.tup r.1,r.2)else none
noncomputable def WB(c:oO)(fs:List Ev):Ev:=λE S=>(evs fs E S).bind λr=>if r.1.length<=sizeLine then fin c (.own r.1) r.2 else none
abbrev G8:=WB false
abbrev Ie:=WB true
theorem A8{es:List oI}{fs:List Ev}{k:Nat}{pos:Pos}(h:DEs X es fs):DE X (.Tuple es k pos) (CY fs):=⟨BI (du h.pe) λσ H Q z=>by
 obtain⟨M,E,S,d,S',e,r,st,q⟩:=z
 obtain⟨⟨ds,S1⟩,e1,e⟩:=Am e
 dsimp only at e
 split at e
 .cases e
  refine HN e1 r st λvs H1 M1 g1 st1 d1=>⟨by rw[d1.length];assumption,λp hp=>?_⟩
  have n:=Nw.tup st1.mo hp d1
  exact q _ _ M1 (g1.trans (.grow st1.mo n.grow)) (st1.grow n.grow) n.rel
 .cases e⟩
theorem BW{c:oO}{es:List oI}{fs:List Ev}{pos:Pos}(h:DEs X es fs):DE X (.List es pos) (WB c fs):=⟨BI (bK h.pe) λσ H Q z=>by
 obtain⟨M,E,S,d,S',e,r,st,q⟩:=z
 obtain⟨⟨ds,S1⟩,e1,e⟩:=Am e
 dsimp only at e
 split at e
 .refine HN e1 r st λvs H1 M1 g1 st1 d1=>⟨by rw[d1.length];assumption,λp hp=>?_⟩
  obtain⟨M2,g2,st2,d2⟩:=(Nw.lst st1.mo hp d1).fin st1 e
  exact q _ _ M2 (g1.trans g2) st2 d2
 .cases e⟩
noncomputable def Lk(f g:Ev):Ev:=λE S=>(f E S).bind λr=>match r.1 with
 | .bl true=>g E r.2
 | .bl false=>Gc (.bl false,r.2)
 |_=>none
noncomputable def eOr(f g:Ev):Ev:=λE S=>(f E S).bind λr=>match r.1 with
 | .bl false=>g E r.2
 | .bl true=>Gc (.bl true,r.2)
 |_=>none
noncomputable def aq(f:Ev):Ev:=λE S=>(f E S).bind λr=>match r.1 with
 | .bl b=>Gc (.bl (!b),r.2)
 |_=>none
noncomputable def eIf(c f g:Ev):Ev:=λE S=>(c E S).bind λr=>match r.1 with
 | .bl true=>f E r.2
 | .bl false=>g E r.2
 |_=>none
theorem Qs{K:mx}{M:Ms}{H:Hp}{v:V}{b:oO}(h:DA K M H v (.bl b)):v=.bl b:=by cases h;rfl
variable{a b c:oI}{rest:List oI}{f g h:Ev}{pos:Pos}
theorem LH{op:BoolOp}(h:DE X a f):DE X (.BoolOp op [a] pos) f:=⟨cc h.pe⟩
theorem KA(ha:DE X a f)(hb:DE X (.BoolOp .And (b::rest) pos) g):DE X (.BoolOp .And (a::b::rest) pos) (Lk f g):=⟨BI (cR ha.pe hb.pe) λσ H Q z=>by
 obtain⟨M,E,S,d,S',e,r,st,q⟩:=z
 obtain⟨⟨d1,S1⟩,e1,e⟩:=Am e
 dsimp only at e
 refine⟨M,E,S,d1,S1,e1,r,st,λv H1 M1 g1 st1 r1=>?_⟩
 split at e
 .cases Qs r1
  refine⟨_,rfl,?_⟩
  refine Yz ?_
  exact⟨M1,E,S1,d,S',e,r.step g1.st,st1,λv H2 M2 g2 st2 r2=>q _ _ M2 (g1.trans g2) st2 r2⟩
 .cases e
  cases Qs r1
  refine⟨_,rfl,?_⟩
  refine ZH ?_
  exact q _ _ M1 g1 st1 r1
 .cases e⟩
theorem bR(ha:DE X a f):DE X (.UnaryOp .Not a pos) (aq f):=⟨BI (cJ ha.pe) λσ H Q z=>by
 obtain⟨M,E,S,d,S',e,r,st,q⟩:=z
 obtain⟨⟨d1,S1⟩,e1,e⟩:=Am e
 dsimp only at e
 split at e
 .cases e
  refine⟨M,E,S,_,_,e1,r,st,λv H1 M1 g1 st1 r1=>?_⟩
  cases Qs r1
  exact⟨_,rfl,q _ _ M1 g1 st1 (.bl _)⟩
 .cases e⟩
noncomputable def tDT(K:mx)(f:Ev):TT:=λσ H Q=>∃M E S b S',f E S=Gc (.bl b,S')/\EnR K M E σ H/\StR K M S H/\∀H' M',Gr M H M' H'->StR K M' S' H'->Q b H'
structure DT(X:Cx)(e:oI)(f:Ev):Prop where
 pe:PT X e (tDT X.K f)
structure DW(X:Cx)(e:oI)(f:Ev):Prop where
 pe:PW X e (tDT X.K f)
theorem DW.dt(h:DW X a f):DT X a f:=⟨PW.pt h.pe⟩
theorem W9{t:TE}(h:PT X a (eK t))(m:∀σ H Q,tD X.K f σ H Q->t σ H Q):DT X a f:=⟨Uw h λσ H Q z=>by
 obtain⟨M,E,S,b,S',e,r,st,q⟩:=z
 refine m _ _ _ ⟨M,E,S,_,S',e,r,st,λv H1 M1 g1 st1 r1=>?_⟩
 cases Qs r1
 exact⟨_,rfl,q _ M1 g1 st1⟩⟩
theorem YT(h:DE X a f)(he:∀whole,isTrue a X.env whole=(do let v<-whole;standAt a.pos;holding [v] (truthy v)):=by intro _;rfl):DT X a f:=W9 (t:=tD X.K f) (bX h.pe he) λ_ _ _ z=>z
theorem Ad{fa fb:Ev}{op:CmpOp}{f:Op2}(ho:OpR X (compareOp op) (rOp X.K f))(ha:DE X a fa)(hb:DE X b fb)(hm:behindInMarks op b=false:=by rfl):DT X (.Compare a [op] [b] pos) (eOp (o2 f) [fa,fb]):=
 W9 (Z9 ho ha.pe hb.pe hm) λ_ _ _ h=>RD h
theorem Ym(ha:DT X a f):DT X (.UnaryOp .Not a pos) (aq f):=⟨Uw (dh ha.pe) λσ H Q z=>by
 obtain⟨M,E,S,b,S',e,r,st,q⟩:=z
 obtain⟨⟨w1,S1⟩,e1,e⟩:=Am e
 dsimp only at e
 split at e
 .cases e
  exact⟨M,E,S,_,_,e1,r,st,q⟩
 .cases e⟩
theorem LM(ha:DT X a f):DW X (.BoolOp .And [a] pos) f:=⟨Y1 ha.pe⟩
theorem Qb(ha:DT X a f):DW X (.BoolOp .Or [a] pos) f:=⟨bI ha.pe⟩
theorem Tb{e:oI}{t t':TT}(h:PW X e t)(m:∀σ H Q,t' σ H Q->t σ H Q):PW X e t':=λwh pins s σ H Q I q=>h wh pins s σ H Q I (m _ _ _ q)
theorem PF(ha:DT X a f)(hb:DW X (.BoolOp .And (b::rest) pos) g):DW X (.BoolOp .And (a::b::rest) pos) (Lk f g):=⟨Tb (cP ha.pe hb.pe) λσ H Q z=>by
 obtain⟨M,E,S,k,S',e,r,st,q⟩:=z
 obtain⟨⟨w1,S1⟩,e1,e⟩:=Am e
 dsimp only at e
 split at e
 .refine⟨M,E,S,_,S1,e1,r,st,λH1 M1 g1 st1=>?_⟩
  refine Yz ?_
  exact⟨M1,E,S1,k,S',e,r.step g1.st,st1,λH2 M2 g2 st2=>q _ M2 (g1.trans g2) st2⟩
 .cases e
  refine⟨M,E,S,_,_,e1,r,st,λH1 M1 g1 st1=>?_⟩
  refine ZH ?_
  exact q _ M1 g1 st1
 .cases e⟩
theorem Xx(ha:DT X a f)(hb:DW X (.BoolOp .Or (b::rest) pos) g):DW X (.BoolOp .Or (a::b::rest) pos) (eOr f g):=⟨Tb (jD ha.pe hb.pe) λσ H Q z=>by
 obtain⟨M,E,S,k,S',e,r,st,q⟩:=z
 obtain⟨⟨w1,S1⟩,e1,e⟩:=Am e
 dsimp only at e
 split at e
 .refine⟨M,E,S,_,S1,e1,r,st,λH1 M1 g1 st1=>?_⟩
  refine ZH ?_
  exact⟨M1,E,S1,k,S',e,r.step g1.st,st1,λH2 M2 g2 st2=>q _ M2 (g1.trans g2) st2⟩
 .cases e
  refine⟨M,E,S,_,_,e1,r,st,λH1 M1 g1 st1=>?_⟩
  refine Yz ?_
  exact q _ M1 g1 st1
 .cases e⟩
theorem iK(hc:DT X c f)(ha:DE X a g)(hb:DE X b h):DE X (.IfExp c a b pos) (eIf f g h):=⟨BI (XU hc.pe ha.pe hb.pe) λσ H Q z=>by
 obtain⟨M,E,S,d,S',e,r,st,q⟩:=z
 obtain⟨⟨w1,S1⟩,e1,e⟩:=Am e
 dsimp only at e
 split at e
 .refine⟨M,E,S,_,S1,e1,r,st,λH1 M1 g1 st1=>?_⟩
  refine Yz ?_
  exact⟨M1,E,S1,d,S',e,r.step g1.st,st1,λv H2 M2 g2 st2 r2=>q _ _ M2 (g1.trans g2) st2 r2⟩
 .refine⟨M,E,S,_,S1,e1,r,st,λH1 M1 g1 st1=>?_⟩
  refine ZH ?_
  exact⟨M1,E,S1,d,S',e,r.step g1.st,st1,λv H2 M2 g2 st2 r2=>q _ _ M2 (g1.trans g2) st2 r2⟩
 .cases e⟩
end
inductive Fl where
 |nx
 |ret (d:D)
abbrev Ex:=En->Sto->nB (Fl×En×Sto)
def End(K:mx)(M:Ms)(H:Hp)(Dn:Ends)(E':En)(S':Sto):Fl->Prop
 | .nx=>∀σ' H' M',Gr M H M' H'->EnR K M' E' σ' H'->StR K M' S' H'->Dn.nx σ' H'
 | .ret d=>∀v H' M',Gr M H M' H'->StR K M' S' H'->DA K M' H' v d->Dn.rt v H'
noncomputable def tX(K:mx)(f:Ex):TS:=λDn σ H=>∃M E S fl E' S',f E S=Gc (fl,E',S')/\EnR K M E σ H/\StR K M S H/\End K M H Dn E' S' fl
structure DS(X:Cx)(st:pN)(f:Ex):Prop where
 pe:PS X st (tX X.K f)
structure DSs(X:Cx)(st:List pN)(f:Ex):Prop where
 pe:PSs X st (tX X.K f)
theorem FY{X:Cx}{e:pN}{t t':TS}(h:PS X e t)(m:∀Dn σ H,t' Dn σ H->t Dn σ H):PS X e t':=λpins s σ H Dn I q=>h pins s σ H Dn I (m _ _ _ q)
theorem QV{X:Cx}{e:List pN}{t t':TS}(h:PSs X e t)(m:∀Dn σ H,t' Dn σ H->t Dn σ H):PSs X e t':=λpins s σ H Dn I q=>h pins s σ H Dn I (m _ _ _ q)
theorem End.later{K:mx}{M M1:Ms}{H H1:Hp}{Dn:Ends}{E':En}{S':Sto}{fl:Fl}(q:End K M H Dn E' S' fl)(g:Gr M H M1 H1):End K M1 H1 Dn E' S' fl:=by
 cases fl with
 |nx=>exact λσ' H' M' g' r st=>q σ' H' M' (g.trans g') r st
 |ret d=>exact λv H' M' g' st r=>q v H' M' (g.trans g') st r
noncomputable def Ag(f g:Ex):Ex:=λE S=>(f E S).bind λr=>match r.1 with
 | .nx=>g r.2.1 r.2.2
 | .ret w=>Gc (.ret w,r.2)
noncomputable def Ed:Ex:=λE S=>Gc (.nx,E,S)
section
variable{X:Cx}{st:pN}{rest a b:List pN}{f g h:Ex}{c e:oI}{k:Ev}{pos:Pos}
theorem Az:DSs X [] Ed:=⟨QV aS λDn σ H z=>by
 obtain⟨M,E,S,fl,E',S',e,r,st,q⟩:=z
 cases e
 exact q _ _ M (.refl st.mo) r st⟩
theorem AH(h1:DS X st f)(h2:DSs X rest g):DSs X (st::rest) (Ag f g):=⟨QV (Xc h1.pe h2.pe) λDn σ H z=>by
 obtain⟨M,E,S,fl,E',S',e,r,st,q⟩:=z
 obtain⟨⟨f1,E1,S1⟩,e1,e⟩:=Am e
 dsimp only at e
 split at e
 .exact⟨M,E,S,.nx,E1,S1,e1,r,st,λσ1 H1 M1 g1 r1 st1=>⟨M1,E1,S1,fl,E',S',e,r1,st1,q.later g1⟩⟩
 .cases e
  exact⟨M,E,S,.ret _,_,_,e1,r,st,q⟩⟩
theorem AI(h1:DS X st f):DSs X [st] f:=⟨Za h1.pe⟩
noncomputable def xIf(c:Ev)(f g:Ex):Ex:=λE S=>(c E S).bind λr=>match r.1 with
 | .bl true=>f E r.2
 | .bl false=>g E r.2
 |_=>none
theorem By(hc:DT X c k)(ha:DSs X a f)(hb:DSs X b g):DS X (.If c a b pos) (xIf k f g):=⟨FY (jS hc.pe ha.pe hb.pe) λDn σ H z=>by
 obtain⟨M,E,S,fl,E',S',e,r,st,q⟩:=z
 obtain⟨⟨w1,S1⟩,e1,e⟩:=Am e
 dsimp only at e
 split at e
 .refine⟨M,E,S,_,S1,e1,r,st,λH1 M1 g1 st1=>?_⟩
  refine Yz ?_
  exact⟨M1,E,S1,fl,E',S',e,r.step g1.st,st1,q.later g1⟩
 .refine⟨M,E,S,_,S1,e1,r,st,λH1 M1 g1 st1=>?_⟩
  refine ZH ?_
  exact⟨M1,E,S1,fl,E',S',e,r.step g1.st,st1,q.later g1⟩
 .cases e⟩
noncomputable def Bq(k:Ev):Ex:=λE S=>(k E S).map λr=>(.ret r.1,E,r.2)
theorem AX(h:DE X e k):DS X (.Return (Gc e) pos) (Bq k):=⟨FY (eG h.pe) λDn σ H z=>by
 obtain⟨M,E,S,fl,E',S',e,r,st,q⟩:=z
 obtain⟨⟨d,S1⟩,e1,e⟩:=Iu e
 cases e
 exact⟨M,E,S,d,S1,e1,r,st,λv H1 M1 g1 st1 r1=>q _ _ M1 g1 st1 r1⟩⟩
end
section
variable{K:mx}{M:Ms}{E:En}{σ:Sg}{H:Hp}{i:Nat}{d:D}{v:V}
theorem EnR.put(r:EnR K M E σ H)(rd:DA K M H v d):EnR K M (E.set i (Gc d)) (σ.set i (Gc v)) H:=by
 refine⟨by rw[qZ,qZ];exact r.len,λj e ej=>?_⟩
 by_cases h:i=j
 .subst h
  by_cases hi:i<E.length
  .rw[nU hi]at ej
   cases ej
   exact⟨v,nU (by rw[<-r.len];exact hi),rd⟩
  .rw[tF.mpr (by rw[qZ];lia)]at ej;cases ej
 .rw[nI h]at ej
  obtain⟨v',h1,h2⟩:=r.val j e ej
  exact⟨v',by rw[nI h];exact h1,h2⟩
end
noncomputable def CC(i:Nat)(k:Ev):Ex:=λE S=>(k E S).map λr=>(.nx,E.set i (Gc r.1),r.2)
theorem Au{X:Cx}{e:oI}{k:Ev}{pos pos':Pos}(i:Nat){x:Str}(h:DE X e k)(hN:X.N.Nodup)(hi:X.N[i]?=Gc x:=by rfl)(hx:Loc X.env.scope x:=by first|exact Or.inl rfl|exact xv rfl)(hs:swapsWith e (Gc (.Name x pos')) pos.line X.env=pure false:=by rfl)(hf:X.fn x=true\/X.env.scope.names.lookup x=Gc .local:=by first|exact .inl rfl|exact .inr rfl):DS X (.Assign [.Name x pos'] e pos) (CC i k):=⟨
 FY (eU hN hi hx h.pe hs hf) λDn σ H z=>by
  obtain⟨M,E,S,fl,E',S',e,r,st,q⟩:=z
  obtain⟨⟨d,S1⟩,e1,e⟩:=Iu e
  cases e
  exact⟨M,E,S,d,S1,e1,r,st,λv H1 M1 g1 st1 r1=>q _ _ M1 g1 ((r.step g1.st).put r1) st1⟩⟩
noncomputable def Bp(k:Ev):Ex:=λE S=>(k E S).map λr=>(.nx,E,r.2)
theorem Bb{X:Cx}{e:oI}{k:Ev}{pos:Pos}(h:DE X e k)(hs:swapsWith e none pos.line X.env=pure false:=by rfl):DS X (.Expr e pos) (Bp k):=⟨FY (aI h.pe hs) λDn σ H z=>by
 obtain⟨M,E,S,fl,E',S',e,r,st,q⟩:=z
 obtain⟨⟨d,S1⟩,e1,e⟩:=Iu e
 cases e
 exact⟨M,E,S,d,S1,e1,r,st,λv H1 M1 g1 st1 r1=>q _ _ M1 g1 (r.step g1.st) st1⟩⟩
noncomputable def Ea(S:Sto)(n:Nat):nB (List D):=match S[n]? with
 |some (.lst ds)=>Gc ds
 |_=>none
theorem Eo{S:Sto}{n:Nat}{ds:List D}(h:Ea S n=Gc ds):S[n]?=Gc (.lst ds):=by
 unfold Ea at h
 split at h
 .rename_i e
  cases h
  exact e
 .cases h
abbrev Mo:=Sto->List D->List D->nB (D×List D)
noncomputable def G7(op:Mo)(f:Ev)(fs:List Ev):Ev:=λE S=>(f E S).bind λr=>match r.1 with
 | .ref n=>(Ea r.2 n).bind λ_=>(evs fs E r.2).bind λp=>(Ea p.2 n).bind λds=>(op p.2 ds p.1).map λq=>(q.1,p.2.set n (.lst q.2))
 |_=>none
def ay(K:mx)(op:Mo):V->List V->Hp->VK->Prop:=λx vs H Q=>∃M S n a ds args d ds',x=.ref a/\M.cel[n]?=Gc a/\S[n]?=Gc (.lst ds)/\op S ds args=Gc (d,ds')/\StR K M S H/\Ai K M H vs args/\∀v H',StR K M (S.set n (.lst ds')) H'->Gr M H M H'->DA K M H' v d->Q v H'
section
variable{X:Cx}
theorem YG{op:Mo}{f:Ev}{fs:List Ev}{σ:Sg}{H:Hp}{Q:VK}(h:tD X.K (G7 op f fs) σ H Q):tBM X.K "list" (ay X.K op) (tD X.K f) (tDs X.K fs) σ H Q:=by
 obtain⟨M,E,S,d,S',e,r,st,q⟩:=h
 obtain⟨⟨d1,S1⟩,e1,e⟩:=Am e
 dsimp only at e
 split at e
 .rename_i n
  obtain⟨ds0,e2,e⟩:=Am e
  obtain⟨⟨args,S2⟩,e3,e⟩:=Am e
  obtain⟨ds,e4,e⟩:=Am e
  obtain⟨⟨dd,ds'⟩,e5,e⟩:=Iu e
  cases e
  refine⟨M,E,S,_,S1,e1,r,st,λv H1 M1 g1 st1 r1=>?_⟩
  cases r1 with
  |ref hc=>
   rename_i a
   obtain⟨xs,h1,h2⟩:=st1.cell n a _ hc (Eo e2)
   refine⟨.inl ⟨rfl,xs,.of h1⟩,?_⟩
   refine HN e3 (r.step g1.st) st1 λvs H2 M2 g2 st2 r2=>?_
   exact⟨M2,S2,n,a,ds,args,dd,ds',rfl,LS g2.pre hc,Eo e4,e5,st2,r2,λv H3 st3 g3 r3=>q _ _ M2 ((g1.trans g2).trans g3) st3 r3⟩
 .cases e
theorem EL{id:qj}{name:Str}{o e:oI}{es:List oI}{op:Mo}{f:Ev}{fs:List Ev}{apos cpos:Pos}(slot:Slot "list" name id)(hty:typeOf (.builtin id)=pure (.type "method_descriptor"))(hm:MtR X id (ay X.K op))(ho:DE X o f)(ha:DEs X (e::es) fs)(hbase:attributeBase o name X.env (eval o X.env)=eval o X.env:=by rfl)(hfew:((backTo cpos (nv (e::es) X.env)).all (λx=> !x.1) && (backToKw cpos (keywordEach [] X.env)).all (λx=>x.1.isSome) && decide ((e::es).length+([]:List vQ).length+(if([]:List vQ).isEmpty then 0 else 1)<30))=true:=by rfl)(hline:(apos.endLine==cpos.line)=true:=by rfl)(hs:nv (e::es) X.env=(false,eval e X.env)::nv es X.env:=by rfl)(hplain:(backTo cpos (nv es X.env)).any (·.1)=false:=by rfl):DE X (.Call (.Attribute o name apos) (e::es) [] cpos) (G7 op f fs):=⟨BI (jb vq slot hty hm ho.pe ha.pe hbase hfew hline hs hplain) λσ H Q z=>YG z⟩
theorem Zr{id:qj}{name:Str}{o:oI}{op:Mo}{f:Ev}{apos cpos:Pos}(slot:Slot "list" name id)(hty:typeOf (.builtin id)=pure (.type "method_descriptor"))(hm:MtR X id (ay X.K op))(ho:DE X o f)(hbase:attributeBase o name X.env (eval o X.env)=eval o X.env:=by rfl)(hline:(apos.endLine==cpos.line)=true:=by rfl):DE X (.Call (.Attribute o name apos) [] [] cpos) (G7 op f []):=⟨BI (bT vq slot hty hm ho.pe hbase hline) λσ H Q z=>YG z⟩
noncomputable def Hx:Mo
 |_,ds,[x]=>if ds.length<sizeLine then Gc (.non,ds++[x])else none
 |_,_,_=>none
theorem Qk{K:mx}{M:Ms}{H:Hp}{vs:List V}{d:D}(h:Ai K M H vs [d]):∃v,vs=[v]/\DA K M H v d:=by
 cases h with
 |cons h t=>cases t;exact⟨_,rfl,h⟩
theorem Cs:MtR X "list.append" (ay X.K Hx):=by
 intro pins s σ H x vs v us Q I rx rv h
 obtain⟨M,S,n,a,ds,args,d,ds',rfl,hc,hn,e,st,ra,q⟩:=h
 unfold Hx at e
 split at e
 .split at e
  .rename_i hz
   cases e
   obtain⟨xs,h1,h2⟩:=st.cell n a _ hc hn
   obtain⟨y,rfl,ry⟩:=Qk ra
   obtain⟨st2,g2⟩:=st.chg hc hn (h2.append (.cons ry .nil))
   exact Oq pins s σ H _ _ v us Q I rx rv ⟨a,xs,y,rfl,rfl,h1,by rw[h2.length];exact hz,q _ _ st2 g2 .non⟩
  .cases e
 .cases e
noncomputable def cS:Mo
 |_,_,[]=>Gc (.non,[])
 |_,_,_=>none
theorem Zs:MtR X "list.clear" (ay X.K cS):=by
 intro pins s σ H x vs v us Q I rx rv h
 obtain⟨M,S,n,a,ds,args,d,ds',rfl,hc,hn,e,st,ra,q⟩:=h
 unfold cS at e
 split at e
 .cases e
  obtain⟨xs,h1,h2⟩:=st.cell n a _ hc hn
  cases ra
  obtain⟨st2,g2⟩:=st.chg hc hn (ys:=[]) .nil
  exact WV pins s σ H _ _ v us Q I rx rv ⟨a,xs,rfl,rfl,h1,q _ _ st2 g2 .non⟩
 .cases e
end
noncomputable def OB(k f o:Ev):Ex:=λE S=>(k E S).bind λr=>(f E r.2).bind λb=>(o E b.2).bind λi=>match b.1,i.1 with
 | .ref n,.int j=>(Ea i.2 n).bind λds=>(ixN ds.length j).map λm=>(.nx,E,i.2.set n (.lst (ds.set m r.1)))
 |_,_=>none
theorem CV {X : Cx} {e t bs : oI} {k f o : Ev} {ps pos : Pos} (h : DE X e k) (hb : DE X bs f) (ht : DE X t o) (ha : ∀ v, assign (.Subscript bs t ps) X.env v = (do
      let ov ← holding [v] (eval bs X.env)
      let iv ← holding [v, ov] (eval t X.env)
      standAt ps
      holding [v, ov, iv] (setItem ov iv v)
      release [v, ov, iv] []) := by intro _; rfl)
    (hs : swapsWithSole [.Subscript bs t ps] e pos.line X.env = pure false := by rfl) (hw : swappedStores [.Subscript bs t ps] e X.env = pure none := by rfl)
    (h1 : (assignEach [.Subscript bs t ps] X.env).map (·.2) = [assign (.Subscript bs t ps) X.env] := by rfl) :
    DS X (.Assign [.Subscript bs t ps] e pos) (OB k f o) := ⟨
  FY (Yo h.pe (eP hb.pe ht.pe set_list ha) hs hw h1) fun Dn σ H z => by
    obtain ⟨M, E, S, fl, E', S', e, r, st, q⟩ := z
    obtain ⟨⟨d, S1⟩, e1, e⟩ := Am e
    obtain ⟨⟨b, S2⟩, e2, e⟩ := Am e
    obtain ⟨⟨i, S3⟩, e3, e⟩ := Am e
    dsimp only at e e1 e2 e3
    split at e
    · rename_i n j _
      obtain ⟨ds, e4, e⟩ := Am e
      obtain ⟨m, e5, e⟩ := Iu e
      cases e
      refine ⟨M, E, S, d, S1, e1, r, st, fun v H1 M1 g1 st1 r1 => ?_⟩
      refine ⟨M1, E, S1, _, S2, e2, r.step g1.st, st1, fun bv H2 M2 g2 st2 r2 => ?_⟩
      refine ⟨M2, E, S2, _, S3, e3, (r.step g1.st).step g2.st, st2, fun iv H3 M3 g3 st3 r3 => ?_⟩
      cases r3
      cases r2 with
      | ref hc =>
        rename_i a
        have hc3 := LS g3.pre hc
        obtain ⟨xs, h1, h2⟩ := st3.cell n a _ hc3 (Eo e4)
        obtain ⟨st4, g4⟩ := st3.chg hc3 (Eo e4) (h2.set ((r1.step g2.st).step g3.st) m)
        have g := ((g1.trans g2).trans g3).trans g4
        exact ⟨a, xs, j, m, rfl, rfl, h1, by rw [h2.length]; exact e5, q _ _ M3 g (r.step g.st) st4⟩
    · cases e⟩
abbrev Fn:=List D->Sto->nB (D×Sto)
noncomputable def flD:Fl->D
 | .nx=>.non
 | .ret d=>d
noncomputable def BH(N:Nat)(body:Ex):Fn:=λds S=>(body (ds.map Gc++nX (N-ds.length) none) S).map λr=>(flD r.1,r.2.2)
def BD{α:Type}(a:α):α:=Classical.choose (⟨a,rfl⟩:∃x,x=a)
theorem SN{α:Type}(a:α):BD a=a:=Classical.choose_spec (⟨a,rfl⟩:∃x,x=a)
noncomputable def spD(K:mx)(np:Nat)(f:Fn):Sp:=λvs H Q _=>∃M ds S d S',ds.length=np/\f ds S=Gc (d,S')/\Ai K M H vs ds/\StR K M S H/\∀v H' M',Gr M H M' H'->StR K M' S' H'->DA K M' H' v d->Q v H'
theorem PK{α:Type}{xs:List α}{i:Nat}{x:α}(h:(xs.map Gc)[i]?=Gc (Gc x)):xs[i]?=Gc x:=by
 rw[ng]at h
 cases e:xs[i]? with
 |none=>rw[e]at h;cases h
 |some y=>rw[e]at h;cases h;rfl
theorem Ts{α:Type}{xs:List (nB α)}{k i:Nat}{x:α}(h:(xs++nX k none)[i]?=Gc (Gc x)):xs[i]?=Gc (Gc x):=by
 by_cases hi:i<xs.length
 .rw[nF hi]at h;exact h
 .rw[oP (by lia),vg]at h
  split at h<;>cases h
theorem Z1{α:Type}{xs:List (nB α)}{k i:Nat}{x:nB α}(h:xs[i]?=Gc x):(xs++nX k none)[i]?=Gc x:=by
 rw[nF (nP.mp h).1];exact h
theorem EnR.args{K:mx}{M:Ms}{H:Hp}{vs:List V}{ds:List D}(r:Ai K M H vs ds)(k:Nat):EnR K M (ds.map Gc++nX k none) (vs.map Gc++nX k none) H:=by
 refine⟨by simp[r.length],λi d e=>?_⟩
 obtain⟨v,h1,h2⟩:=r.get (PK (Ts e))
 exact⟨v,Z1 (by rw[ng,h1];rfl),h2⟩
section
variable{P:nq}{w:oN}{K:mx}{mg:Str->nB mz}{base:oQ}
theorem bV{x:Str}{st:pN}{f:nH}{fd:qd}{N ps:List Str}{k np:Nat}{b:Ex}(Fu:Fun K x x st f fd)(S:AU N ps (AJ st))(hp:ps.length=np)(hb:∀(cdv:mz) (A:oU) (outer:List PySem.Env) (s:m8) (H:Hp) (E:XK),Lq k (A.deeper (tM x (AJ st) s.heap.objs.size f cdv))->DSs (Xg CX0 P w K mg base N x (AJ st) f cdv A outer s H E).nox (Ft st) b):OM P w K mg base CX0 (k+1) f fd ps (spD K np (BD (BH N.length b))):=by
 rw[SN]
 refine Fu.ok S (λvs H Q E h=>?_) (λcdv A outer s H vs Q E hr h=>?_)
 .obtain⟨M,ds,S0,d,S',hl,_,r,_⟩:=h
  have:=r.length
  lia
 .obtain⟨M,ds,S0,d,S',hl,e,r,st,q⟩:=h
  have hlen:=r.length
  refine⟨_,(hb cdv A outer s H E hr).pe,?_⟩
  obtain⟨⟨fl,E',S1⟩,e1,e⟩:=Iu e
  cases e
  refine⟨M,_,S0,fl,E',S1,e1,?_,st,?_⟩
  .rw[show L2.start N vs=vs.map Gc++nX (N.length-ds.length) none from by unfold L2.start;rw[hlen]]
   exact .args r _
  .cases fl with
   |nx=>exact λσ' H' M' g _ st'=>q _ _ M' g st' .non
   |ret d=>exact λv H' M' g st' r'=>q _ _ M' g st' r'
theorem bL{x:Str}{st:pN}{N ps:List Str}{k np:Nat}{b:Ex}(S:St.Src K mg x st)(sc:AU N ps (AJ st))(hp:ps.length=np)(hbi:∀f fd,Fun K x x st f fd->Binds K fd ps [])(hb:∀(f:nH) (cdv:mz) (A:oU) (outer:List PySem.Env) (s:m8) (H:Hp) (E:XK),Lq k (A.deeper (tM x (AJ st) s.heap.objs.size f cdv))->DSs (Xg CX0 P w K mg base N x (AJ st) f cdv A outer s H E).nox (Ft st) b):St.Dfn P w K mg base x (k+1) ps (spD K np (BD (BH N.length b))):=by
 obtain⟨f,fd,Fu,hm⟩:=S.ex
 exact⟨f,fd,hm,Fu.kp,hbi f fd Fu,bV Fu sc hp λcdv A outer s H E hr=>hb f cdv A outer s H E hr⟩
end
noncomputable def AM(f:Fn)(fs:List Ev):Ev:=λE S=>(evs fs E S).bind λr=>f r.1 r.2
theorem Z4{K:mx}{np:Nat}{f:Fn}{fs:List Ev}{σ:Sg}{H:Hp}{Q:VK}(hn:fs.length=np)(h:tD K (AM f fs) σ H Q):Y5 (spD K np f) [] E0 (tDs K fs) σ H Q:=by
 obtain⟨M,E,S,d,S',e,r,st,q⟩:=h
 obtain⟨⟨ds,S1⟩,e1,e⟩:=Am e
 refine HN e1 r st λvs H1 M1 g1 st1 r1=>?_
 rw[uh]
 exact⟨M1,ds,S1,d,S',by rw[Pd e1];exact hn,e,r1,st1,λv H2 M2 g2 st2 r2=>q _ _ M2 (g1.trans g2) st2 r2⟩
theorem ZX{X:Cx}{k np:Nat}{x:Str}{ps:List Str}{f:Fn}{e:oI}{es:List oI}{fs:List Ev}{p pos:Pos}(d:St.Dfn X.prog X.w X.K X.mg X.base x k ps (spD X.K np f))(hr:Lq k X.A)(hg:Gl X x)(ha:DEs X (e::es) fs)(hn:fs.length=np:=by rfl)(hdb:(x==("__debug__":Str))=false:=by decide)(he:nv (e::es) X.env=(false,eval e X.env)::nv es X.env:=by rfl)(hpl:(backTo pos (nv es X.env)).any (·.1)=false:=by rfl):DE X (.Call (.Name x p) (e::es) [] pos) (AM f fs):=⟨BI (St.iS d hr hg ha.pe hdb he hpl) λσ H Q z=>Z4 hn z⟩
abbrev Tf:=D->En->Sto->nB En
noncomputable def tG(K:mx)(t:Tf):TG:=λv σ H Q=>∃M d E E' S,t d E S=Gc E'/\EnR K M E σ H/\StR K M S H/\DA K M H v d/\∀σ',EnR K M E' σ' H->Q σ' H
structure DG(X:Cx)(tg:oI)(t:Tf):Prop where
 pe:PG X tg (tG X.K t)
noncomputable def tNm(i:Nat):Tf:=λd E _=>Gc (E.set i (Gc d))
theorem Uu{X:Cx}{e:oI}{t t':TG}(h:PG X e t)(m:∀v σ H Q,t' v σ H Q->t v σ H Q):PG X e t':=λpins s σ H v u Q I r q=>h pins s σ H v u Q I r (m _ _ _ _ q)
theorem Ar{X:Cx}{pos:Pos}(i:Nat){x:Str}(hN:X.N.Nodup)(hi:X.N[i]?=Gc x:=by rfl)(hx:Loc X.env.scope x:=by first|exact Or.inl rfl|exact xv rfl)(hf:X.fn x=true\/X.env.scope.names.lookup x=Gc .local:=by first|exact .inl rfl|exact .inr rfl):DG X (.Name x pos) (tNm i):=⟨Uu (aO hN hi hx hf) λv σ H Q z=>by
 obtain⟨M,d,E,E',S,e,r,st,rd,q⟩:=z
 cases e
 exact q _ (r.put rd)⟩
noncomputable def tMs:List Tf->List D->En->Sto->nB En
 | [],[],E,_=>Gc E
 |t::ts,d::ds,E,S=>(t d E S).bind λE1=>tMs ts ds E1 S
 |_,_,_,_=>none
noncomputable def tTp(ts:List Tf):Tf:=λd E S=>match d with
 | .tup ds=>tMs ts ds E S
 | .lst ds=>tMs ts ds E S
 | .ref n=>(Ea S n).bind λds=>tMs ts ds E S
 |_=>none
noncomputable def tGs(K:mx):List Tf->TGs
 | []=>jq
 |t::ts=>ck (tG K t) (tGs K ts)
theorem Qc{K:mx}{M:Ms}{H:Hp}{S:Sto}(st:StR K M S H):∀{ts:List Tf} {ds:List D} {vs:List V} {E E':En} {σ:Sg} {Q:Sg->Hp->Prop},tMs ts ds E S=Gc E'->EnR K M E σ H->Ai K M H vs ds->(∀σ',EnR K M E' σ' H->Q σ' H)->tGs K ts vs σ H Q
 | [],[],_,E,E',σ,Q,e,r,rd,q=>by
   cases e
   cases rd
   exact⟨rfl,q _ r⟩
 |t::ts,d::ds,_,E,E',σ,Q,e,r,rd,q=>by
  obtain⟨E1,e1,e⟩:=Am e
  cases rd with
  |cons h1 h2=>exact⟨_,_,rfl,M,d,E,E1,S,e1,r,st,h1,λσ1 r1=>Qc st e r1 h2 q⟩
 | [],_::_,_,E,E',σ,Q,e,r,rd,q=>by cases e
 |_::_,[],_,E,E',σ,Q,e,r,rd,q=>by cases e
theorem NJ:∀{ts:List Tf} {ds:List D} {E E':En} {S:Sto},tMs ts ds E S=Gc E'->ds.length=ts.length
 | [],[],_,_,_,_=>rfl
 |t::ts,d::ds,E,E',S,e=>by
  obtain⟨E1,e1,e⟩:=Am e
  simp[NJ e]
 | [],_::_,_,_,_,e=>by cases e
 |_::_,[],_,_,_,e=>by cases e
structure DGs(X:Cx)(es:List oI)(ts:List Tf):Prop where
 pe:PGs X es (tGs X.K ts)
theorem CH{X:Cx}:DGs X [] []:=⟨Zt⟩
theorem AV{X:Cx}{e:oI}{es:List oI}{t:Tf}{ts:List Tf}(h:DG X e t)(g:DGs X es ts)(hs:(assignEach (e::es) X.env).map (·.2)=assign e X.env::(assignEach es X.env).map (·.2):=by rfl):DGs X (e::es) (t::ts):=⟨Xo h.pe g.pe hs⟩
theorem Gf{X:Cx}{k:Nat}{es:List oI}{ts:List Tf}{pos:Pos}(hc:X.calm=true)(h:DGs X es ts)(hn:(assignEach es X.env).length=ts.length:=by rfl)(hst:(assignEach es X.env).findIdx? (·.1)=none:=by rfl):DG X (.Tuple es k pos) (tTp ts):=⟨
 Uu (eT hc h.pe hn hst) λv σ H Q z=>by
  obtain⟨M,d,E,E',S,e,r,st,rd,q⟩:=z
  unfold tTp at e
  split at e
  .cases rd with
   |tup h1 h2=>exact⟨_,_,rfl,.inl h1,by rw[h2.length];exact NJ e,Qc st e r h2 q⟩
  .cases rd with
   |lst h1 n h2=>exact⟨_,_,rfl,.inr h1,by rw[h2.length];exact NJ e,Qc st e r h2 q⟩
  .obtain⟨ds,e1,e⟩:=Am e
   cases rd with
   |ref hc=>
    obtain⟨xs,h1,h2⟩:=st.cell _ _ _ hc (Eo e1)
    exact⟨_,_,rfl,.inr h1,by rw[h2.length];exact NJ e,Qc st e r h2 q⟩
  .cases e⟩
noncomputable def P7(t:Tf)(k:Ev):Ex:=λE S=>(k E S).bind λr=>(t r.1 E r.2).map λE'=>(.nx,E',r.2)
theorem IM{X:Cx}{tg e:oI}{t:Tf}{k:Ev}{pos:Pos}(h:DE X e k)(hg:DG X tg t)(hs:swapsWithSole [tg] e pos.line X.env=pure false:=by rfl)(hw:swappedStores [tg] e X.env=pure none:=by rfl)(h1:(assignEach [tg] X.env).map (·.2)=[assign tg X.env]:=by rfl):DS X (.Assign [tg] e pos) (P7 t k):=⟨FY (Yo h.pe hg.pe hs hw h1) λDn σ H z=>by
 obtain⟨M,E,S,fl,E',S',e,r,st,q⟩:=z
 obtain⟨⟨d,S1⟩,e1,e⟩:=Am e
 obtain⟨E2,e2,e⟩:=Iu e
 cases e
 exact⟨M,E,S,d,S1,e1,r,st,λv H1 M1 g1 st1 r1=>⟨M1,d,E,_,S1,e2,r.step g1.st,st1,r1,λσ' r2=>q _ _ M1 g1 r2 st1⟩⟩⟩
noncomputable def Nm(i j:Nat)(f g:Ev):Ex:=λE S=>(evs [f,g] E S).bind λr=>match r.1 with
 | [d,d']=>Gc (.nx,(E.set i (Gc d)).set j (Gc d'),r.2)
 |_=>none
theorem Hb{X:Cx}{i j:Nat}{x y:Str}{a b:oI}{f g:Ev}{px py pt:Pos}{kt k2:Nat}{pt2 pos:Pos}(hc:X.calm=true)(hN:X.N.Nodup)(hi:X.N[i]?=Gc x)(hj:X.N[j]?=Gc y)(hij:i≠j)(hx:X.env.scope.names.lookup x=Gc .local)(hy:X.env.scope.names.lookup y=Gc .local)(ha:DE X a f)(hb:DE X b g)(hw:swappedStores [.Tuple [.Name x px,.Name y py] kt pt] (.Tuple [a,b] k2 pt2) X.env=pure (Gc [x,y]):=by rfl)(hsa:nv [a,b] X.env=(false,eval a X.env)::nv [b] X.env:=by rfl)(hsb:nv [b] X.env=(false,eval b X.env)::nv [] X.env:=by rfl)(hs:swapsWithSole [.Tuple [.Name x px,.Name y py] kt pt] (.Tuple [a,b] k2 pt2) pos.line X.env=pure false:=by rfl):DS X (.Assign [.Tuple [.Name x px,.Name y py] kt pt] (.Tuple [a,b] k2 pt2) pos) (Nm i j f g):=⟨by
 refine FY (bM hc hN hi hj hij hx hy (Nz ha.pe (Nz hb.pe TH hsb) hsa) hw hs) λDn σ H z=>?_
 obtain⟨M,E,S,fl,E',S',e,r,st,q⟩:=z
 obtain⟨⟨ds,S1⟩,e1,e⟩:=Am e
 refine HN (K:=X.K) (fs:=[f,g]) e1 r st λvs H1 M1 g1 st1 r1=>?_
 dsimp only at e
 split at e
 .rename_i d d'
  cases e
  cases r1 with
  |cons h1 t=>
   cases t with
   |cons h2 t=>
    cases t
    exact⟨_,_,rfl,q _ _ M1 g1 (((r.step g1.st).put h1).put h2) st1⟩
 .cases e⟩
noncomputable def SO:Ex:=λ_ _=>none
theorem QX{X:Cx}{st:pN}:DS X st SO:=⟨λ_ _ _ _ _ _ z=>by
 obtain⟨M,E,S,fl,E',S',e,_⟩:=z
 cases e⟩
abbrev Gd:=List (Nat×List D)
def gOk(gs:Gd)(S:Sto):Prop:=∀g∈gs,Ea S g.1=Gc g.2
abbrev Sr:=En->Sto->nB ((List D×Gd)×Sto)
structure dF(K:mx)(M:Ms)(H:Hp)(gs:Gd)(ds:List D)(J:It):Prop where
 go:∀(i:Nat) (H2:Hp) (M2:Ms) (S2:Sto),Sp1 M H M2 H2->StR K M2 S2 H2->gOk gs S2->i<ds.length->J.go i H2
 stop:∀(i:Nat) (H2:Hp) (M2:Ms) (S2:Sto),Sp1 M H M2 H2->StR K M2 S2 H2->gOk gs S2->ds.length<=i->J.stop i H2
 yld:∀(i:Nat) (H2:Hp) (M2:Ms) (S2:Sto) (x:V) (H3:Hp) (d:D),Sp1 M H M2 H2->StR K M2 S2 H2->gOk gs S2->ds[i]?=Gc d->J.yld i H2 x H3->(∀a o,H2 a=Gc o->H3 a=Gc o)/\DA K M2 H3 x d
noncomputable def tI(K:mx)(s:Sr):TI:=λσ H R=>∃M E S ds gs S',s E S=Gc ((ds,gs),S')/\EnR K M E σ H/\StR K M S H/\∀J H' M',Gr M H M' H'->StR K M' S' H'->dF K M' H' gs ds J->R J H'
structure DI(X:Cx)(tg iter:oI)(s:Sr):Prop where
 pe:PI X tg iter (tI X.K s)
theorem NL{X:Cx}{tg e:oI}{t t':TI}(h:PI X tg e t)(m:∀σ H R,t' σ H R->t σ H R):PI X tg e t':=λpins s σ H R I q=>h pins s σ H R I (m _ _ _ q)
noncomputable def mG(K:mx)(tl:TE):TI:=λσ H R=>tl σ H λx H1=>∃a,x=.ref a/\(((∃xs,SqL K H1 a xs)/\R (Itl K a) H1)\/((∃xs,SqT K H1 a xs)/\R (Itt K a) H1))
theorem bx{X:Cx}{tg l:oI}{tl:TE}(hl:PE X l tl):PI X tg l (mG X.K tl):=by
 intro pins s σ H R I h
 refine thn (hl pins s σ H _ I h) λv s1 ⟨x,H1,I1,r1,q1⟩=>?_
 obtain⟨a,e,q1⟩:=q1
 subst e
 cases r1
 rcases q1 with⟨⟨xs,hq⟩,q⟩|⟨⟨xs,hq⟩,q⟩
 .obtain⟨its,rv,p,hz⟩:=I1.list hq
  refine qL p.isList ?_
  refine⟨s1.heap.objs.size,[s1.heap.objs.size],_,_,H1,rfl,I1.kept (t':=s1.toks) λb o e=>my _ e,UN a _,⟨_,nM _ rfl,rfl,rfl⟩,λb hb=>?_,q⟩
  have e:b=s1.heap.objs.size:=by simpa using hb
  subst e
  exact I1.ZQ (nG _) (I1.hok.fresh (nG _))
 .obtain⟨its,rv,p,hz⟩:=I1.tuple hq
  refine qQ (show s1.heap.IsTuple a its.toArray from p) ?_
  refine⟨s1.heap.objs.size,[s1.heap.objs.size],_,_,H1,rfl,I1.kept (t':=s1.toks) λb o e=>my _ e,Ra a _,⟨_,nM _ rfl,rfl,rfl⟩,λb hb=>?_,q⟩
  have e:b=s1.heap.objs.size:=by simpa using hb
  subst e
  exact I1.ZQ (nG _) (I1.hok.fresh (nG _))
theorem Ai.get'{K:mx}{M:Ms}{H:Hp}{vs:List V}{ds:List D}{i:Nat}(h:Ai K M H vs ds)(hi:i<ds.length):∃x,vs[i]?=Gc x:=by
 have:=h.length
 exact⟨vs[i],nN (by omega)⟩
structure SqF(K:mx)(M:Ms)(H:Hp)(gs:Gd)(k:oO)(a:nH)(ds:List D):Prop where
 keep:∀(H2:Hp) (M2:Ms) (S2:Sto),Sp1 M H M2 H2->StR K M2 S2 H2->gOk gs S2->∃xs,(if k=true then SqT K H2 a xs else SqL K H2 a xs)/\Ai K M2 H2 xs ds
noncomputable def sqD(S:Sto):D->nB (List D×Gd)
 | .tup ds=>Gc (ds,[])
 | .lst ds=>Gc (ds,[])
 | .ref n=>(Ea S n).map λds=>(ds,[(n,ds)])
 | .scr ns=>Gc (ns.map .int,[])
 |_=>none
theorem RI{K:mx}{M:Ms}{H:Hp}{S:Sto}{v:V}{d:D}{ds:List D}{gs:Gd}(st:StR K M S H)(h:DA K M H v d)(e:sqD S d=Gc (ds,gs)):∃k a,v=.ref a/\SqF K M H gs k a ds:=by
 cases h with
 |tup h r=>cases e;exact⟨true,_,rfl,⟨λH2 M2 S2 g _ _=>⟨_,g.sqT h,r.step g⟩⟩⟩
 |lst h n r=>cases e;exact⟨false,_,rfl,⟨λH2 M2 S2 g _ _=>⟨_,SqL.of (g.keep _ _ h n),r.step g⟩⟩⟩
 |scr h=>
  cases e
  refine⟨false,_,rfl,⟨λH2 M2 S2 g _ _=>⟨_,?_,Gi⟩⟩⟩
  rcases h with⟨h,n⟩|h
  .rcases h with h|⟨o,h⟩
   .exact .inl (.inl (g.keep _ _ h n))
   .exact .inl (.inr ⟨o,g.keep _ _ h n⟩)
  .exact .inr h
 |ref h=>
  obtain⟨es,e1,e⟩:=Iu e
  cases e
  refine⟨false,_,rfl,⟨λH2 M2 S2 g st2 ok=>?_⟩⟩
  obtain⟨xs,h1,h2⟩:=st2.cell _ _ _ (LS g.pre h) (Eo (ok _ (oK.mpr rfl)))
  exact⟨xs,SqL.of h1,h2⟩
 |non=>cases e
 |bl b=>cases e
 |int b=>cases e
 |str b=>cases e
 |ty b=>cases e
 |dct h n r=>cases e
theorem jc{K:mx}{M:Ms}{H:Hp}{gs:Gd}{k:oO}{a:nH}{ds:List D}(h:SqF K M H gs k a ds):dF K M H gs ds (if k=true then Itt K a else Itl K a):=by
 cases k with
 |true=>
  exact{
   go:=λi H2 M2 S2 g st ok hi=>let⟨xs,h1,h2⟩:=h.keep H2 M2 S2 g st ok;let⟨x,hx⟩:=h2.get' hi;⟨xs,x,h1,hx⟩
   stop:=λi H2 M2 S2 g st ok hi=>let⟨xs,h1,h2⟩:=h.keep H2 M2 S2 g st ok;⟨xs,h1,by have:=h2.length;omega⟩
   yld:=λi H2 M2 S2 x H3 d g st ok hd hy=>by
    obtain⟨xs,h1,h2⟩:=h.keep H2 M2 S2 g st ok
    obtain⟨rfl,hy⟩:=hy
    refine⟨λ_ _ e=>e,?_⟩
    have hx:=hy xs h1
    obtain⟨x',h3,h4⟩:=h2.get hd
    rw[hx]at h3;cases h3
    exact h4}
 |false=>
  exact{
   go:=λi H2 M2 S2 g st ok hi=>let⟨xs,h1,h2⟩:=h.keep H2 M2 S2 g st ok;let⟨x,hx⟩:=h2.get' hi;⟨xs,x,h1,hx⟩
   stop:=λi H2 M2 S2 g st ok hi=>let⟨xs,h1,h2⟩:=h.keep H2 M2 S2 g st ok;⟨xs,h1,by have:=h2.length;omega⟩
   yld:=λi H2 M2 S2 x H3 d g st ok hd hy=>by
    obtain⟨xs,h1,h2⟩:=h.keep H2 M2 S2 g st ok
    obtain⟨rfl,hy⟩:=hy
    refine⟨λ_ _ e=>e,?_⟩
    have hx:=hy xs h1
    obtain⟨x',h3,h4⟩:=h2.get hd
    rw[hx]at h3;cases h3
    exact h4}
noncomputable def IP(f:Ev):Sr:=λE S=>(f E S).bind λr=>(sqD r.2 r.1).map λp=>(p,r.2)
theorem M8{S:Sto}{d:D}{ds:List D}{gs:Gd}(e:sqD S d=Gc (ds,gs)):gOk gs S:=by
 cases d<;>first|(cases e;done)|skip
 all_goals first
  |(cases e;intro g hg;cases hg;done)
  |(obtain⟨es,e1,e⟩:=Iu e
    cases e
    intro g hg
    rw[oK.mp hg]
    exact e1)
theorem DB{X:Cx}{tg e:oI}{f:Ev}(h:DE X e f):DI X tg e (IP f):=⟨NL (bx h.pe) λσ H R z=>by
 obtain⟨M,E,S,ds,gs,S',e,r,st,q⟩:=z
 obtain⟨⟨d,S1⟩,e1,e⟩:=Am e
 obtain⟨⟨ds',gs'⟩,e2,e⟩:=Iu e
 cases e
 refine⟨M,E,S,d,S1,e1,r,st,λv H1 M1 g1 st1 r1=>?_⟩
 obtain⟨k,a,rfl,sq⟩:=RI st1 r1 e2
 obtain⟨xs,hs,_⟩:=sq.keep H1 M1 S1 (Gr.refl st1.mo).st st1 (M8 e2)
 have it:=jc sq
 refine⟨a,rfl,?_⟩
 cases k with
 |true=>exact .inr ⟨⟨xs,hs⟩,q _ _ M1 g1 st1 it⟩
 |false=>exact .inl ⟨⟨xs,hs⟩,q _ _ M1 g1 st1 it⟩⟩
noncomputable def KS(lo:Int)(n:Nat):List D:=(oF n).map λ(i:Nat)=>.int (lo+(i:Int))
theorem dX{K:mx}{M:Ms}{H:Hp}{lo:Int}{n:Nat}:dF K M H [] (KS lo n) (Itr lo n) where
 go:=λi H2 M2 S2 g st ok hi=>by
  have:i<n:=by unfold KS at hi;simpa using hi
  exact this
 stop:=λi H2 M2 S2 g st ok hi=>by
  have:n<=i:=by unfold KS at hi;simpa using hi
  exact this
 yld:=λi H2 M2 S2 x H3 d g st ok hd hy=>by
  obtain⟨rfl,rfl⟩:=hy
  refine⟨λ_ _ e=>e,?_⟩
  unfold KS at hd
  rw[ng]at hd
  cases e:(oF n)[i]? with
  |none=>rw[e]at hd;cases hd
  |some j=>
   rw[e]at hd
   cases hd
   have:j=i:=by
    obtain⟨h1,h2⟩:=nP.mp e
    simpa using h2.symm
   subst this
   exact .int _
noncomputable def Ly(fs:List Ev):Sr:=λE S=>(evs fs E S).bind λr=>match r.1 with
 | [.int j]=>if(decide (-(2^62)<=j) && decide (j<2^62))=true then Gc ((KS 0 j.toNat,[]),r.2)else none
 | [.int i,.int j]=>if(decide (-(2^62)<=i) && decide (i<2^62) && decide (-(2^62)<=j) && decide (j<2^62))=true then Gc ((KS i (j-i).toNat,[]),r.2)else none
 |_=>none
theorem WO{K:mx}{M:Ms}{H:Hp}{vs:List V}{j:Int}(h:Ai K M H vs [.int j]):vs=[.int j]:=by
 cases h with
 |cons h t=>cases t;cases h;rfl
theorem Eb{X:Cx}{tg a:oI}{o:Ev}{p pos:Pos}(hg:Gl X "range")(hm:X.mg "range"=none)(ha:DEs X [a] [o])(hs:nv [a] X.env=[(false,eval a X.env)]:=by rfl):DI X tg (.Call (.Name "range" p) [a] [] pos) (Ly [o]):=⟨
 NL (UZ hg hm ha.pe hs) λσ H R z=>by
  obtain⟨M,E,S,ds,gs,S',e,r,st,q⟩:=z
  obtain⟨⟨ws,S1⟩,e1,e⟩:=Am e
  have hl:=Pd e1
  refine HN e1 r st λvs H1 M1 g1 st1 r1=>?_
  dsimp only at e
  split at e
  .split at e
   .rename_i j hk
    rw[nW]at hk
    cases e
    exact⟨j,WO r1,nT hk.1,nT hk.2,q _ _ M1 g1 st1 dX⟩
   .cases e
  .simp at hl
  .cases e⟩
open Classical in
def KR(gs:Gd)(t:Tf)(body:Ex):List D->En->Sto->nB (Fl×En×Sto)
 | [],E,S=>if gOk gs S then Gc (.nx,E,S)else none
 |d::ds,E,S=>if gOk gs S then(t d E S).bind λE1=>(body E1 S).bind λr=>match r.1 with
  | .nx=>KR gs t body ds r.2.1 r.2.2
  | .ret w=>Gc (.ret w,r.2)
  else none
def Kn(s:Sr)(t:Tf)(body:Ex):Ex:=λE S=>(s E S).bind λr=>KR r.1.2 t body r.1.1 E r.2
theorem O6{α:Type}{xs:List α}{i:Nat}{x:α}{r:List α}(h:xs.drop i=x::r):xs[i]?=Gc x/\xs.drop (i+1)=r/\i<xs.length:=by
 have hi:i<xs.length:=by
  by_cases hi:i<xs.length
  .exact hi
  .rw[uE (by omega)]at h;cases h
 rw[qP hi]at h
 cases h
 exact⟨nN hi,rfl,hi⟩
theorem FU{X:Cx}{tg iter:oI}{body:List pN}{s:Sr}{t:Tf}{b:Ex}{pos:Pos}(hp:y9 (model X.prog X.w) X.A X.env X.xe)(hc:X.calm=true)(hi:DI X tg iter s)(hg:DG X tg t)(hb:DSs X body b)(hs:∀x,foldedSetIterable iter X.env x=pure x:=by intro _;rfl):DS X (.For tg iter body [] pos) (Kn s t b):=⟨FY (dI hp hc hi.pe hg.pe hb.pe hs) λDn σ H z=>by
 obtain⟨M,E,S,fl,E',S',e,r,st,q⟩:=z
 obtain⟨⟨⟨ds,gs⟩,S1⟩,e1,e⟩:=Am e
 dsimp only at e
 refine⟨M,E,S,ds,gs,S1,e1,r,st,λJ H1 M1 g1 st1 it=>?_⟩
 refine⟨λi m σ' H'=>m=ds.length-i/\∃E2 S2 M2,KR gs t b (ds.drop i) E2 S2=Gc (fl,E',S')/\Gr M1 H1 M2 H'/\EnR X.K M2 E2 σ' H'/\StR X.K M2 S2 H',⟨_,rfl,E,S1,M1,e,.refl st1.mo,r.step g1.st,st1⟩,λi m σ2 H2 hW=>?_⟩
 obtain⟨rfl,E2,S2,M2,e2,g2,r2,st2⟩:=hW
 cases ed:ds.drop i with
 |nil=>
  rw[ed]at e2
  unfold KR at e2
  split at e2
  .rename_i ok
   cases e2
   left
   exact⟨it.stop i H2 M2 _ g2.st st2 ok (xG.mp ed),q _ _ M2 (g1.trans g2) r2 st2⟩
  .cases e2
 |cons d rest=>
  obtain⟨d1,d2,d3⟩:=O6 ed
  rw[ed]at e2
  unfold KR at e2
  split at e2
  .rename_i ok
   obtain⟨E3,e3,e2⟩:=Am e2
   obtain⟨⟨f4,E4,S4⟩,e4,e2⟩:=Am e2
   dsimp only at e2
   right
   refine⟨it.go i H2 M2 S2 g2.st st2 ok d3,λσ' H'=>∃m',m'<ds.length-i/\(m'=ds.length-(i+1)/\∃E2 S2 M2,KR gs t b (ds.drop (i+1)) E2 S2=Gc (fl,E',S')/\Gr M1 H1 M2 H'/\EnR X.K M2 E2 σ' H'/\StR X.K M2 S2 H'),λσ' H' z=>z,λx H3 hy=>?_⟩
   obtain⟨k3,rx⟩:=it.yld i H2 M2 S2 x H3 d g2.st st2 ok d1 hy
   have g3:Gr M2 H2 M2 H3:=.grow st2.mo k3
   refine⟨M2,d,E2,E3,S2,e3,r2.step g3.st,st2.grow k3,rx,λσ4 r4=>?_⟩
   refine⟨M2,E3,S2,f4,E4,S4,e4,r4,st2.grow k3,?_⟩
   split at e2
   .exact λσ6 H6 M6 g6 r6 st6=>⟨_,by omega,rfl,E4,S4,M6,by rw[d2];exact e2,(g2.trans g3).trans g6,r6,st6⟩
   .cases e2
    exact λv H6 M6 g6 st6 r6=>q _ _ M6 (((g1.trans g2).trans g3).trans g6) st6 r6
  .cases e2⟩
noncomputable def G9(c:Ev)(b:Ex):Nat->En->Sto->nB (Fl×En×Sto)
 |0,_,_=>none
 |k+1,E,S=>(c E S).bind λr=>match r.1 with
  | .bl true=>(b E r.2).bind λp=>match p.1 with
    | .nx=>G9 c b k p.2.1 p.2.2
    | .ret w=>Gc (.ret w,p.2)
  | .bl false=>Gc (.nx,E,r.2)
  |_=>none
noncomputable def PV(fuel:En->Nat)(c:Ev)(b:Ex):Ex:=λE S=>G9 c b (fuel E) E S
theorem Qf{X:Cx}{c:oI}{body:List pN}{k:Ev}{b:Ex}{pos:Pos}(fuel:En->Nat)(hp:y9 (model X.prog X.w) X.A X.env X.xe)(hc:DT X c k)(hb:DSs X body b):DS X (.While c body [] pos) (PV fuel k b):=⟨
 FY (Wq hp hc.pe hb.pe) λDn σ H z=>by
  obtain⟨M,E,S,fl,E',S',e,r,st,q⟩:=z
  refine⟨λm σ' H'=>∃E2 S2 M2,G9 k b m E2 S2=Gc (fl,E',S')/\Gr M H M2 H'/\EnR X.K M2 E2 σ' H'/\StR X.K M2 S2 H',⟨fuel E,E,S,M,e,.refl st.mo,r,st⟩,λm σ2 H2 hW=>?_⟩
  obtain⟨E2,S2,M2,e2,g2,r2,st2⟩:=hW
  cases m with
  |zero=>cases e2
  |succ m=>
   obtain⟨⟨w3,S3⟩,e3,e2⟩:=Am e2
   dsimp only at e2
   split at e2
   .obtain⟨⟨f4,E4,S4⟩,e4,e2⟩:=Am e2
    refine⟨M2,E2,S2,true,S3,e3,r2,st2,λH3 M3 g3 st3=>?_⟩
    refine Yz ⟨λσ' H'=>∃m',m'<m+1/\∃E2 S2 M2,G9 k b m' E2 S2=Gc (fl,E',S')/\Gr M H M2 H'/\EnR X.K M2 E2 σ' H'/\StR X.K M2 S2 H',λσ' H' z=>z,?_⟩
    refine⟨M3,E2,S3,f4,E4,S4,e4,r2.step g3.st,st3,?_⟩
    dsimp only at e2
    split at e2
    .exact λσ5 H5 M5 g5 r5 st5=>⟨m,by omega,E4,S4,M5,e2,(g2.trans g3).trans g5,r5,st5⟩
    .cases e2
     exact λv H5 M5 g5 st5 r5=>q _ _ M5 ((g2.trans g3).trans g5) st5 r5
   .cases e2
    refine⟨M2,_,S2,false,_,e3,r2,st2,λH3 M3 g3 st3=>?_⟩
    refine ZH ?_
    exact q _ _ M3 (g2.trans g3) (r2.step g3.st) st3
   .cases e2⟩
noncomputable def Rz(i:Nat):En->Nat:=λE=>match at? E i with
 |some (.int j)=>j.natAbs+2
 |_=>0
section
variable{K:mx}{M M' M2:Ms}{H H' H2:Hp}{S:Sto}
structure GrX(M:Ms)(H:Hp)(M':Ms)(H':Hp):Prop where
 pre:M.cel <+: M'.cel
 fresh:∀a,a∈M'.cel->a∈M.cel\/H a=none
 keep:∀a o,H a=Gc o->a∉M.cel->H' a=Gc o
 some:∀a,H a≠none->H' a≠none
theorem GrX.none(g:GrX M H M' H'){a:nH}(h:H' a=none):H a=none:=by
 cases e:H a with
 |none=>rfl
 |some o=>exact absurd h (g.some a (by rw[e];intro z;cases z))
theorem Gr.x(g:Gr M H M' H'):GrX M H M' H':=⟨g.pre,g.fresh,g.keep,g.some⟩
theorem GrX.trans(h:GrX M H M' H')(g:GrX M' H' M2 H2):GrX M H M2 H2:=
 ⟨h.pre.trans g.pre,λa z=>(g.fresh a z).elim (h.fresh a) λz=>.inr (h.none z),λa o e n=>g.keep a o (h.keep a o e n) (λz=>by
   rcases h.fresh a z with z|z
   .exact n z
   .rw[e]at z;cases z),λa e=>g.some a (h.some a e)⟩
theorem StR.cg(r:StR K M S H){a:nH}(e:H a=none):StR K ⟨M.cel,a::M.tmp⟩ S (upd H a (.lst []))/\GrX M H ⟨M.cel,a::M.tmp⟩ (upd H a (.lst []))/\Sp1 M H ⟨M.cel,a::M.tmp⟩ (upd H a (.lst [])):=by
 have k:∀b o,H b=Gc o->upd H a (.lst []) b=Gc o:=Fi e
 have na:¬M.mem a:=λz=>r.mo.some z e
 have s1:Sp1 M H ⟨M.cel,a::M.tmp⟩ (upd H a (.lst [])):=⟨r.mo,pU,λb z=>by
  rcases z with z|z
  .exact .inl (.inl z)
  .rcases nK.mp z with z|z
   .subst z;exact .inr e
   .exact .inl (.inr z),λb o eb _=>k b o eb⟩
 refine⟨⟨λb z=>?_,r.nd,λb hb z=>?_,r.len,λn b c h1 h2=>?_⟩,⟨pU,λb z=>.inl z,λb o eb _=>k b o eb,λb eb z=>?_⟩,s1⟩
 .by_cases h:b=a
  .subst h;exact .inl ⟨[],Ay⟩
  .rw[AY h]
   refine r.mo b ?_
   rcases z with z|z
   .exact .inl z
   .rcases nK.mp z with z|z
    .exact absurd z h
    .exact .inr z
 .rcases nK.mp hb with hb|hb
  .subst hb;exact na (.inl z)
  .exact r.nt b hb z
 .have q:=r.cell n b c h1 h2
  cases c with
  |lst ds=>obtain⟨xs,e,rr⟩:=q;exact⟨xs,k _ _ e,rr.step s1⟩
  |dct ds=>obtain⟨xs,e,rr⟩:=q;exact⟨xs,k _ _ e,rr.step s1⟩
  |tab ds=>obtain⟨xs,e,rr⟩:=q;exact⟨xs,k _ _ e,rr.step s1⟩
 .cases h:H b with
  |none=>exact eb h
  |some o=>rw[k b o h]at z;cases z
theorem StR.Zu(r:StR K M S H){a:nH}{ys:List V}(ha:a∈M.tmp):StR K M S (upd H a (.lst ys))/\Sp1 M H M (upd H a (.lst ys)):=by
 have s1:Sp1 M H M (upd H a (.lst ys)):=⟨r.mo,pU,λb z=>.inl z,λb o eb nb=>by rw[AY (λz=>nb (by rw[z];exact .inr ha))];exact eb⟩
 refine⟨⟨λb z=>?_,r.nd,r.nt,r.len,λn b c h1 h2=>?_⟩,s1⟩
 .by_cases h:b=a
  .subst h;exact .inl ⟨ys,Ay⟩
  .rw[AY h];exact r.mo b z
 .have hb:b≠a:=λz=>r.nt a ha (by rw[<-z];exact nZ h1)
  have q:=r.cell n b c h1 h2
  cases c with
  |lst ds=>obtain⟨xs,e,rr⟩:=q;exact⟨xs,by rw[AY hb];exact e,rr.step s1⟩
  |dct ds=>obtain⟨xs,e,rr⟩:=q;exact⟨xs,by rw[AY hb];exact e,rr.step s1⟩
  |tab ds=>obtain⟨xs,e,rr⟩:=q;exact⟨xs,by rw[AY hb];exact e,rr.step s1⟩
theorem StR.aN{c:List nH}{t:List nH}{a:nH}{xs:List V}{ds:List D}{cf:oO}{d:D}{S':Sto}(r:StR K ⟨c,a::t⟩ S H)(nt:a∉t)(e:H a=Gc (.lst xs))(rr:Ai K ⟨c,a::t⟩ H xs ds)(ef:fin cf (.own ds) S=Gc (d,S')):∃c',StR K ⟨c',t⟩ S' H/\DA K ⟨c',t⟩ H (.ref a) d/\c <+: c'/\(∀b∈c',b∈c\/b=a):=by
 have nc:a∉c:=r.nt a nO
 cases cf with
 |false=>
  cases ef
  have s1:Sp1 ⟨c,a::t⟩ H ⟨c,t⟩ H:=⟨r.mo,pU,λb z=>.inl (z.imp id (nC _)),λ_ _ e _=>e⟩
  refine⟨c,⟨λb z=>r.mo b (z.imp id (nC _)),r.nd,λb hb=>r.nt b (nC _ hb),r.len,λn b cl h1 h2=>?_⟩,.lst e (λz=>z.elim nc nt) (rr.step s1),pU,λb z=>.inl z⟩
  have q:=r.cell n b cl h1 h2
  cases cl with
  |lst ds=>obtain⟨xs,e,rr⟩:=q;exact⟨xs,e,rr.step s1⟩
  |dct ds=>obtain⟨xs,e,rr⟩:=q;exact⟨xs,e,rr.step s1⟩
  |tab ds=>obtain⟨xs,e,rr⟩:=q;exact⟨xs,e,rr.step s1⟩
 |true=>
  cases ef
  have s1:Sp1 ⟨c,a::t⟩ H ⟨c++[a],t⟩ H:=⟨r.mo,sD _ _,λb z=>by
   rcases z with z|z
   .rcases oC.mp z with z|z
    .exact .inl (.inl z)
    .exact .inl (.inr (by rw[oK.mp z];exact nO))
   .exact .inl (.inr (nC _ z)),λ_ _ e _=>e⟩
  have hl:c.length=S.length:=r.len
  refine⟨c++[a],⟨λb z=>?_,?_,λb hb z=>?_,by simp[hl],λn b cl h1 h2=>?_⟩,.ref ?_,sD _ _,λb z=>?_⟩
  .refine r.mo b ?_
   rcases z with z|z
   .rcases oC.mp z with z|z
    .exact .inl z
    .exact .inr (by rw[oK.mp z];exact nO)
   .exact .inr (nC _ z)
  .rw[sW]
   refine⟨r.nd,by simp,λx hx y hy z=>?_⟩
   simp at hy;subst hy
   exact nc (by rw[<-z];exact hx)
  .rcases oC.mp z with z|z
   .exact r.nt b (nC _ hb) z
   .rw[oK.mp z]at hb;exact nt hb
  .by_cases h:n<S.length
   .rw[nF (by rw[hl];exact h)]at h1
    rw[nF h]at h2
    have q:=r.cell n b cl h1 h2
    cases cl with
    |lst ds=>obtain⟨xs,e,rr⟩:=q;exact⟨xs,e,rr.step s1⟩
    |dct ds=>obtain⟨xs,e,rr⟩:=q;exact⟨xs,e,rr.step s1⟩
    |tab ds=>obtain⟨xs,e,rr⟩:=q;exact⟨xs,e,rr.step s1⟩
   .have hm:n=S.length:=by
     have:=(nP.mp h2).1
     simp at this;omega
    subst hm
    rw[oP (by rw[hl];exact nG _)]at h1
    rw[oP (nG _)]at h2
    rw[hl]at h1
    simp at h1 h2
    subst h1 h2
    exact⟨xs,e,rr.step s1⟩
  .rw[<-hl];exact nY
  .rcases oC.mp z with z|z
   .exact .inl z
   .exact .inr (oK.mp z)
end
open Classical in
def CI(gs:Gd)(t:Tf)(c:Ev)(f:Ev):List D->List D->En->Sto->nB (List D×Sto)
 | [],acc,_,S=>if gOk gs S then Gc (acc,S)else none
 |d::ds,acc,E,S=>if gOk gs S then(if acc.length<sizeLine then(t d E S).bind λE1=>(c E1 S).bind λr=>match r.1 with
   | .bl true=>(f E1 r.2).bind λp=>CI gs t c f ds (acc++[p.1]) E1 p.2
   | .bl false=>CI gs t c f ds acc E1 r.2
   |_=>none
  else none)else none
noncomputable def DM:Ev:=λ_ S=>Gc (.bl true,S)
noncomputable def bP(cap:List Nat)(m:Nat)(E:En):En:=cap.map (at? E)++nX m none
def MO(cf:oO)(cap:List Nat)(m:Nat)(s:Sr)(t:Tf)(c:Ev)(f:Ev):Ev:=λE S=>(s E S).bind λr=>(CI r.1.2 t c f r.1.1 [] (bP cap m E) r.2).bind λq=>fin cf (.own q.1) q.2
noncomputable abbrev FK:=MO false
noncomputable abbrev JD:=MO true
noncomputable def ixC(cap:List Nat)(m:Nat):List (nB Nat):=cap.map Gc++nX m none
theorem EnR.cap{K:mx}{M:Ms}{E:En}{σ:Sg}{H:Hp}(r:EnR K M E σ H)(cap:List Nat)(m:Nat):EnR K M (bP cap m E) (sig (ixC cap m) σ) H:=by
 unfold bP sig ixC
 refine⟨by simp,λi d e=>?_⟩
 have h1:=Ts e
 rw[ng]at h1
 cases e1:cap[i]? with
 |none=>rw[e1]at h1;cases h1
 |some j=>
  rw[e1]at h1
  have h2:at? E j=Gc d:=by simpa using h1
  obtain⟨v,hv,rd⟩:=r.val j d (at?_some h2)
  refine⟨v,?_,rd⟩
  have hi:i<cap.length:=(nP.mp e1).1
  rw[qa,nF (by simpa using hi),ng,ng,e1]
  show Gc ((σ[j]?).join)=Gc (Gc v)
  rw[hv]
  rfl
theorem Sk{K:mx}{cf:oO}{cap:List Nat}{m:Nat}{s:Sr}{t:Tf}{c f:Ev}{σ:Sg}{H:Hp}{Q:VK}(h:tD K (MO cf cap m s t c f) σ H Q):Y6 (ixC cap m) (tI K s) (tG K t) (tDT K c) (tD K f) σ H Q:=by
 obtain⟨M,E,S,d,S',e,r,st,q⟩:=h
 obtain⟨⟨⟨ds,gs⟩,S1⟩,e1,e⟩:=Am e
 obtain⟨⟨accf,Sf⟩,e3,e⟩:=Am e
 dsimp only at e e3
 refine⟨M,E,S,ds,gs,S1,e1,r,st,λJ H1 M1 g1 st1 it A0 hD=>?_⟩
 obtain⟨st0,gx0,s0⟩:=st1.cg hD
 have nt:A0∉M1.tmp:=λz=>st1.mo.some (.inr z) hD
 refine⟨λi mm σ' H' ys=>mm=ds.length-i/\∃Ei Si Mi acc,CI gs t c f (ds.drop i) acc Ei Si=Gc (accf,Sf)/\GrX M1 H1 Mi H'/\Mi.tmp=A0::M1.tmp/\EnR K Mi Ei σ' H'/\StR K Mi Si H'/\H' A0=Gc (.lst ys)/\Ai K Mi H' ys acc,
  ⟨_,rfl,_,S1,_,[],e3,gx0,rfl,((r.step g1.st).step s0).cap cap m,st0,Ay,.nil⟩,λi mm σ2 H2 ys hW=>?_⟩
 obtain⟨rfl,Ei,Si,Mi,acc,ec,gx,ht,r2,st2,hy,ry⟩:=hW
 have sp:Sp1 M1 H1 Mi H2:=⟨st1.mo,gx.pre,λa z=>by
  rcases z with z|z
  .exact(gx.fresh a z).imp .inl id
  .rw[ht]at z
   rcases nK.mp z with z|z
   .subst z;exact .inr hD
   .exact .inl (.inr z),λa o eo no=>gx.keep a o eo λz=>no (.inl z)⟩
 refine⟨hy,?_⟩
 cases ed:ds.drop i with
 |nil=>
  rw[ed]at ec
  unfold CI at ec
  split at ec
  .rename_i ok
   cases ec
   left
   obtain⟨ci,ti⟩:=Mi
   have ht':ti=A0::M1.tmp:=ht
   subst ht'
   obtain⟨c',st',rd',pr',sub'⟩:=st2.aN nt hy ry e
   refine⟨it.stop i H2 _ _ sp st2 ok (xG.mp ed),q _ _ ⟨c',M1.tmp⟩ (g1.trans ⟨st1.mo,gx.pre.trans pr',rfl,λa z=>?_,gx.keep,gx.some⟩) st' rd'⟩
   rcases sub' a z with z|z
   .exact gx.fresh a z
   .subst z;exact .inr hD
  .cases ec
 |cons d rest=>
  obtain⟨d1,d2,d3⟩:=O6 ed
  rw[ed]at ec
  unfold CI at ec
  split at ec
  .rename_i ok
   split at ec
   .rename_i hz
    obtain⟨E3,e4,ec⟩:=Am ec
    obtain⟨⟨w5,S5⟩,e5,ec⟩:=Am ec
    right
    refine⟨it.go i H2 Mi Si sp st2 ok d3,by rw[ry.length];exact hz,λx H3 hyl=>?_⟩
    obtain⟨k3,rx⟩:=it.yld i H2 Mi Si x H3 d sp st2 ok d1 hyl
    have g3:Gr Mi H2 Mi H3:=.grow st2.mo k3
    have st3:=st2.grow k3
    refine⟨Mi,d,Ei,E3,Si,e4,r2.step g3.st,st3,rx,λσ4 r4=>?_⟩
    have hA:A0∈Mi.tmp:=by rw[ht];exact nO
    have hy3:H3 A0=Gc (.lst ys):=k3 _ _ hy
    have ry3:Ai K Mi H3 ys acc:=ry.step g3.st
    have fin:∀{E6:En} {S6:Sto} {M6:Ms} {H6:Hp} {zs:List V} {acc6:List D},CI gs t c f rest acc6 E6 S6=Gc (accf,Sf)->GrX M1 H1 M6 H6->M6.tmp=A0::M1.tmp->EnR K M6 E6 σ4 H6->StR K M6 S6 H6->H6 A0=Gc (.lst zs)->Ai K M6 H6 zs acc6->
      ∃m',m'<ds.length-i/\(m'=ds.length-(i+1)/\∃Ei Si Mi acc,CI gs t c f (ds.drop (i+1)) acc Ei Si=Gc (accf,Sf)/\GrX M1 H1 Mi H6/\Mi.tmp=A0::M1.tmp/\EnR K Mi Ei σ4 H6/\StR K Mi Si H6/\H6 A0=Gc (.lst zs)/\Ai K Mi H6 zs acc):=
     λ{E6 S6 M6 H6 zs acc6} ec g6 t6 r6 st6 h6 y6=>⟨_,by omega,rfl,E6,S6,M6,acc6,by rw[d2];exact ec,g6,t6,r6,st6,h6,y6⟩
    dsimp only at ec
    split at ec
    .obtain⟨⟨w7,S7⟩,e7,ec⟩:=Am ec
     refine⟨Mi,E3,Si,true,S5,e5,r4,st3,λH5 M5 g5 st5=>?_⟩
     refine Yz ?_
     refine⟨M5,E3,S5,w7,S7,e7,r4.step g5.st,st5,λy H7 M7 g7 st7 d7=>?_⟩
     have nA:∀{M6:Ms} {H6:Hp} {S6:Sto},StR K M6 S6 H6->A0∈M6.tmp->A0∉M6.cel:=λr6 h6=>r6.nt A0 h6
     have hA5:A0∈M5.tmp:=by rw[g5.tmp];exact hA
     have hA7:A0∈M7.tmp:=by rw[g7.tmp];exact hA5
     have hy5:H5 A0=Gc (.lst ys):=g5.keep _ _ hy3 (nA st3 hA)
     have hy7:H7 A0=Gc (.lst ys):=g7.keep _ _ hy5 (nA st5 hA5)
     have ry7:Ai K M7 H7 ys acc:=(ry3.step g5.st).step g7.st
     refine⟨hy7,?_⟩
     obtain⟨st8,s8⟩:=st7.Zu (ys:=ys++[y]) hA7
     have gx7:GrX M1 H1 M7 H7:=((gx.trans g3.x).trans g5.x).trans g7.x
     have gx8:GrX M1 H1 M7 (upd H7 A0 (.lst (ys++[y]))):=⟨gx7.pre,gx7.fresh,λa o eo no=>by
      rw[AY (λz=>by subst z;rw[hD]at eo;cases eo)]
      exact gx7.keep a o eo no,λa ea=>by
      by_cases h:a=A0
      .subst h;rw[Ay];intro z;cases z
      .rw[AY h];exact gx7.some a ea⟩
     exact fin ec gx8 (by rw[g7.tmp,g5.tmp];exact ht) (((r4.step g5.st).step g7.st).step s8) st8 Ay ((ry7.append (.cons d7 .nil)).step s8)
    .refine⟨Mi,E3,Si,false,S5,e5,r4,st3,λH5 M5 g5 st5=>?_⟩
     refine ZH ?_
     exact fin ec ((gx.trans g3.x).trans g5.x) (by rw[g5.tmp];exact ht) (r4.step g5.st) st5 (g5.keep _ _ hy3 (st3.nt A0 hA)) (ry3.step g5.st)
    .cases ec
   .cases ec
  .cases ec
structure DTs(X:Cx)(ifs:List oI)(c:Ev):Prop where
 pe:PTs X ifs (tDT X.K c)
theorem Xl{X:Cx}{e:List oI}{t t':TT}(h:PTs X e t)(m:∀σ H Q,t' σ H Q->t σ H Q):PTs X e t':=λpins s σ H Q I q=>h pins s σ H Q I (m _ _ _ q)
theorem DV{X:Cx}:DTs X [] DM:=⟨Xl aW λσ H Q z=>by
 obtain⟨M,E,S,b,S',e,r,st,q⟩:=z
 cases e
 exact q _ M (.refl st.mo) st⟩
theorem Gh{X:Cx}{c:oI}{f:Ev}(h:DT X c f):DTs X [c] f:=⟨af h.pe⟩
section
variable{X:Cx}{N':List Str}{cf:oO}{cap:List Nat}{m:Nat}{scope:rQ}{elt tg iter:oI}{ifs:List oI}{pos:Pos}{s:Sr}{t:Tf}{c f:Ev}
def Blk(X:Cx)(N':List Str)(scope:rQ)(tg:oI)(ifs:List oI)(elt:oI)(t:Tf)(c f:Ev):Prop:=
 ∀(s:m8) (H:Hp) (fp:List nH),DG (HM X N' scope s H fp) tg t/\DTs (HM X N' scope s H fp) ifs c/\DE (HM X N' scope s H fp) elt f
theorem Ca(cap:List Nat)(m:Nat)(N':List Str)(hc:X.calm=true)(S:Ab X.N X.env.scope N' (ixC cap m) scope)(hi:DI X tg iter s)(hb:Blk X N' scope tg ifs elt t c f)(hs:∀x,foldedSetIterable iter X.env x=pure x:=by intro _;rfl):DE X (.ListComp elt [⟨tg,iter,ifs,0⟩] scope pos) (MO cf cap m s t c f):=⟨
 BI (aU (g:=tG X.K t) (tc:=tDT X.K c) (te:=tD X.K f) hc S hi.pe (λs H fp=>⟨(hb s H fp).1.pe,(hb s H fp).2.1.pe,(hb s H fp).2.2.pe⟩) hs) λ_ _ _ h=>Sk h⟩
theorem Er{i:Nat}{y:Str}{py spos:Pos}(cap:List Nat)(m:Nat)(N':List Str)(hc:X.calm=true)(hN:X.N.Nodup)(hi':X.N[i]?=Gc y)(hx:X.env.scope.names.lookup y=Gc .local)(S:Ab X.N X.env.scope N' (ixC cap m) scope)(hi:DI X tg iter s)(hb:Blk X N' scope tg ifs elt t c f)(hsw:swapsWith (.ListComp elt [⟨tg,iter,ifs,0⟩] scope pos) (Gc (.Name y py)) spos.line X.env=pure true:=by rfl)(hs:∀x,foldedSetIterable iter X.env x=pure x:=by intro _;rfl):DS X (.Assign [.Name y py] (.ListComp elt [⟨tg,iter,ifs,0⟩] scope pos) spos) (CC i (MO cf cap m s t c f)):=⟨
 FY (RY (g:=tG X.K t) (tc:=tDT X.K c) (te:=tD X.K f) hc hN hi' hx S hi.pe (λs H fp=>⟨(hb s H fp).1.pe,(hb s H fp).2.1.pe,(hb s H fp).2.2.pe⟩) hsw hs) λDn σ H z=>by
  obtain⟨M,E,S,fl,E',S',e,r,st,q⟩:=z
  obtain⟨⟨d,S1⟩,e1,e⟩:=Iu e
  cases e
  exact Sk ⟨M,E,S,d,S1,e1,r,st,λv H1 M1 g1 st1 r1=>q _ _ M1 g1 ((r.step g1.st).put r1) st1⟩⟩
end
noncomputable def MB{α:Type}(xs:List α)(lo hi:nB Int):List α:=(xs.drop (HT.sIx xs.length 0 lo)).take (HT.sIx xs.length xs.length hi-HT.sIx xs.length 0 lo)
theorem SX{K:mx}{M:Ms}{H:Hp}{xs:List V}{ds:List D}(h:Ai K M H xs ds)(lo hi:nB Int):Ai K M H (YO xs lo hi) (MB ds lo hi):=by
 unfold YO MB
 rw[h.length]
 exact(h.drop _).take _
theorem TZ{α:Type}{xs:List α}{lo hi:nB Int}(h1:HT.sIx xs.length 0 lo=0)(h2:HT.sIx xs.length xs.length hi=xs.length):MB xs lo hi=xs:=by
 unfold MB
 rw[h1,h2]
 simp
noncomputable def wSl(lo hi:nB Int):Op1:=λw=>match w with
 | .val (.tup ds)=>Gc (.val (.tup (MB ds lo hi)))
 | .val (.str z)=>if z.length<=sizeLine then Gc (.val (.str (Txt.slice z lo hi)))else none
 |w=>(asL w).map λds=>.own (MB ds lo hi)
def mD(K:mx):V->nB Int->nB Int->Hp->VK->Prop:=λx lo hi H Q=>∃M w r,wSl lo hi w=Gc r/\MOk M H/\Sh K M H x w/\∀v H',Nw K M H H' v r->Q v H'
theorem dc{X:Cx}:SlR X (λx lo hi H Q=>∃z,x=.str z/\z.length<=sizeLine/\Q (.str (Txt.slice z lo hi)) H):=by
 intro pins s σ H x v vl vu lo hi sl Q I rx hs pl pu h
 obtain⟨z,rfl,hz,q⟩:=h
 obtain⟨t,rfl⟩:=rx
 have fin:∀t' k,EP X pins σ Q (.str (Txt.slice z lo hi) t') {s with toks:=k}:=λt' k=>⟨.str _,H,I.tok k,⟨t',rfl⟩,q⟩
 cases pl with
 |none=>
  cases pu with
  |none=>exact⟨"str",_,rL.lookup,wC _ _ _,rT (l:=none) (u:=none) (st:=none) hs rfl (um ⟨nL (wH z _ _) hz,fin⟩)⟩
  |int j u=>exact⟨"str",_,rL.lookup,wC _ _ _,rT (l:=none) (u:=Gc (j,u)) (st:=none) hs rfl (um ⟨nL (wH z _ _) hz,fin⟩)⟩
 |int i u'=>
  cases pu with
  |none=>exact⟨"str",_,rL.lookup,wC _ _ _,rT (l:=Gc (i,u')) (u:=none) (st:=none) hs rfl (um ⟨nL (wH z _ _) hz,fin⟩)⟩
  |int j u=>exact⟨"str",_,rL.lookup,wC _ _ _,rT (l:=Gc (i,u')) (u:=Gc (j,u)) (st:=none) hs rfl (um ⟨nL (wH z _ _) hz,fin⟩)⟩
theorem gz{X:Cx}:SlR X (mD X.K):=by
 intro pins s σ H x v vl vu lo hi sl Q I rx hs pl pu h
 obtain⟨M,w,r,e,mo,sh,q⟩:=h
 unfold wSl at e
 split at e
 .rename_i ds
  cases e
  cases sh with
  |tup hx rr=>
   rename_i a xs
   have hl:=rr.length
   by_cases hw:HT.sIx xs.length 0 lo=0/\HT.sIx xs.length xs.length hi=xs.length
   .refine St.cy pins s σ H _ v vl vu lo hi sl Q I rx hs pl pu ⟨a,xs,rfl,hx,hw.1,hw.2,?_⟩
    have ew:MB ds lo hi=ds:=TZ (by rw[<-hl];exact hw.1) (by rw[<-hl];exact hw.2)
    rw[ew]at q
    exact q _ _ (.same mo (.tup hx rr))
   .exact cX pins s σ H _ v vl vu lo hi sl Q I rx hs pl pu ⟨a,xs,rfl,hx,hw,λp hp=>q _ _ (.tup mo hp (SX rr lo hi))⟩
 .split at e
  .cases e
   cases sh
   exact dc pins s σ H _ v vl vu lo hi sl Q I rx hs pl pu ⟨_,rfl,by assumption,q _ _ (.same mo (.str _))⟩
  .cases e
 .cases e1:asL w with
  |none=>rw[e1]at e;cases e
  |some ds=>
   rw[e1]at e
   cases e
   obtain⟨a,xs,rfl,h1,rr⟩:=sh.l e1
   exact Z0 pins s σ H _ v vl vu lo hi sl Q I rx hs pl pu ⟨a,xs,rfl,.of h1,λp hp=>q _ _ (.lst mo hp (SX rr lo hi))⟩
noncomputable def bC:Wv->nB Int
 | .val (.int i)=>Gc i
 |_=>none
noncomputable def MQ(l h:oO):OpN:=λws=>match l,h,ws with
 |false,false,[a]=>wSl none none a
 |true,false,[a,b]=>(bC b).bind λi=>wSl (Gc i) none a
 |false,true,[a,b]=>(bC b).bind λi=>wSl none (Gc i) a
 |true,true,[a,b,c]=>(bC b).bind λi=>(bC c).bind λj=>wSl (Gc i) (Gc j) a
 |_,_,_=>none
theorem SA{K:mx}{M:Ms}{H:Hp}{v:V}{w:Wv}{i:Int}(s:Sh K M H v w)(e:bC w=Gc i):v=.int i:=by
 cases w with
 |own ds=>cases e
 |val d=>
  cases d<;>first|(cases e;done)|skip
  cases e;cases s;rfl
section
variable{X:Cx}{e lo hi:oI}{oe ol oh:Ev}{c:oO}{pos p2:Pos}
theorem NT(h:DE X e oe)(hl:DE X lo ol):DE X (.Subscript e (.Slice (Gc lo) none none p2) pos) (Nc c (MQ true false) [oe,ol]):=⟨BI (NY gz h.pe (Ni hl.pe) Ut) λσ H Q z=>by
 obtain⟨M0,E,S0,w,S1,e,r,st,q⟩:=z
 have z:tD X.K oe σ H λx H1=>tD X.K ol σ H1 λy H2=>rN X.K (MQ true false) [x,y] H2 Q:=Ks (Q:=Q) e r st q
 refine IS z λx H1 z1=>IS z1 λy H2 z2=>?_
 obtain⟨M,ws,w',e1,mo,sh,q1⟩:=z2
 cases sh with
 |cons h1 t=>
  cases t with
  |cons h2 t=>
   cases t
   obtain⟨i,ei,e1⟩:=Am e1
   exact⟨i,SA h2 ei,M,_,w',e1,mo,h1,q1⟩⟩
theorem P2(h:DE X e oe)(hh:DE X hi oh):DE X (.Subscript e (.Slice none (Gc hi) none p2) pos) (Nc c (MQ false true) [oe,oh]):=⟨BI (NY gz h.pe Ut (Ni hh.pe)) λσ H Q z=>by
 obtain⟨M0,E,S0,w,S1,e,r,st,q⟩:=z
 have z:tD X.K oe σ H λx H1=>tD X.K oh σ H1 λy H2=>rN X.K (MQ false true) [x,y] H2 Q:=Ks (Q:=Q) e r st q
 refine IS z λx H1 z1=>IS z1 λy H2 z2=>?_
 obtain⟨M,ws,w',e1,mo,sh,q1⟩:=z2
 cases sh with
 |cons h1 t=>
  cases t with
  |cons h2 t=>
   cases t
   obtain⟨i,ei,e1⟩:=Am e1
   exact⟨i,SA h2 ei,M,_,w',e1,mo,h1,q1⟩⟩
theorem SR{K:mx}{M:Ms}{H:Hp}{S:Sto}{v:V}{d:D}{i:Int}(r:DA K M H v d)(e:bC (dr S d)=Gc i):v=.int i:=by
 cases r<;>first|(cases e;done)|skip
 .cases e;rfl
 .rename_i n h
  unfold dr at e
  dsimp only at e
  split at e<;>cases e
theorem Ue(h:DE X e oe)(hl:DE X lo ol)(hh:DE X hi oh):DE X (.Subscript e (.Slice (Gc lo) (Gc hi) none p2) pos) (Nc c (MQ true true) [oe,ol,oh]):=⟨BI (NY gz h.pe (Ni hl.pe) (Ni hh.pe)) λσ H Q z=>by
 obtain⟨M0,E,S0,w,S1,e,r,st,q⟩:=z
 obtain⟨⟨ds,S2⟩,e1,e⟩:=Am e
 obtain⟨w2,e2,e⟩:=Am e
 obtain⟨⟨d1,Sa⟩,ea,e1⟩:=Am e1
 obtain⟨⟨ds1,Sb⟩,eb,e1⟩:=Iu e1
 cases e1
 obtain⟨⟨d2,Sc⟩,ec,eb⟩:=Am eb
 obtain⟨⟨ds2,Sd⟩,ed,eb⟩:=Iu eb
 cases eb
 obtain⟨⟨d3,Se⟩,ee,ed⟩:=Am ed
 obtain⟨⟨ds3,Sf⟩,ef,ed⟩:=Iu ed
 cases ed
 cases ef
 obtain⟨i,ei,e2⟩:=Am e2
 obtain⟨j,ej,e2⟩:=Am e2
 refine⟨M0,E,S0,d1,Sa,ea,r,st,λx H1 M1 g1 st1 r1=>?_⟩
 refine⟨M1,E,Sa,d2,Sc,ec,r.step g1.st,st1,λy H2 M2 g2 st2 r2=>⟨i,?_,?_⟩⟩
 .exact SR r2 ei
 refine⟨M2,E,Sc,d3,Se,ee,(r.step g1.st).step g2.st,st2,λu H3 M3 g3 st3 r3=>⟨j,?_,?_⟩⟩
 .exact SR r3 ej
 refine⟨M3,_,w2,e2,st3.mo,aB st3 ((r1.step g2.st).step g3.st),λv H4 n=>?_⟩
 obtain⟨M4,g4,st4,d4⟩:=n.fin st3 e
 exact q v H4 M4 (((g1.trans g2).trans g3).trans g4) st4 d4⟩
structure RZ(K:mx)(mg:Str->nB mz)(x:Str)(d:D):Prop where
 ex:∃v u,mg x=Gc u/\RelV v u/\∀M H,DA K M H v d
theorem LI{x:Str}{d:D}(c:RZ X.K X.mg x d)(hg:Gl X x)(hd:(x==("__debug__":Str))=false:=by decide):DE X (.Name x pos) (eC d):=⟨by
 obtain⟨v,u,h1,h2,h3⟩:=c.ex
 exact BI (Z3 hg h1 h2 hd) λσ H Q z=>by
  obtain⟨M0,E,S0,w,S1,e,rr,st,q⟩:=z
  cases e
  exact q _ _ M0 (.refl st.mo) st (h3 _ _)⟩
theorem bJ{x:Str}{T:qj}(hg:Gl X x)(hm:X.mg x=none)(hv:bootBuiltins x=Gc (.type T))(hn:x≠ "__name__":=by decide)(hd:(x==("__debug__":Str))=false:=by decide):DE X (.Name x pos) (eC (.ty T)):=
 Ov (ZI (v:=.ty T) hg hm hv rfl hn hd) λ_ _ _=>.ty T
structure mv(K:mx)(w:oN)(mg:Str->nB mz)(x:Str)(tbl:List (Str×D)):Prop where
 ex:∃a kvs,mg x=Gc (.ref a)/\TopD K w a kvs/\∀k,(tbl.lookup k=none->kvs.lookup k=none)/\∀d,tbl.lookup k=Gc d->∃v,kvs.lookup k=Gc v/\∀M H,DA K M H v d
end
noncomputable def N6:Nat->List D->List D
 |_,[]=>[]
 |k,d::ds=>.tup [.int k,d]::N6 (k+1) ds
theorem Kh:∀{ds:List D} {k i:Nat},(N6 k ds)[i]?=(ds[i]?).map λd=>.tup [.int ((k+i:Nat):Int),d]
 | [],k,i=>by simp[N6]
 |d::ds,k,0=>by simp[N6]
 |d::ds,k,i+1=>by
  simp only[N6,List.getElem?_cons_succ]
  rw[Kh,show k+1+i=k+(i+1) by lia]
theorem NA:∀{ds:List D} {k:Nat},(N6 k ds).length=ds.length
 | [],k=>rfl
 |d::ds,k=>by simp[N6,NA (ds:=ds)]
theorem SqF.sqB{K:mx}{M:Ms}{H:Hp}{gs:Gd}{k:oO}{a:nH}{ds:List D}(h:SqF K M H gs k a ds){H2:Hp}{M2:Ms}{S2:Sto}(g:Sp1 M H M2 H2)(st:StR K M2 S2 H2)(ok:gOk gs S2):∃xs,SqB K H2 k a xs/\Ai K M2 H2 xs ds:=by
 obtain⟨xs,h1,h2⟩:=h.keep H2 M2 S2 g st ok
 refine⟨xs,?_,h2⟩
 cases k with
 |true=>exact h1
 |false=>exact h1
theorem de{K:mx}{M:Ms}{H:Hp}{gs:Gd}{k:oO}{a:nH}{ds:List D}(h:SqF K M H gs k a ds):dF K M H gs (N6 0 ds) (ItE K k a) where
 go:=λi H2 M2 S2 g st ok hi=>by
  rw[NA]at hi
  obtain⟨xs,h1,h2⟩:=h.sqB g st ok
  obtain⟨x,hx⟩:=h2.get' hi
  exact⟨xs,x,h1,hx⟩
 stop:=λi H2 M2 S2 g st ok hi=>by
  rw[NA]at hi
  obtain⟨xs,h1,h2⟩:=h.sqB g st ok
  exact⟨xs,h1,by have:=h2.length;lia⟩
 yld:=λi H2 M2 S2 x H3 d g st ok hd hy=>by
  obtain⟨xs,h1,h2⟩:=h.sqB g st ok
  obtain⟨p,y,hp,rfl,hy,rfl⟩:=hy
  have hx:=hy xs h1
  rw[Kh]at hd
  obtain⟨d0,e,hd⟩:=Iu hd
  subst hd
  obtain⟨x',h3,h4⟩:=h2.get e
  rw[hx]at h3;cases h3
  have k3:=Fi (o:=.tup [.int i,y]) hp
  refine⟨k3,.tup (.of Ay) (.cons ?_ (.cons (h4.step (Gr.grow st.mo k3).st) .nil))⟩
  rw[uF]
  exact .int _
noncomputable def ax(f:Ev):Sr:=λE S=>(f E S).bind λr=>(sqD r.2 r.1).map λp=>((N6 0 p.1,p.2),r.2)
theorem Uj{X:Cx}{a:oI}{f:Ev}{p pos tp:Pos}{elts:List oI}{k:Nat}(hg:Gl X "enumerate")(hm:X.mg "enumerate"=none)(ha:DE X a f)(hs:nv [a] X.env=[(false,eval a X.env)]:=by rfl):DI X (.Tuple elts k tp) (.Call (.Name "enumerate" p) [a] [] pos) (ax f):=⟨
 NL (V2 hg hm (Nz ha.pe TH (by rw[hs];rfl)) hs) λσ H R z=>by
  obtain⟨M,E,S,ds,gs,S',e,r,st,q⟩:=z
  obtain⟨⟨d,S1⟩,e1,e⟩:=Am e
  obtain⟨⟨ds',gs'⟩,e2,e⟩:=Iu e
  cases e
  refine⟨M,E,S,d,S1,e1,r,st,λv H1 M1 g1 st1 r1=>?_⟩
  obtain⟨k,a,rfl,sq⟩:=RI st1 r1 e2
  obtain⟨xs,hs,_⟩:=sq.sqB (Gr.refl st1.mo).st st1 (M8 e2)
  exact⟨k,a,rfl,⟨xs,hs⟩,q _ _ M1 g1 st1 (de sq)⟩⟩
noncomputable def OC(ds es:List D):List D:=(ds.zip es).map λp=>.tup [p.1,p.2]
theorem Wa{ds es:List D}{i:Nat}{d:D}(h:(OC ds es)[i]?=Gc d):∃x y,ds[i]?=Gc x/\es[i]?=Gc y/\d=.tup [x,y]:=by
 unfold OC at h
 simp only[ng,Option.map_eq_some_iff]at h
 obtain⟨⟨x,y⟩,h1,h2⟩:=h
 rw[vK]at h1
 exact⟨x,y,h1.1,h1.2,h2.symm⟩
theorem Kf{ds es:List D}:(OC ds es).length=min ds.length es.length:=by simp[OC]
theorem SqF.more{K:mx}{M:Ms}{H:Hp}{gs gs':Gd}{k:oO}{a:nH}{ds:List D}(h:SqF K M H gs k a ds)(s:∀g∈gs,g∈gs'):SqF K M H gs' k a ds:=⟨λH2 M2 S2 g st ok=>h.keep H2 M2 S2 g st λx hx=>ok x (s x hx)⟩
theorem dH{K:mx}{M:Ms}{H:Hp}{gs:Gd}{k m:oO}{a b:nH}{ds es:List D}(h:SqF K M H gs k a ds)(h':SqF K M H gs m b es):dF K M H gs (OC ds es) (Itz K k a m b) where
 go:=λi H2 M2 S2 g st ok hi=>by
  rw[Kf]at hi
  obtain⟨xs,h1,r⟩:=h.sqB g st ok
  obtain⟨ys,h2,r'⟩:=h'.sqB g st ok
  obtain⟨x,hx⟩:=r.get' (show i<ds.length by lia)
  obtain⟨y,hy⟩:=r'.get' (show i<es.length by lia)
  exact⟨xs,ys,x,y,h1,h2,hx,hy⟩
 stop:=λi H2 M2 S2 g st ok hi=>by
  rw[Kf]at hi
  obtain⟨xs,h1,r⟩:=h.sqB g st ok
  obtain⟨ys,h2,r'⟩:=h'.sqB g st ok
  have:=r.length
  have:=r'.length
  exact⟨xs,ys,h1,h2,by lia⟩
 yld:=λi H2 M2 S2 x H3 d g st ok hd hy=>by
  obtain⟨xs,h1,r⟩:=h.sqB g st ok
  obtain⟨ys,h2,r'⟩:=h'.sqB g st ok
  obtain⟨p,x1,y1,hp,rfl,q1,q2,rfl⟩:=hy
  obtain⟨d1,d2,e1,e2,rfl⟩:=Wa hd
  have hx:=q1 xs h1
  have hy:=q2 ys h2
  obtain⟨x',h3,h4⟩:=r.get e1
  obtain⟨y',h5,h6⟩:=r'.get e2
  rw[hx]at h3;cases h3
  rw[hy]at h5;cases h5
  have k3:=Fi (o:=.tup [x1,y1]) hp
  exact⟨k3,.tup (.of Ay) (.cons (h4.step (Gr.grow st.mo k3).st) (.cons (h6.step (Gr.grow st.mo k3).st) .nil))⟩
noncomputable def bA(f g:Ev):Sr:=λE S=>(evs [f,g] E S).bind λr=>match r.1 with
 | [d,e]=>(sqD r.2 d).bind λp=>(sqD r.2 e).map λq=>((OC p.1 q.1,p.2++q.2),r.2)
 |_=>none
theorem Tv{X:Cx}{a b:oI}{f g:Ev}{p pos tp:Pos}{elts:List oI}{k:Nat}(hg:Gl X "zip")(hm:X.mg "zip"=none)(ha:DE X a f)(hb:DE X b g)(hs:nv [a,b] X.env=[(false,eval a X.env),(false,eval b X.env)]:=by rfl)(hs2:nv [b] X.env=[(false,eval b X.env)]:=by rfl):DI X (.Tuple elts k tp) (.Call (.Name "zip" p) [a,b] [] pos) (bA f g):=⟨
 NL (cD hg hm (AA ha (AA hb AF hs2) (by rw[hs,hs2])).pe hs hs2) λσ H R z=>by
  obtain⟨M,E,S,ds,gs,S',e,r,st,q⟩:=z
  obtain⟨⟨ws,S1⟩,e1,e⟩:=Am e
  refine HN (fs:=[f,g]) e1 r st λvs H1 M1 g1 st1 r1=>?_
  dsimp only at e
  split at e
  .obtain⟨⟨ds1,gs1⟩,eu,e⟩:=Am e
   obtain⟨⟨ds2,gs2⟩,ee,e⟩:=Iu e
   cases e
   cases r1 with
   |cons h1 t=>
    cases t with
    |cons h2 t=>
     cases t
     obtain⟨k1,a1,rfl,s1⟩:=RI st1 h1 eu
     obtain⟨k2,a2,rfl,s2⟩:=RI st1 h2 ee
     obtain⟨xs,hxs,_⟩:=s1.sqB (Gr.refl st1.mo).st st1 (M8 eu)
     obtain⟨ys,hys,_⟩:=s2.sqB (Gr.refl st1.mo).st st1 (M8 ee)
     exact⟨_,_,_,_,rfl,⟨_,hxs⟩,⟨_,hys⟩,q _ _ M1 g1 st1 (dH (s1.more λx hx=>sX _ hx) (s2.more λx hx=>oZ _ hx))⟩
  .cases e⟩
noncomputable def intD:D->nB Int
 | .int i=>Gc i
 |_=>none
noncomputable def Im(ds:List D):nB (List Int):=ds.mapM intD
theorem HZ{K:mx}{M:Ms}{H:Hp}:∀{vs:List V} {ds:List D} {ns:List Int},Ai K M H vs ds->Im ds=Gc ns->vs=ns.map V.int
 |_,_,ns,.nil,e=>by cases e;rfl
 |_,_,ns,.cons (d:=d) (ds:=ds) h t,e=>by
  unfold Im at e
  rw[List.mapM_cons]at e
  cases e1:intD d with
  |none=>rw[e1]at e;cases e
  |some b=>
   rw[e1]at e
   cases e2:ds.mapM intD with
   |none=>rw[e2]at e;cases e
   |some cs=>
    rw[e2]at e
    cases e
    have hd:d=.int b:=by
     cases d<;>first|(cases e1;done)|skip
     cases e1;rfl
    subst hd
    cases h
    rw[nR,<-HZ t e2]
theorem T5{X:Cx}(hc:X.calm=true):Dl X (.builtin "sum") (λxs H Q=>∃(p:nH) (ns:List Int),xs=[.ref p]/\SqL X.K H p (ns.map V.int)/\Q (.int ns.sum) H):=by
 intro pins s σ H xs us Q I r h
 obtain⟨p,ns,rfl,hp,q⟩:=h
 obtain⟨u,rfl,ru⟩:=r.one
 cases (show u=oX p from ru)
 obtain⟨its,rv,pl,hz⟩:=I.list hp
 have hd:X.A.in1.handled=none:=I.ok.hd hc
 refine call_sum_walkG (qL pl.isList ?_)
 have hlen:ns.length=its.length:=by have:=rv.length;simpa using this
 have hpl:=pl.isList
 have hlt:p<s.heap.objs.size:=by
  obtain⟨o,ho,_⟩:=hpl
  exact nS ho
 refine⟨s.heap.objs.size,_,_,its.length,_,_,λi=>ns.getD i 0,rfl,St.Rq (vs:=its) hd (nV hlt),⟨⟨_,nM _ rfl,rfl,rfl⟩,?_⟩,?_,?_,?_⟩
 .obtain⟨o,ho,r⟩:=hpl
  exact⟨o,my _ ho,r⟩
 .intro b hb
  rw[oJ]
  simp at hb
  rcases hb with h|h
  .rw[h];exact qS _
  .rw[h];exact pX hlt
 .intro i v hv
  have hi:i<its.length:=(nP.mp hv).1
  have hb:(ns.map V.int)[i]?=Gc (.int (ns.getD i 0)):=by
   rw[ng,nN (by lia)]
   simp[nJ,nN (show i<ns.length by lia)]
  obtain⟨u,hu,ru⟩:=rv.get hb
  rw[hv]at hu
  cases hu
  exact ru
 .intro h' tk t' hk
  have e:preSum (λi=>ns.getD i 0) its.length=ns.sum:=by
   rw[<-hlen,St.Lh (nG _),sC (nG _)]
  rw[e]
  exact⟨.int _,H,I.kept (t':=tk) λb o eb=>hk b o (by simp;exact nV (nS eb)) (my _ eb),⟨_,rfl⟩,q⟩
noncomputable def Yr:Op1:=λw=>(asL w).bind λds=>(Im ds).map λns=>.val (.int ns.sum)
theorem LO{X:Cx}(hc:X.calm=true):Dl X (.builtin "sum") (rN X.K (o1 Yr)):=by
 intro pins s σ H xs us Q I r h
 obtain⟨M,ws,w,e,mo,sh,q⟩:=h
 obtain⟨v,w1,rfl,rfl,s1,e1⟩:=GY sh e
 obtain⟨ds,e2,e1⟩:=Am e1
 obtain⟨ns,e3,e1⟩:=Iu e1
 cases e1
 obtain⟨a,ys,rfl,h3,h4⟩:=s1.l e2
 exact T5 hc pins s σ H _ us Q I r ⟨a,ns,rfl,by rw[<-HZ h4 e3];exact .of h3,q _ _ (.same mo (.int _))⟩
noncomputable def GA(ns:List Int):List Int:=ns.mergeSort (λa b=>decide (a<=b))
theorem Eu(ns:List Int):(GA ns).Perm ns:=xY _ _
theorem Ma(ns:List Int):(GA ns).Pairwise (· <= ·):=by
 have:=vt (le:=λ(a b:Int)=>decide (a<=b)) (λa b c h1 h2=>by simp at *; lia) (λa b=>by simp;lia) ns
 unfold GA
 exact this.imp λh=>nT h
theorem Jr{ns ms:List Int}(p:ms.Perm ns)(s:ms.Pairwise (· <= ·)):ms=GA ns:=PySem.W.ksm_same (p.trans (Eu ns).symm) s (Ma ns)
theorem intsAre_of:∀{ns:List Int} {its:List mz},Vals (ns.map V.int) its->qO its ns
 | [],_,.nil=>.nil
 |n::ns,_,.cons h t=>by
  obtain⟨tk,rfl⟩:=h
  exact .cons n tk (intsAre_of t)
theorem EO:∀{ns:List Int} {its:List mz},qO its ns->Vals (ns.map V.int) its
 |_,_,.nil=>.nil
 |_,_,.cons n tk t=>.cons ⟨tk,rfl⟩ (EO t)
theorem PN{X:Cx}:Dl X (.builtin "sorted") (λxs H Q=>∃(p:nH) (ns:List Int),xs=[.ref p]/\SqL X.K H p (ns.map V.int)/\ns.length<64/\∀q,H q=none->Q (.ref q) (upd H q (.lst ((GA ns).map V.int)))):=by
 intro pins s σ H xs us Q I r h
 obtain⟨p,ns,rfl,hp,h64,q⟩:=h
 obtain⟨u,rfl,ru⟩:=r.one
 cases (show u=oX p from ru)
 obtain⟨its,rv,pl,hz⟩:=I.list hp
 have hlen:ns.length=its.length:=by have:=rv.length;simpa using this
 refine PyProof.Rows.sorted_ints pl.isList (intsAre_of rv) (by lia) λout ns' a1 a2 a3=>?_
 obtain⟨e,he⟩:=vL s.heap its out
 have hn:H (s.heap.objs.size+1)=none:=I.hok.fresh (rC _)
 have hs:=Jr a2 a3
 subst hs
 refine⟨.ref _,_,I.laid (a:=s.heap.objs.size+1) (o:=.lst ((GA ns).map V.int)) (t':=s.toks) (λ_ _=>vE) (rC _) ?_,rfl,q _ hn⟩
 refine⟨?_,out.toList,e,EO a1,?_⟩
 .rw[oG,(Eu ns).length_eq]
  have:(64:Nat)<=sizeLine:=by decide
  lia
 .rw[rD];exact he
noncomputable def K2:Op1:=λw=>(asL w).bind λds=>(Im ds).bind λns=>if ns.length<64 then Gc (.own ((GA ns).map D.int))else none
theorem J0{X:Cx}:Dl X (.builtin "sorted") (rN X.K (o1 K2)):=by
 intro pins s σ H xs us Q I r h
 obtain⟨M,ws,w,e,mo,sh,q⟩:=h
 obtain⟨v,w1,rfl,rfl,s1,e1⟩:=GY sh e
 obtain⟨ds,e2,e1⟩:=Am e1
 obtain⟨ns,e3,e1⟩:=Am e1
 split at e1
 .cases e1
  obtain⟨a,ys,rfl,h3,h4⟩:=s1.l e2
  exact PN pins s σ H _ us Q I r ⟨a,ns,rfl,by rw[<-HZ h4 e3];exact .of h3,by assumption,λp hp=>q _ _ (.lst mo hp Gi)⟩
 .cases e1
theorem Ny(l:nH)(items:oH mz)(n:Nat)(b:nH)(items2:oH mz)(n2:Nat)(dd:nB nH)(sl:oH (nB mz))(hs0:¬(!items.isEmpty && qC (items.size+items2.size))=true)(hs1:items.size<=sizeLine)(hs2:items.size+items2.size<=sizeLine+1):Meets (qK.«list.extend» ⟨[.ref l,.ref b],[]⟩) (λ_ R s=>s.heap.get? l=Gc {cls:=.type "list",dict:=none,data:=.seq items n,slots:= #[]}/\s.heap.get? b=Gc {cls:=.type "tuple",dict:=dd,data:=.seq items2 n2,slots:=sl}/\R (.ok (.ret pz)) {s with heap:=s.heap.update l (oV λx=>x++items2),toks:=s.toks}):=
 .of_wp λprog w A R s h=>by
  obtain⟨hp,g,d,tk,os⟩:=s;obtain⟨hl,hb,h⟩:=h;have f1:=AutoSeq1.idx_int;have f2:=AutoSeq1.sub_tuple_tuple;have f3:=AutoSeq1.sub_list_list;have f4:=AutoSeq1.sub_tuple_list;have f5:=AutoSeq1.sub_list_tuple
  have hz':(items++items2).size<=sizeLine+1:=by rw[ye];exact hs2
  wp_walk using(sP hl rfl (hz:=hs1) (_hz':=hz')),oA hl,oA hb;exact⟨_,rfl,h⟩
def WW(K:mx):V->List V->Hp->VK->Prop:=λx vs H Q=>∃l b xs zs,x=.ref l/\vs=[.ref b]/\H l=Gc (.lst xs)/\SqT K H b zs/\xs.length+zs.length<=sizeLine/\Q .non (upd H l (.lst (xs++zs)))
theorem Rg{X:Cx}:MtM X "list.extend" (WW X.K):=by
 intro pins s σ H x vs v us Q I rx rv h
 obtain⟨l,b,xs,zs,rfl,rfl,hH,hB,hz,q⟩:=h
 cases rx
 obtain⟨u,rfl,ru⟩:=rv.one
 cases ru
 obtain⟨z,its,n,r,hl,e⟩:=I.Xj hH
 obtain⟨its2,r2,⟨⟨c,dd,dt,sl⟩,e2,hc,n2,hd⟩,z2⟩:=I.tuple hB
 simp only at hc hd
 subst hc hd
 have hl2:=r2.length
 have hsz:its.toArray.size+its2.toArray.size<=sizeLine:=by rw[nQ,nQ];lia
 have hlong:¬(!its.toArray.isEmpty && qC (its.toArray.size+its2.toArray.size))=true:=by
  rw[Na hsz,Bool.and_false]
  exact ou
 refine tT uZ ⟨_,e,rfl⟩ xW (w6 _ _)
  (Ny l its.toArray n b its2.toArray n2 dd sl hlong (by rw[nQ];lia) (by lia)) ⟨e,e2,?_⟩
 refine⟨.non,_,I.eg (its':=its++its2) hH e (by simp) (r.append r2) ?_,rfl,q⟩
 rw[pF]
 lia
noncomputable def gA:Mo
 |S,ds,[x]=>match dr S x with
  | .val (.tup zs)=>if ds.length+zs.length<=sizeLine then Gc (.non,ds++zs)else none
  |w=>(asL w).bind λzs=>if ds.length+zs.length<=sizeLine then Gc (.non,ds++zs)else none
 |_,_,_=>none
theorem ZU{X:Cx}:MtR X "list.extend" (ay X.K gA):=by
 intro pins s σ H x vs v us Q I rx rv h
 obtain⟨M,S,n,a,ds,args,d,ds',rfl,hc,hn,e,st,ra,q⟩:=h
 unfold gA at e
 split at e
 .obtain⟨xs,h1,h2⟩:=st.cell n a _ hc hn
  obtain⟨y,rfl,ry⟩:=Qk ra
  have sy:=aB st ry
  split at e
  .rename_i ed
   rw[ed]at sy
   split at e
   .rename_i hz
    cases e
    cases sy with
    |tup hx rr=>
     obtain⟨st2,g2⟩:=st.chg hc hn (h2.append rr)
     exact Rg pins s σ H _ _ v us Q I rx rv ⟨a,_,xs,_,rfl,rfl,h1,hx,by rw[h2.length,rr.length];exact hz,q _ _ st2 g2 .non⟩
   .cases e
  .obtain⟨zs,e1,e⟩:=Am e
   split at e
   .rename_i hz
    cases e
    obtain⟨b,ys,rfl,h3,h4⟩:=sy.l e1
    obtain⟨st2,g2⟩:=st.chg hc hn (h2.append h4)
    exact UP pins s σ H _ _ v us Q I rx rv ⟨a,b,xs,ys,rfl,rfl,h1,h3,by rw[h2.length,h4.length];exact hz,q _ _ st2 g2 .non⟩
   .cases e
 .cases e
theorem Vp{X:Cx}:OpR X (binaryOp .Mult) (λx y H Q=>∃a xs k,x=.ref a/\y=.int k/\SqT X.K H a xs/\xs≠[]/\k<=0/\ -(2^63)<=k/\∀p,H p=none->Q (.ref p) (upd H p (.tup []))):=by
 intro pins s σ H x y v u Q I rx ry h
 obtain⟨a,xs,k,rfl,rfl,hx,hne,hk,hk2,q2⟩:=h
 cases rx
 obtain⟨t,rfl⟩:=ry
 obtain⟨its,r,⟨⟨c,dd,data,sl⟩,ho,hc,n,hd⟩,hzz⟩:=I.tuple hx
 simp only at hc hd
 subst hc hd
 have hl:=r.length
 have hpos:0<xs.length:=xX.mpr hne
 refine tE (T:="tuple") (U:="int") (by decide) ⟨_,ho,rfl⟩ (λs'=>uS s' k t) G5 wU sL Ju vk.lookup
  (tT sL (uS s k t) vm (vR _ _) (IG k t a its.toArray n dd sl) ⟨ho,rfl,⟨_,ho,rfl⟩,?_⟩)
 refine oW uT ⟨_,ho,rfl⟩ yd ?_ (x8 _ _)
 unfold qK.«tuple.__mul__»
 wp_walk using oA ho
 rw[oE (show¬(decide (k< -2^63)||decide (k≥2^63))=true by
  rw[pq]
  rintro (z|z)
  .have:=nT z;lia
  .have:=nT z;lia)]
 wp_walk using oA ho
 have hemp:its.toArray.isEmpty=false:=by
  cases its with
  |nil=>rw[sN]at hl;lia
  |cons b bs=>rfl
 rw[oE (show¬(its.toArray.isEmpty||k==1)=true by
  rw[hemp,Bool.false_or]
  intro z
  have:=eq_of_beq z
  lia)]
 wp_walk using oA ho
 all_goals first
  |exact⟨_,rfl,.ref _,_,I.laid (o:=.tup []) (t':=s.toks) (λb ob q=>my _ q) (nG _) ⟨pY _,[],.nil,tK _ _⟩,rfl,q2 _ (I.hok.fresh (nG _))⟩
  |(exfalso
    rename_i hh
    exact hh (by rw[pq];exact .inl (pJ hk)))
noncomputable def EZ:Op2:=λa b=>match a,b with
 | .val (.tup xs),.val (.int k)=>if(!xs.isEmpty && decide (k<=0) && decide (-(2^63)<=k))=true then Gc (.val (.tup []))else gY (.val (.tup xs)) (.val (.int k))
 |a,b=>gY a b
theorem BU{X:Cx}:OpR X (binaryOp .Mult) (rOp X.K EZ):=by
 intro pins s σ H x y v u Q I rx ry h
 obtain⟨M,w1,w2,r,e,mo,s1,s2,q⟩:=h
 unfold EZ at e
 split at e
 .split at e
  .rename_i xs k hk
   rw[nW,nW]at hk
   cases e
   cases s2
   cases s1 with
   | @tup a ys _ h1 r1=>
     have hne:ys≠[]:=λzz=>by
      subst zz
      cases r1
      exact absurd hk.1.1 (by decide)
     exact Vp pins s σ H _ _ v u Q I rx ry ⟨a,ys,k,rfl,rfl,h1,hne,nT hk.1.2,nT hk.2,λp hp=>q _ _ (.tup mo hp .nil)⟩
  .exact SK pins s σ H x y v u Q I rx ry ⟨M,_,_,r,e,mo,s1,s2,q⟩
 .exact SK pins s σ H x y v u Q I rx ry ⟨M,_,_,r,e,mo,s1,s2,q⟩
theorem Ud{A:oU}{k:Nat}(hr:Lq k A):A.units+100<cLine:=by have:=hr.un;lia
section
variable{P:nq}{w:oN}{K:mx}{mg:Str->nB mz}{base:oQ}
end
noncomputable def scE:Nat->oI->List rQ
 |0,_=>[]
 |n+1,.ListComp e gs s _=>s::(gs.flatMap λg=>scE n g.iter)++scE n e++(gs.flatMap λg=>g.ifs.flatMap (scE n))
 |n+1,.BoolOp _ vs _=>vs.flatMap (scE n)
 |n+1,.Call f as _ _=>scE n f++as.flatMap (scE n)
 |n+1,.BinOp a _ b _=>scE n a++scE n b
 |n+1,.UnaryOp _ a _=>scE n a
 |n+1,.Compare a _ cs _=>scE n a++cs.flatMap (scE n)
 |n+1,.Subscript a b _=>scE n a++scE n b
 |n+1,.Tuple es _ _=>es.flatMap (scE n)
 |n+1,.List es _=>es.flatMap (scE n)
 |n+1,.IfExp c a b _=>scE n c++scE n a++scE n b
 |n+1,.Dict _ vs _=>vs.flatMap (scE n)
 |n+1,.Slice a b c _=>(a.toList++b.toList++c.toList).flatMap (scE n)
 |n+1,.Attribute v _ _=>scE n v
 |_,_=>[]
noncomputable def scS:Nat->pN->List rQ
 |0,_=>[]
 |n+1,.Return (Gc e) _=>scE 30 e
 |n+1,.Assign ts e _=>ts.flatMap (scE 30)++scE 30 e
 |n+1,.AugAssign t _ e _=>scE 30 t++scE 30 e
 |n+1,.Expr e _=>scE 30 e
 |n+1,.If t a b _=>scE 30 t++a.flatMap (scS n)++b.flatMap (scS n)
 |n+1,.For _ it a b _=>scE 30 it++a.flatMap (scS n)++b.flatMap (scS n)
 |n+1,.While t a b _=>scE 30 t++a.flatMap (scS n)++b.flatMap (scS n)
 |_,_=>[]
noncomputable def LD(st:pN)(k:Nat):rQ:=((Ft st).flatMap (scS 20)).getD k (AJ st)
structure mU(P:nq)(w:oN)(K:mx)(mg:Str->nB mz)(base:oQ)(x:Str)(k np:Nat)(tbl:List (Str×Fn)):Prop where
 ex:∃a kvs,mg x=Gc (.ref a)/\TopD K w a kvs/\∀p G,tbl.lookup p=Gc G->∃f fd ps,kvs.lookup p=Gc (.ref f)/\OM P w K mg base CX0 k f fd ps (spD K np G)/\qk K (.ref f)=true/\Binds K fd ps []
section
variable{P:nq}{w:oN}{K:mx}{mg:Str->nB mz}{base h:oQ}
theorem eJ{x:Str}{st:pN}{f:nH}{oc:mz}{od an:nB nH}{osl:oH (nB mz)}{kV doc pm cdv ct:mz}(X:K.In h)(G:h.Ns mainGlobals mg)(a:yb K mainGlobals x=Gc (Gc (.ref f)))(l:K.lookup f=Gc ⟨oc,od,.func (su x x (LU st) (Ft st) (AJ st) .none kV doc pm an cdv ct),osl⟩)(c:uz K cdv x=true)(k:qk K (.ref f)=true):St.Src K mg x st:=
 ⟨f,_,dm l c k,PySem.W.mg_of X G a⟩
def IsD(K:mx)(u:mz)(d:D):Prop:=∃v,RelV v u/\∀M H,DA K M H v d
theorem NK{i:Int}{t:Tok}:IsD K (.int i t) (.int i):=⟨.int i,⟨t,rfl⟩,λ_ _=>.int i⟩
theorem Nf{x:Str}{t:Tok}:IsD K (.str x t) (.str x):=⟨.str x,⟨t,rfl⟩,λ_ _=>.str x⟩
theorem QZ:∀{us:List mz} {ds:List D},Paired (λd u=>IsD K u d) ds us->∃xs,Vals xs us/\∀M H,Ai K M H xs ds
 |_,_,.nil=>⟨[],.nil,λ_ _=>.nil⟩
 |_,_,.cons h t=>by
  obtain⟨v,h1,h2⟩:=h
  obtain⟨xs,h3,h4⟩:=QZ t
  exact⟨v::xs,.cons h1 h3,λM H=>.cons (h2 M H) (h4 M H)⟩
theorem Px{a:nH}{od:nB nH}{osl:oH (nB mz)}{its:List mz}{n:Nat}{ds:List D}(l:K.lookup a=Gc ⟨.type "tuple",od,.seq its.toArray n,osl⟩)(hz:its.length<=sizeLine)(r:Paired (λd u=>IsD K u d) ds its):IsD K (.ref a) (.tup ds):=by
 obtain⟨xs,h1,h2⟩:=QZ r
 exact⟨.ref a,rfl,λM H=>.tup (.inr ⟨_,its.toArray,n,l,rfl,rfl,by simpa using hz,by simpa using h1⟩) (h2 M H)⟩
theorem Us{x:Str}{u:mz}{d:D}(X:K.In h)(G:h.Ns mainGlobals mg)(e:yb K mainGlobals x=Gc (Gc u))(r:IsD K u d):RZ K mg x d:=by
 obtain⟨v,h1,h2⟩:=r
 exact⟨v,u,PySem.W.mg_of X G e,h1,h2⟩
structure md(w:oN)(K:mx)(mg:Str->nB mz)(x:Str)(ns:List (Str×Str)):Prop where
 ex:∃a kvs,mg x=Gc (.ref a)/\TopD K w a kvs/\Paired (λ(n:Str×Str) (q:Str×V)=>n.1=q.1/\∃f,q.2=.ref f/\mg n.2=Gc (.ref f)) ns kvs
noncomputable def aE(K:mx):Sp:=λvs H Q _=>∃(a:nH) (ns:List Int),vs=[.ref a]/\SqL K H a (ns.map V.int)/\ns.length<=63/\∀H',Q (.bl true) H'
theorem cQ{k:Nat}{f:nH}{fd:qd}{x:Str}{F:Fn}(Fk:OM P w K mg base CX0 k f fd [x] (spD K 1 F))(h:∀ns:List Int,ns.length<=63->∃S,F [.scr ns] []=Gc (.bl true,S)):OM P w K mg base CX0 k f fd [x] (aE K):=by
 refine Fk.imp λvs H Q E z=>?_
 obtain⟨a,ns,rfl,hs,hl,q⟩:=z
 obtain⟨S,e⟩:=h ns hl
 refine⟨Ms.no,[.scr ns],[],_,S,rfl,e,.cons (.scr ?_) .nil,⟨λa z=>absurd z Ms.YX,List.nodup_nil,λa z=>(nomatch z),rfl,λn a c z=>by simp[Ms.no]at z⟩,λv H' M' g st r=>?_⟩
 .rcases hs with hs|hs
  .exact .inl ⟨hs,Ms.YX⟩
  .exact .inr hs
 .cases r
  exact q H'
end
noncomputable def putD(kvs:List (Key×D))(k:Key)(v:D):List (Key×D):=
 if(kvs.any λkv=>decide (kv.1=k))=true then kvs.map (λkv=>if kv.1=k then(kv.1,v)else kv)else kvs++[(k,v)]
noncomputable def J4(kvs more:List (Key×D)):List (Key×D):=more.foldl (λacc kv=>putD acc kv.1 kv.2) kvs
noncomputable def R8:List (Key×D)->Key->nB D
 | [],_=>none
 |(j,d)::r,k=>if j=k then Gc d else R8 r k
noncomputable def V4:D->nB Key
 | .int i=>Gc (.inl i)
 | .str x=>Gc (.inr x)
 |_=>none
noncomputable def QF(S:Sto):D->nB (List (Key×D))
 | .dct es=>Gc es
 | .ref n=>match S[n]? with
   |some (.dct es)=>Gc es
   |_=>none
 |_=>none
noncomputable def Q4:oO->List (Key×D)->Sto->D×Sto
 |false,es,S=>(.dct es,S)
 |true,es,S=>(.ref S.length,S++[.dct es])
section
variable{K:mx}{M M':Ms}{H:Hp}{S:Sto}{E:En}{σ:Sg}
theorem Bo.any(k:Key):∀{kvs:List (Key×V)} {es:List (Key×D)},Bo K M H kvs es->(kvs.any λkv=>decide (kv.1=k))=es.any λkv=>decide (kv.1=k)
 |_,_,.nil=>rfl
 |_,_,.cons h t=>by rw[qi,qi,Bo.any k t]
theorem Bo.app:∀{kvs kvs':List (Key×V)} {es es':List (Key×D)},Bo K M H kvs es->Bo K M H kvs' es'->Bo K M H (kvs++kvs') (es++es')
 |_,_,_,_,.nil,s=>s
 |_,_,_,_,.cons h t,s=>.cons h (Bo.app t s)
theorem Bo.ZT{k:Key}{v:V}{d:D}(r:DA K M H v d):∀{kvs:List (Key×V)} {es:List (Key×D)},Bo K M H kvs es->Bo K M H (kvs.map λkv=>if kv.1=k then(kv.1,v)else kv) (es.map λkv=>if kv.1=k then(kv.1,d)else kv)
 |_,_,.nil=>.nil
 |_,_,.cons (k:=k') h t=>by
  rw[nR,nR]
  by_cases e:k'=k
  .rw[nh e,nh e];exact .cons r (Bo.ZT r t)
  .rw[oE e,oE e];exact .cons h (Bo.ZT r t)
theorem Bo.put{k:Key}{v:V}{d:D}{kvs:List (Key×V)}{es:List (Key×D)}(r:DA K M H v d)(h:Bo K M H kvs es):Bo K M H (putK kvs k v) (putD es k d):=by
 unfold putK putD
 rw[h.any k]
 split
 .exact h.ZT r
 .exact h.app (.cons r .nil)
theorem Bo.merge:∀{more:List (Key×V)} {more':List (Key×D)} {kvs:List (Key×V)} {es:List (Key×D)},Bo K M H more more'->Bo K M H kvs es->Bo K M H (K7 kvs more) (J4 es more')
 |_,_,_,_,.nil,h=>h
 |_,_,kvs,es,.cons (k:=k) (v:=v) (d:=d) (vs:=vs) (ds:=ds) r t,h=>show Bo K M H (K7 (putK kvs k v) vs) (J4 (putD es k d) ds)from Bo.merge t (h.put r)
theorem Bo.val(k:Key):∀{kvs:List (Key×V)} {es:List (Key×D)},Bo K M H kvs es->(R0 kvs k=none/\R8 es k=none)\/∃v d,R0 kvs k=Gc v/\R8 es k=Gc d/\DA K M H v d
 |_,_,.nil=>.inl ⟨rfl,rfl⟩
 |_,_,.cons (k:=k') (d:=d) (v:=v) (ds:=ds) h t=>by
  by_cases e:k'=k
  .exact .inr ⟨v,d,Ko e,by simp[R8,e],h⟩
  .rw[Kl e]
   have:R8 ((k',d)::ds) k=R8 ds k:=by simp[R8,e]
   rw[this]
   exact Bo.val k t
theorem Bo.length:∀{v:List (Key×V)} {d:List (Key×D)},Bo K M H v d->v.length=d.length
 |_,_,.nil=>rfl
 |_,_,.cons _ t=>by simp[Bo.length t]
theorem R9{v:V}{d:D}{k:Key}(r:DA K M H v d)(e:V4 d=Gc k):v=kV k:=by
 cases r<;>cases e<;>rfl
theorem Oj{v:V}{d:D}{es:List (Key×D)}(st:StR K M S H)(r:DA K M H v d)(e:QF S d=Gc es):∃a kvs,v=.ref a/\H a=Gc (.dK kvs)/\Bo K M H kvs es:=by
 cases r with
 |dct h n r=>cases e;exact⟨_,_,rfl,h,r⟩
 |ref h=>
  rename_i a n
  unfold QF at e
  dsimp only at e
  split at e
  .rename_i es' e'
   cases e
   obtain⟨kvs,h1,h2⟩:=st.cell n a _ h e'
   exact⟨a,kvs,rfl,h1,h2⟩
  .cases e
 |_=>cases e
theorem StR.kj(r:StR K M S H){n:Nat}{a:nH}{ds es:List (Key×D)}{ys:List (Key×V)}(h1:M.cel[n]?=Gc a)(h2:S[n]?=Gc (.dct ds))(hy:Bo K M H ys es):StR K M (S.set n (.dct es)) (upd H a (.dK ys))/\Gr M H M (upd H a (.dK ys)):=by
 have ha:a∈M.cel:=nZ h1
 have hl:n<S.length:=(nP.mp h2).1
 have g:Gr M H M (upd H a (.dK ys)):=⟨r.mo,pU,rfl,λ_ z=>.inl z,λb o eb nb=>by rw[AY (λz=>nb (by rw[z];exact ha))];exact eb,λb eb=>by
  by_cases h:b=a
  .subst h;rw[Ay];intro z;cases z
  .rw[AY h];exact eb⟩
 refine⟨⟨λb z=>?_,r.nd,r.nt,by rw[qZ];exact r.len,λm b c e1 e2=>?_⟩,g⟩
 .by_cases h:b=a
  .subst h;exact .inr (.inl ⟨ys,Ay⟩)
  .rw[AY h];exact r.mo b z
 .by_cases h:n=m
  .subst h
   rw[h1]at e1;cases e1
   rw[nU hl]at e2;cases e2
   exact⟨ys,Ay,hy.step g.st⟩
  .rw[nI h]at e2
   have hb:b≠a:=λz=>by
    subst z
    exact h ((uC (nP.mp h1).1 r.nd).mp (h1.trans e1.symm))
   have q:=r.cell m b c e1 e2
   cases c with
   |lst fs=>obtain⟨xs,e,rr⟩:=q;exact⟨xs,by rw[AY hb];exact e,rr.step g.st⟩
   |dct fs=>obtain⟨xs,e,rr⟩:=q;exact⟨xs,by rw[AY hb];exact e,rr.step g.st⟩
   |tab fs=>obtain⟨xs,e,rr⟩:=q;exact⟨xs,by rw[AY hb];exact e,rr.step g.st⟩
theorem StR.dn(r:StR K M S H){a:nH}(e:H a=none):StR K ⟨M.cel,a::M.tmp⟩ S (upd H a (.dK []))/\Sp1 M H ⟨M.cel,a::M.tmp⟩ (upd H a (.dK [])):=by
 have k:∀b o,H b=Gc o->upd H a (.dK []) b=Gc o:=Fi e
 have na:¬M.mem a:=λz=>r.mo.some z e
 have s1:Sp1 M H ⟨M.cel,a::M.tmp⟩ (upd H a (.dK [])):=⟨r.mo,pU,λb z=>by
  rcases z with z|z
  .exact .inl (.inl z)
  .rcases nK.mp z with z|z
   .subst z;exact .inr e
   .exact .inl (.inr z),λb o eb _=>k b o eb⟩
 refine⟨⟨λb z=>?_,r.nd,λb hb z=>?_,r.len,λn b c h1 h2=>?_⟩,s1⟩
 .by_cases h:b=a
  .subst h;exact .inr (.inl ⟨[],Ay⟩)
  .rw[AY h]
   refine r.mo b ?_
   rcases z with z|z
   .exact .inl z
   .rcases nK.mp z with z|z
    .exact absurd z h
    .exact .inr z
 .rcases nK.mp hb with hb|hb
  .subst hb;exact na (.inl z)
  .exact r.nt b hb z
 .have q:=r.cell n b c h1 h2
  cases c with
  |lst ds=>obtain⟨xs,e,rr⟩:=q;exact⟨xs,k _ _ e,rr.step s1⟩
  |dct ds=>obtain⟨xs,e,rr⟩:=q;exact⟨xs,k _ _ e,rr.step s1⟩
  |tab ds=>obtain⟨xs,e,rr⟩:=q;exact⟨xs,k _ _ e,rr.step s1⟩
theorem StR.lO{c t:List nH}{a:nH}{kvs:List (Key×V)}{es:List (Key×D)}(cf:oO)(r:StR K ⟨c,a::t⟩ S H)(nt:a∉t)(rr:Bo K ⟨c,a::t⟩ H kvs es):∃c',StR K ⟨c',t⟩ (Q4 cf es S).2 (upd H a (.dK kvs))/\DA K ⟨c',t⟩ (upd H a (.dK kvs)) (.ref a) (Q4 cf es S).1/\c <+: c'/\(∀b∈c',b∈c\/b=a):=by
 have nc:a∉c:=r.nt a nO
 have hl:c.length=S.length:=r.len
 have ne:∀b∈c,b≠a:=λb hb z=>nc (by rw[<-z];exact hb)
 have kp:∀b o,H b=Gc o->¬Ms.mem ⟨c,a::t⟩ b->upd H a (.dK kvs) b=Gc o:=λb o eb nb=>by rw[AY (λz=>nb (.inr (by rw[z];exact nO)))];exact eb
 have old:∀{c':List nH},Sp1 ⟨c,a::t⟩ H ⟨c',t⟩ (upd H a (.dK kvs))->∀(n:Nat) (b:nH) (cl:Cl),c[n]?=Gc b->S[n]?=Gc cl->cx K ⟨c',t⟩ (upd H a (.dK kvs)) b cl:=λs1 n b cl h1 h2=>by
  have hb:=ne b (nZ h1)
  have q:=r.cell n b cl h1 h2
  cases cl with
  |lst ds=>obtain⟨xs,e,rr⟩:=q;exact⟨xs,by rw[AY hb];exact e,rr.step s1⟩
  |dct ds=>obtain⟨xs,e,rr⟩:=q;exact⟨xs,by rw[AY hb];exact e,rr.step s1⟩
  |tab ds=>obtain⟨xs,e,rr⟩:=q;exact⟨xs,by rw[AY hb];exact e,rr.step s1⟩
 have mo:∀b,Ms.mem ⟨c,t⟩ b\/b=a->(∃xs,upd H a (.dK kvs) b=Gc (.lst xs))\/(∃ks,upd H a (.dK kvs) b=Gc (.dK ks))\/∃ps,upd H a (.dK kvs) b=Gc (.tbl ps):=λb z=>by
  by_cases h:b=a
  .subst h;exact .inr (.inl ⟨kvs,Ay⟩)
  .rw[AY h]
   rcases z with z|z
   .exact r.mo b (z.imp id (nC _))
   .exact absurd z h
 cases cf with
 |false=>
  have s1:Sp1 ⟨c,a::t⟩ H ⟨c,t⟩ (upd H a (.dK kvs)):=⟨r.mo,pU,λb z=>.inl (z.imp id (nC _)),kp⟩
  exact⟨c,⟨λb z=>mo b (.inl z),r.nd,λb hb=>r.nt b (nC _ hb),r.len,old s1⟩,.dct Ay (λz=>z.elim nc nt) (rr.step s1),pU,λb z=>.inl z⟩
 |true=>
  have s1:Sp1 ⟨c,a::t⟩ H ⟨c++[a],t⟩ (upd H a (.dK kvs)):=⟨r.mo,sD _ _,λb z=>by
   rcases z with z|z
   .rcases oC.mp z with z|z
    .exact .inl (.inl z)
    .exact .inl (.inr (by rw[oK.mp z];exact nO))
   .exact .inl (.inr (nC _ z)),kp⟩
  refine⟨c++[a],⟨λb z=>mo b ?_,?_,λb hb z=>?_,by simp[Q4,hl],λn b cl h1 h2=>?_⟩,.ref (by rw[<-hl];exact nY),sD _ _,λb z=>?_⟩
  .rcases z with z|z
   .rcases oC.mp z with z|z
    .exact .inl (.inl z)
    .exact .inr (oK.mp z)
   .exact .inl (.inr z)
  .rw[sW]
   refine⟨r.nd,by simp,λx hx y hy z=>?_⟩
   simp at hy;subst hy
   exact nc (by rw[<-z];exact hx)
  .rcases oC.mp z with z|z
   .exact r.nt b (nC _ hb) z
   .rw[oK.mp z]at hb;exact nt hb
  .have h2:(S++[Cl.dct es])[n]?=Gc cl:=h2
   by_cases h:n<S.length
   .rw[nF (by rw[hl];exact h)]at h1
    rw[nF h]at h2
    exact old s1 n b cl h1 h2
   .have hm:n=S.length:=by
     have:=(nP.mp h2).1
     simp at this;lia
    subst hm
    rw[oP (by rw[hl];exact nG _)]at h1
    rw[oP (nG _)]at h2
    rw[hl]at h1
    simp at h1 h2
    subst h1 h2
    exact⟨kvs,Ay,rr.step s1⟩
  .rcases oC.mp z with z|z
   .exact .inl z
   .exact .inr (oK.mp z)
noncomputable def evP:List (Ev×Ev)->En->Sto->nB (List (Key×D)×Sto)
 | [],_,S=>Gc ([],S)
 |(k,v)::r,E,S=>(k E S).bind λa=>(V4 a.1).bind λkk=>(v E a.2).bind λb=>(evP r E b.2).map λq=>((kk,b.1)::q.1,q.2)
theorem Yw:∀{fs:List (Ev×Ev)} {M:Ms} {S:Sto} {es:List (Key×D)} {S':Sto} {H:Hp} {Q:List (V×V)->Hp->Prop},evP fs E S=Gc (es,S')->EnR K M E σ H->StR K M S H->(∀kvs H' M',Gr M H M' H'->StR K M' S' H'->Bo K M' H' kvs es->kvs.length=fs.length->Q (kvs.map λkv=>(kV kv.1,kv.2)) H')->QT (fs.map λx=>(tD K x.1,tD K x.2)) σ H Q
 | [],M,S,es,S',H,Q,e,r,st,q=>by
   cases e
   exact q [] H M (.refl st.mo) st .nil rfl
 |(fk,fv)::fs,M,S,es,S',H,Q,e,r,st,q=>by
  obtain⟨⟨dk,S1⟩,e1,e⟩:=Am e
  obtain⟨kk,ek,e⟩:=Am e
  obtain⟨⟨dv,S2⟩,e2,e⟩:=Am e
  obtain⟨⟨es',S3⟩,e3,e⟩:=Iu e
  cases e
  refine⟨M,E,S,dk,S1,e1,r,st,λv H1 M1 g1 st1 d1=>?_⟩
  refine⟨M1,E,S1,dv,S2,e2,r.step g1.st,st1,λv2 H2 M2 g2 st2 d2=>?_⟩
  refine Yw e3 ((r.step g1.st).step g2.st) st2 λkvs H3 M3 g3 st3 rk hl=>?_
  rw[R9 d1 ek]
  exact q ((kk,v2)::kvs) H3 M3 ((g1.trans g2).trans g3) st3 (.cons (d2.step g3.st) rk) (by simp[hl])
end
noncomputable def OQ(cf:oO)(fs:List (Ev×Ev)):Ev:=λE S=>(evP fs E S).map λr=>Q4 cf (J4 [] r.1) r.2
abbrev Uq:=OQ false
abbrev Ya:=OQ true
section
variable{X:Cx}{pos:Pos}
structure DPs(X:Cx)(pos:Pos)(ks:List (nB oI))(vs:List oI)(fs:List (Ev×Ev)):Prop where
 pe:PPs X pos ks vs (fs.map λx=>(tD X.K x.1,tD X.K x.2))
 all:ks.all (·.isSome)=true
 len:ks.length=vs.length
 num:fs.length=vs.length
theorem UA:DPs X pos [] [] []:=⟨aL,rfl,rfl,rfl⟩
theorem Qh{k v:oI}{ks:List (nB oI)}{vs:List oI}{fk fv:Ev}{fs:List (Ev×Ev)}(hk:DE X k fk)(hv:DE X v fv)(h:DPs X pos ks vs fs):DPs X pos (Gc k::ks) (v::vs) ((fk,fv)::fs):=
 ⟨Xv hk.pe hv.pe h.pe,by rw[uX,h.all];rfl,by rw[oT,oT,h.len],by rw[oT,oT,h.num]⟩
theorem Pr{K:mx}{M:Ms}{H:Hp}{S S':Sto}{Q:VK}{cf:oO}{p:nH}{M2:Ms}{H2:Hp}{S2:Sto}{kvs:List (Key×V)}{es:List (Key×D)}(st:StR K M S H)(hp:H p=none)(g:Gr ⟨M.cel,p::M.tmp⟩ (upd H p (.dK [])) M2 H2)(st2:StR K M2 S2 H2)(rk:Bo K M2 H2 kvs es)(q:∀v H' M',Gr M H M' H'->StR K M' (Q4 cf es S2).2 H'->DA K M' H' v (Q4 cf es S2).1->Q v H'):Q (.ref p) (upd H2 p (.dK kvs)):=by
 obtain⟨c2,t2⟩:=M2
 have ht:t2=p::M.tmp:=g.tmp
 subst ht
 have np:p∉M.tmp:=λz=>st.mo.some (.inr z) hp
 obtain⟨c',st',rd,pr,sub⟩:=st2.lO cf np rk
 refine q _ _ ⟨c',M.tmp⟩ ⟨st.mo,(show M.cel <+: c2 from g.pre).trans pr,rfl,λb z=>?_,λb o eb nb=>?_,λb eb=>?_⟩ st' rd
 .rcases sub b z with z|z
  .rcases g.fresh b z with z|z
   .exact .inl z
   .right
    by_cases h:b=p
    .rw[h];exact hp
    .rw[AY h]at z;exact z
  .right;rw[z];exact hp
 .have h:b≠p:=λz=>by rw[z,hp]at eb;cases eb
  rw[AY h]
  exact g.keep b o (by rw[AY h];exact eb) nb
 .by_cases h:b=p
  .subst h;rw[Ay];intro z;cases z
  .rw[AY h]
   exact g.some b (by rw[AY h];exact eb)
theorem Yv{cf:oO}{ks:List (nB oI)}{vs:List oI}{fs:List (Ev×Ev)}(h:DPs X pos ks vs fs)(h0:ks≠[])(h15:ks.length<=15):DE X (.Dict ks vs pos) (OQ cf fs):=⟨
 BI (Zb h.pe h.all h.len h0 h15) λσ H Q z=>by
  obtain⟨M,E,S,d,S',e,r,st,q⟩:=z
  obtain⟨⟨es,S2⟩,e1,e⟩:=Iu e
  intro p hp
  obtain⟨st0,s0⟩:=st.dn hp
  refine Yw e1 (r.step s0) st0 λkvs H2 M2 g st2 rk hl=>⟨g.keep p _ Ay (st0.nt p nO),kvs,rfl,by rw[hl,h.num,<-h.len];exact h15,?_⟩
  refine Pr (cf:=cf) (S':=S') st hp g st2 (rk.merge .nil) ?_
  have e':Q4 cf (J4 [] es) S2=(d,S'):=e
  rw[e']
  exact q⟩
theorem gq{cf:oO}:DE X (.Dict [] [] pos) (OQ cf []):=⟨
 BI V8 λσ H Q z=>by
  obtain⟨M,E,S,d,S',e,r,st,q⟩:=z
  obtain⟨⟨es,S2⟩,e1,e⟩:=Iu e
  cases e1
  intro p hp
  obtain⟨st0,s0⟩:=st.dn hp
  have:=Pr (cf:=cf) (S':=S') (Q:=Q) (kvs:=[]) (es:=[]) st hp (.refl st0.mo) st0 .nil (by
   have e':Q4 cf [] S=(d,S'):=e
   rw[e'];exact q)
  rw[Sm]at this
  exact this⟩
noncomputable def bD(fd fk fx:Ev):Ev:=λE S=>(fd E S).bind λa=>(QF a.2 a.1).bind λ_=>(fk E a.2).bind λb=>(fx E b.2).bind λc=>(QF c.2 a.1).bind λes=>(V4 b.1).map λk=>((R8 es k).getD c.1,c.2)
theorem Yj{o e f:oI}{fd fk fx:Ev}{apos cpos:Pos}(hu:X.A.units+100<cLine)(ho:DE X o fd)(hk:DE X e fk)(hx:DE X f fx)(m:M2 X o "get" apos e f cpos):DE X (.Call (.Attribute o "get" apos) [e,f] [] cpos) (bD fd fk fx):=⟨
 BI (Vq (by lia) ho.pe hk.pe hx.pe m) λσ H Q z=>by
  obtain⟨M,E,S,d,S',e,r,st,q⟩:=z
  obtain⟨⟨a,S1⟩,e1,e⟩:=Am e
  obtain⟨es1,ed,e⟩:=Am e
  obtain⟨⟨b,S2⟩,e2,e⟩:=Am e
  obtain⟨⟨c,S3⟩,e3,e⟩:=Am e
  obtain⟨es,ed3,e⟩:=Am e
  obtain⟨k,ek,e⟩:=Iu e
  cases e
  refine⟨M,E,S,a,S1,e1,r,st,λv H1 M1 g1 st1 d1=>?_⟩
  obtain⟨p,kvs,rfl,hp,_⟩:=Oj st1 d1 ed
  refine⟨p,rfl,.inl ⟨kvs,.inl hp⟩,M1,E,S1,b,S2,e2,r.step g1.st,st1,λv2 H2 M2 g2 st2 d2=>?_⟩
  refine⟨M2,E,S2,c,S3,e3,(r.step g1.st).step g2.st,st2,λv3 H3 M3 g3 st3 d3=>?_⟩
  obtain⟨p',kvs3,e4,hp3,rk⟩:=Oj st3 ((d1.step g2.st).step g3.st) ed3
  cases e4
  rw[R9 d2 ek]
  refine⟨_,.k hp3,?_⟩
  rcases rk.val k with⟨h1,h2⟩|⟨v,d,h1,h2,h3⟩
  .rw[h1];rw[h2]at q;exact q _ _ M3 ((g1.trans g2).trans g3) st3 d3
  .rw[h1];rw[h2]at q;exact q _ _ M3 ((g1.trans g2).trans g3) st3 h3⟩
noncomputable def WJ(k f o:Ev):Ex:=λE S=>(k E S).bind λr=>(f E r.2).bind λb=>(o E b.2).bind λi=>(V4 i.1).bind λkk=>match b.1 with
 | .ref n=>match i.2[n]? with
   |some (.dct es)=>if es.length<1000 then Gc (.nx,E,i.2.set n (.dct (putD es kk r.1)))else none
   |_=>none
 |_=>none
theorem aZ{e t bs:oI}{k f o:Ev}{ps pos:Pos}(hu:X.A.units+100<cLine)(h:DE X e k)(hb:DE X bs f)(ht:DE X t o)(hs:swapsWith e (Gc (.Subscript bs t ps)) pos.line X.env=pure false:=by rfl):DS X (.Assign [.Subscript bs t ps] e pos) (WJ k f o):=⟨
 FY (ZO (by lia) hb.pe ht.pe h.pe hs) λDn σ H z=>by
  obtain⟨M,E,S,fl,E',S',e,r,st,q⟩:=z
  obtain⟨⟨d,S1⟩,e1,e⟩:=Am e
  obtain⟨⟨b,S2⟩,e2,e⟩:=Am e
  obtain⟨⟨i,S3⟩,e3,e⟩:=Am e
  obtain⟨kk,ek,e⟩:=Am e
  dsimp only at e e1 e2 e3 ek
  split at e
  . 
   split at e
   .rename_i es e4
    split at e
    .rename_i hl
     cases e
     refine⟨M,E,S,d,S1,e1,r,st,λv H1 M1 g1 st1 r1=>?_⟩
     refine⟨M1,E,S1,_,S2,e2,r.step g1.st,st1,λbv H2 M2 g2 st2 r2=>?_⟩
     refine⟨M2,E,S2,_,S3,e3,(r.step g1.st).step g2.st,st2,λiv H3 M3 g3 st3 r3=>?_⟩
     rw[R9 r3 ek]
     cases r2 with
     |ref hc=>
      rename_i a
      have hc3:=LS g3.pre hc
      obtain⟨kvs,h1,h2⟩:=st3.cell _ a _ hc3 e4
      obtain⟨st4,g4⟩:=st3.kj hc3 e4 (Bo.put (k:=kk) ((r1.step g2.st).step g3.st) h2)
      have g:=((g1.trans g2).trans g3).trans g4
      exact⟨a,_,rfl,.k h1 (by rw[h2.length,tZ];lia),q _ _ M3 g (r.step g.st) st4⟩
    .cases e
   .cases e
  .cases e⟩
end
abbrev sO(led:oO):Obj:={cls:=.type "set",dict:=none,data:=.set #[] 0 (.fresh 0 0 led)}
section
variable{prog:nq}{w:oN}{A:oU}{E:mz->m8->Prop}{s:m8}{l:nH}{items:oH mz}{ns:List Int}
abbrev Vn(ns:List Int)(n:Nat):List Int:=PyProof.Rows.firstMet (λi=>ns.getD i 0) n
end
end Mi
end
noncomputable section
namespace Mi
open PySem PySem.Spec L2 PyProof.Rows
section
variable{prog:nq}{w:oN}{A:oU}{E:mz->m8->Prop}{s:m8}{l:nH}{vs:List mz}
abbrev hpC(h:oQ)(vs:List mz):oQ:=(h.push (seqObj "list" #[] 0)).update h.objs.size (oV (· ++vs.toArray))
theorem QD{Q:List mz->m8->Prop}(hl:s.heap.IsTuple l vs.toArray)(hz:vs.length<=sizeLine)(h:Q vs {s with heap:=hpC s.heap vs}):wpAny (model prog w) A (collect (.ref l)) Q E s:=by
 obtain⟨o,ho,hc,n,hd⟩:=id hl
 have ho1:=my (seqObj "list" #[] 0) ho
 have me:(s.heap.push (seqObj "list" #[] 0)).get? s.heap.objs.size=Gc (seqObj "list" #[] 0):=nM _ rfl
 unfold collect
 refine Wp (xH (qb entry_proto_collect' ?_))
 refine(show wpAny _ _ (do again (.builtin "list.__iadd__" ⟨[<-newList [],.ref l],[]⟩)) _ _ s from Wp (tR (m9 ⟨yA _ (by decide+kernel),qb entry_list_iadd' ?_⟩)))
 show wpAny _ _ (pA (.ref s.heap.objs.size) (.ref l) (.ref s.heap.objs.size)) _ _ {s with heap:=s.heap.push (seqObj "list" #[] 0)}
 unfold pA
 refine Wp (rh (T:="tuple") ⟨o,ho1,hc⟩ ?_)
 have tt:(rZ "tuple" ==rZ "tuple")=true:=rfl
 rw[nh (by rw[tt];simp)]
 refine Wp (yf ho1 hd (Wp (yf me rfl ?_)))
 rw[oE (by simp)]
 refine Wp (va me rfl (m9 ?_) (pY _) (by show(#[]++vs.toArray).size<=sizeLine+1;simp only[ye,nQ,sN];lia))
 show wpAny (model prog w) A (do
  let o<-load s.heap.objs.size
  match o.data with
  | .seq xs _=>pure xs.toList
  |_=>unsupported "internal:collect") Q E {s with heap:=hpC s.heap vs}
 refine Wp (AAA (zh me _) ?_)
 refine(show wpAny _ _ (pure ((#[]:oH mz)++vs.toArray).toList) Q E _ from ?_)
 rw[show((#[]:oH mz)++vs.toArray).toList=vs by simp]
 exact m9 h
theorem RS{ns:List Int}{Q:mz->m8->Prop}(hl:s.heap.IsTuple l vs.toArray)(hI:qO vs ns)(h64:vs.length<64)(h:∀(out:oH mz) (ms:List Int),qO out.toList ms->ms.Perm ns->ms.Pairwise (· <= ·)->Q (.ref (s.heap.objs.size+1)) {s with heap:=sortedAll s.heap vs out}):wpAny (model prog w) A (call (.builtin "sorted") [.ref l]) Q E s:=by
 refine tH zX yg yh (yi _) ?_
 unfold qK.«sorted»
 refine Wp (m:=checkCount "sorted" 1 1 _) (m9 (Wp (QD hl (nL (qJ h64) (by decide)) (Wp (tR ?_)))))
 have sz:(hpC s.heap vs).objs.size=s.heap.objs.size+1:=by rw[zK,size_push']
 have at1:((hpC s.heap vs).push (seqObj "list" vs.toArray 0)).get? (s.heap.objs.size+1)=Gc (seqObj "list" vs.toArray 0):=by
  rw[<-sz];exact nM _ rfl
 show wpAny _ _ _ _ _ {s with heap:=(hpC s.heap vs).push (seqObj "list" vs.toArray 0)}
 rw[sz]
 refine Wp (oq (oW xI ⟨_,at1,rfl⟩ wY (list_sort_tree at1 hI h64 λout ms a1 a2 a3=>⟨_,rfl,m9 ⟨_,rfl,h out ms a1 a2 a3⟩⟩) (xJ _)))
end
end Mi
end
noncomputable section
namespace Mi
open PySem PySem.Spec L2
theorem PZ{X:Cx}:Dl X (.builtin "sorted") (λxs H Q=>∃(p:nH) (ns:List Int),xs=[.ref p]/\SqT X.K H p (ns.map V.int)/\ns.length<64/\∀q,H q=none->Q (.ref q) (upd H q (.lst ((GA ns).map V.int)))):=by
 intro pins s σ H xs us Q I r h
 obtain⟨p,ns,rfl,hp,h64,q⟩:=h
 obtain⟨u,rfl,ru⟩:=r.one
 cases (show u=oX p from ru)
 obtain⟨its,rv,pl,hz⟩:=I.tuple hp
 have hlen:ns.length=its.length:=by have:=rv.length;simpa using this
 refine RS pl (intsAre_of rv) (by lia) λout ns' a1 a2 a3=>?_
 obtain⟨e,he⟩:=vL s.heap its out
 have hn:H (s.heap.objs.size+1)=none:=I.hok.fresh (rC _)
 have hs:=Jr a2 a3
 subst hs
 refine⟨.ref _,_,I.laid (a:=s.heap.objs.size+1) (o:=.lst ((GA ns).map V.int)) (t':=s.toks) (λ_ _=>vE) (rC _) ?_,rfl,q _ hn⟩
 refine⟨?_,out.toList,e,EO a1,?_⟩
 .rw[oG,(Eu ns).length_eq]
  have:(64:Nat)<=sizeLine:=by decide
  lia
 .rw[rD];exact he
noncomputable def JX:Op1:=λw=>match w with
 | .val (.tup ds)=>(Im ds).bind λns=>if ns.length<64 then Gc (.own ((GA ns).map D.int))else none
 |_=>none
theorem N8{X:Cx}:Dl X (.builtin "sorted") (rN X.K (o1 JX)):=by
 intro pins s σ H xs us Q I r h
 obtain⟨M,ws,w,e,mo,sh,q⟩:=h
 obtain⟨v,w1,rfl,rfl,s1,e1⟩:=GY sh e
 unfold JX at e1
 split at e1
 .obtain⟨ns,e3,e1⟩:=Am e1
  split at e1
  .cases e1
   cases s1 with
   |tup h3 h4=>
    exact PZ pins s σ H _ us Q I r ⟨_,ns,rfl,by rw[<-HZ h4 e3];exact h3,by assumption,λp hp=>q _ _ (.lst mo hp Gi)⟩
  .cases e1
 .cases e1
end Mi
end
noncomputable section
namespace Mi
open PySem
abbrev Ris(xs:oH Nat):Prop:=xs.toList.Pairwise (· < ·)
theorem Ris.lt{xs:oH Nat}(h:Ris xs){i k:Nat}(a:i<k)(b:k<xs.size):xs[i]'(r9 a b)<xs[k]:=by
 have:=vM.mp h i k (by simpa using r9 a b) (by simpa using b) a
 simpa using this
structure Blw(xs:oH Nat)(j r:Nat):Prop where
 le:r<=xs.size
 lo:∀i (h:i<xs.size),i<r->xs[i]<j
 hi:∀i (h:i<xs.size),r<=i->j<=xs[i]
theorem NO{xs:oH Nat}(hx:Ris xs)(j:Nat):∀fuel lo hi,hi-lo<=fuel->lo<=hi->hi<=xs.size->(∀i (h:i<xs.size),i<lo->xs[i]<j)->(∀i (h:i<xs.size),hi<=i->j<=xs[i])->Blw xs j (yj xs j fuel lo hi)
 |0,lo,hi,f,a,b,c,d=>by
  have:lo=hi:=by lia
  subst this
  exact⟨b,c,d⟩
 |fuel+1,lo,hi,f,a,b,c,d=>by
  unfold yj
  by_cases q:lo<hi
  .rw[nh q]
   have ml:(lo+hi) / 2<xs.size:=by lia
   have e:xs.getD ((lo+hi) / 2) j=xs[(lo+hi) / 2]:=by simp[tV,ml]
   dsimp only
   by_cases z:xs.getD ((lo+hi) / 2) j<j
   .rw[nh z]
    rw[e]at z
    refine NO hx j fuel _ _ (by lia) (by lia) b (λi h l=>?_) d
    by_cases k:i=(lo+hi) / 2
    .subst k;exact z
    .exact r9 (hx.lt (show i<(lo+hi) / 2 by lia) ml) z
   .rw[oE z]
    rw[e]at z
    refine NO hx j fuel _ _ (by lia) (by lia) (by lia) c (λi h l=>?_)
    by_cases k:i=(lo+hi) / 2
    .subst k;lia
    .have:=hx.lt (show(lo+hi) / 2<i by lia) h;lia
  .rw[oE q]
   have:lo=hi:=by lia
   subst this
   exact⟨b,c,d⟩
theorem NI{xs:oH Nat}(hx:Ris xs)(j:Nat):Blw xs j (pG xs j):=
 NO hx j _ _ _ (by lia) (pY _) (nG _) (λi _ h=>absurd h (by lia)) (λi h l=>absurd h (by lia))
theorem below_at{xs:oH Nat}(hx:Ris xs){k:Nat}(hk:k<xs.size):pG xs xs[k]=k:=by
 have b:=NI hx xs[k]
 rcases yk (pG xs xs[k]) k with h|h|h
 .have:=b.hi _ (by lia) (nG _);have:=hx.lt h hk;lia
 .exact h
 .have:=b.lo k hk h;lia
noncomputable def slotAt(xs:oH Nat)(i:Nat):Nat:=if i=0 then 0 else xs.getD (i-1) 0+1
theorem RT{xs:oH Nat}(hx:Ris xs){i:Nat}(hi:i<=xs.size):pG xs (slotAt xs i)=i:=by
 have b:=NI hx (slotAt xs i)
 have bl:=b.le
 by_cases z:i=0
 .subst z
  rcases Nat.eq_zero_or_pos (pG xs (slotAt xs 0))with h|h
  .exact h
  .have:=b.lo 0 (by lia) h;simp[slotAt]at this
 .have e:slotAt xs i=xs[i-1]'(by lia)+1:=by
   have:i-1<xs.size:=by lia
   simp[slotAt,z,tV,this]
  rcases yk (pG xs (slotAt xs i)) i with h|h|h
  .have:=b.hi (i-1) (by lia) (by lia);lia
  .exact h
  .have h1:=b.lo i (by lia) h;have h2:=hx.lt (show i-1<i by lia) (show i<xs.size by lia);lia
theorem Ris.insert{xs:oH Nat}(hx:Ris xs){j:Nat}(hj:xs[pG xs j]?≠Gc j):Ris (SetTable.insertAt xs (pG xs j) j):=by
 have b:=NI hx j
 have nj:∀k (hk:k<xs.size),xs[k]≠j:=λk hk e=>hj (by rw[<-e,below_at hx hk,Array.getElem?_eq_getElem hk])
 show xm _ _
 rw[SetTable.toList_insertAt,List.pairwise_append,vF]
 have tk:∀a∈xs.toList.take (pG xs j),a<j:=λa ha=>by
  obtain⟨i,hi,rfl⟩:=List.mem_take_iff_getElem.mp ha
  have q:i<xs.size:=by simp at hi;lia
  simpa using b.lo i q (by lia)
 have dr:∀a∈xs.toList.drop (pG xs j),j<a:=λa ha=>by
  obtain⟨i,hi,rfl⟩:=List.mem_drop_iff_getElem.mp ha
  have q:pG xs j+i<xs.size:=by simp at hi;lia
  have:=b.hi _ q (by lia)
  have:=nj _ q
  simp only[Array.getElem_toList]
  lia
 refine⟨wk (yQ _ _) hx,⟨dr,wk (List.drop_sublist _ _) hx⟩,λa ha c hc=>?_⟩
 rcases nK.mp hc with rfl|hc
 .exact tk a ha
 .exact r9 (tk a ha) (dr c hc)
theorem T4(n:Nat):Ris (Array.range n):=by
 show xm _ _
 rw[Array.toList_range];exact uG
structure TOk(t:SetTable)(led:oO):Prop where
 dum:t.dummies= #[]
 ris:Ris t.place
 led:t.led=led
theorem TOk.fresh(led:oO):TOk (.fresh 0 0 led) led:=⟨rfl,vS,rfl⟩
theorem TOk.standIn{t:SetTable}{led:oO}(h:TOk t led)(n:Nat):TOk (t.standIn n) led:=⟨rfl,T4 n,h.led⟩
theorem TOk.orStandIn{t:SetTable}{led:oO}(h:TOk t led)(n:Nat):TOk (t.orStandIn n) led:=by
 unfold SetTable.orStandIn;split
 .exact h
 .exact h.standIn n
theorem TOk.plain{t:SetTable}{led:oO}(h:TOk t led)(b:oO):TOk {t with plain:=b} led:=⟨h.dum,h.ris,h.led⟩
theorem Uy(j:Nat):yl #[] j=false:=by simp[yl]
theorem RA{t:SetTable}(hd:t.dummies= #[])(f:Nat->Int)(h:Int):∀fuel (p:SetTable.Probe) {j d},p.dummy=none->vT t f h fuel p=Gc (.empty j d)->d=none/\t.place[pG t.place j]?≠Gc j
 |0,p,j,d,_,e=>by simp[vT]at e
 |fuel+1,p,j,d,pn,e=>by
  unfold vT at e
  have an:(t.advance p).dummy=none:=by unfold SetTable.advance;split<;>exact pn
  cases q:t.slot p.j with
  |empty=>
   rw[q]at e
   dsimp only at e
   injection e with e
   injection e with e1 e2
   subst e1 e2
   refine⟨pn,λz=>?_⟩
   unfold SetTable.slot at q
   rw[nh (by rw[z];simp)]at q
   exact SetTable.Slot.noConfusion q
  |dummy=>
   unfold SetTable.slot at q
   rw[hd,Uy]at q
   dsimp only at q
   split at q<;>simp at q
  |live i=>
   rw[q]at e
   dsimp only at e
   split at e
   .simp at e
   .exact RA hd f h fuel _ an e
theorem Y0{t:SetTable}{led:oO}(h:TOk t led){x:Int}{j:Nat}{b:oO}(e:t.freeSlot x=Gc (j,b)):t.place[pG t.place j]?≠Gc j:=by
 unfold SetTable.freeSlot at e
 split at e
 .rename_i j' d q
  unfold SetTable.probe at q
  obtain⟨rfl,n⟩:=RA h.dum _ x _ _ rfl q
  simp at e
  obtain⟨rfl,_⟩:=e
  exact n
 .simp at e
theorem TOk.put{t:SetTable}{led:oO}(h:TOk t led){j:Nat}(n:t.place[pG t.place j]?≠Gc j):TOk (t.put j).1 led:=by
 refine⟨?_,h.ris.insert n,h.led⟩
 show(if yl t.dummies j=true then _ else t.dummies)=_
 rw[h.dum,Uy];rfl
theorem TOk.layNew{t:SetTable}{led:oO}(h:TOk t led)(es:oH (Int×mz))(x:Int)(v:mz):TOk (layNew t es x v).2.1 led:=by
 unfold PySem.layNew
 split
 .rename_i j b e
  exact(h.put (Y0 h e)).orStandIn _
 .exact h.standIn _
theorem TOk.iF{t:SetTable}{led:oO}(h:TOk t led)(es:oH (Int×mz))(n:Nat):TOk (relayAll t es n).2.1 led:=by
 unfold relayAll
 split
 .rename_i t' order e
  dsimp only
  split
  .unfold SetTable.relaid SetTable.laid at e
   cases q:SetTable.layClean (SetTable.sizeAbove n-1) (es.map (·.1))with
   |none=>rw[q]at e;simp at e
   |some owner=>
    rw[q]at e
    simp at e
    obtain⟨rfl,_⟩:=e
    refine⟨rfl,?_,h.led⟩
    show xm _ _
    simp only[List.map_filterMap]
    refine List.Pairwise.filterMap _ (λa a' l b hb b' hb'=>?_) uG
    simp at hb hb'
    obtain⟨_,_,rfl⟩:=hb
    obtain⟨_,_,rfl⟩:=hb'
    exact l
  .exact h.standIn _
 .exact h.standIn _
end Mi
end
noncomputable section
namespace Mi
open PySem PySem.Spec L2 PyProof.Rows
noncomputable def iOf:Int×mz->Int|(_,.int n _)=>n|_=>0
abbrev vls(es:List (Int×mz)):List Int:=es.map iOf
abbrev byT(w:oN):oO:=w.params.followText "set-order"
section
variable{prog:nq}{w:oN}{A:oU}{E:mz->m8->Prop}{s:m8}
def KW(prog:nq)(w:oN)(h:oQ)(a:nH)(L:List Int):Prop:=
 ∃o es ep t,h.get? a=Gc o/\o.ExactSet/\o.data=.set es ep t/\wI (intKind prog w) es.toList/\(vls es.toList).Perm L/\es.size<scanBound/\t.fits es.size=true/\TOk t (!byT w)
theorem KW.at{h h':oQ}{a:nH}{L:List Int}(x:KW prog w h a L)(k:∀o,h.get? a=Gc o->h'.get? a=Gc o):KW prog w h' a L:=
 let⟨o,es,ep,t,ho,r⟩:=x;⟨o,es,ep,t,k o ho,r⟩
theorem X8{e:Int×mz}{es:List (Int×mz)}(h:wI (intKind prog w) es)(he:e∈es)(k:Int):(intKind prog w).is k e.2=true↔iOf e=k:=by
 obtain⟨⟨k',q,_⟩,_⟩:=h e he
 obtain⟨t,hv⟩:=vN q
 obtain⟨x,v⟩:=e
 dsimp only at hv
 subst hv
 show wq k (.int k' t)=true↔k'=k
 simp[wq]
theorem Ul{es:List (Int×mz)}(h:wI (intKind prog w) es)(k:Int):(∃e∈es,(intKind prog w).is k e.2=true)↔k∈vls es:=by
 rw[oR]
 exact⟨λ⟨e,he,q⟩=>⟨e,he,(X8 h he k).mp q⟩,λ⟨e,he,q⟩=>⟨e,he,(X8 h he k).mpr q⟩⟩
theorem Mf{h:oQ}{a:nH}{o:Obj}{es:oH (Int×mz)}{ep:Nat}{t:SetTable}(ho:h.get? a=Gc o)(hex:o.ExactSet)(hd:o.data=.set es ep t){es':oH (Int×mz)}{t':SetTable}{L:List Int}(hel:wI (intKind prog w) es'.toList)(hp:(vls es'.toList).Perm L)(hb:es'.size<scanBound)(hf:t'.fits es'.size=true)(ht:TOk t' (!byT w)):(h.update a (wJ es' t')).get? a=Gc {o with data:=.set es' (ep+1) t'}/\KW prog w (h.update a (wJ es' t')) a L:=by
 have hg:(h.update a (wJ es' t')).get? a=Gc {o with data:=.set es' (ep+1) t'}:=by
  have:=og (wJ es' t') ho (by rw[putSet_of es' t' hd];rfl)
  rw[putSet_of es' t' hd]at this;exact this
 exact⟨hg,_,es',ep+1,t',hg,hex,rfl,hel,hp,hb,hf,ht⟩
theorem Qv{g:oO->Sem Unit}(hg:∀(b:oO) (s₁:m8) (Q':Unit->m8->Prop),Q' () s₁->wpAny (model prog w) A (g b) Q' E s₁){a:nH}{o:Obj}{es:oH (Int×mz)}{ep:Nat}{t:SetTable}(ho:s.heap.get? a=Gc o)(hex:o.ExactSet)(hd:o.data=.set es ep t){es1:oH (Int×mz)}{t2:SetTable}{L:List Int}(hel1:wI (intKind prog w) es1.toList)(hp1:(vls es1.toList).Perm L)(hb1:es1.size<scanBound)(hf2:t2.fits es1.size=true)(ht:TOk t2 (!byT w)){wasDummy:oO}{R:nB oO->m8->Prop}(h:∀h',qf a s.heap h'->KW prog w h' a L->R (Gc true) {s with heap:=h'}):wpAny (model prog w) A (do
        storeSet a es1 t2
        if(!wasDummy && t2.tooFull)=true then do
           g (relayAll t2 es1 (rV es1.size)).2.2
           storeSet a (relayAll t2 es1 (rV es1.size)).1 (relayAll t2 es1 (rV es1.size)).2.1
           pure (Gc true)
         else pure (Gc true)) R E s:=by
 refine Wp (ym ho hd ?_ (uH hb1))
 obtain⟨ho1,hS1⟩:=Mf ho hex hd hel1 hp1 hb1 hf2 ht
 have hsb1:=pT s.heap a (wJ es1 t2)
 split
 .have hp:=relayAll_perm t2 es1 (rV es1.size)
  have hfr:=relayAll_fits t2 es1 (rV es1.size)
  have htr:=ht.iF es1 (rV es1.size)
  generalize hRl:relayAll t2 es1 (rV es1.size)=Rl at hp hfr htr⊢
  obtain⟨es2,t3,gave2⟩:=Rl
  dsimp only at hp hfr htr⊢
  have hel2:wI (intKind prog w) es2.toList:=hel1.perm hp
  have hsz:es2.size=es1.size:=by rw[<-pP,hp.length_eq,pP]
  have hb2:es2.size<scanBound:=by rw[hsz];exact hb1
  refine Wp (hg _ _ _ ?_)
  refine Wp (ym ho1 rfl ?_ (uH hb2))
  obtain⟨_,hS2⟩:=Mf ho1 hex rfl hel2 ((hp.map iOf).trans hp1) hb2 hfr htr
  exact m9 (h _ (hsb1.trans (pT _ a _)) hS2)
 .exact m9 (h _ hsb1 hS1)
theorem aT{a:nH}{L:List Int}{k:Int}{u:Tok}{Q:oO->m8->Prop}(hS:KW prog w s.heap a L)(hroom:L.length+1<scanBound)(h:∀h' b,qf a s.heap h'->KW prog w h' a (qc L k)->Q b {s with heap:=h'}):wpAny (model prog w) A (setAddHashed a (.int k u) ((intKind prog w).hash k)) Q E s:=by
 obtain⟨o,es,ep,t,ho,hex,hd,hel,hp,hb,hf,ht⟩:=hS
 have hkey:=intKind_is prog w k u
 have hsc:(tY k u).scannable=true:=rfl
 have hn:es.size=L.length:=by have:=hp.length_eq;simpa using this
 have hb1:es.size+1<scanBound:=by rw[hn];exact hroom
 unfold setAddHashed setAddHashedIn
 refine oq (Wp (rE ho hd hf ?_))
 dsimp only
 rw[byScan_of hsc hb hel]
 simp only[↓reduceIte]
 unfold setAddByScan
 refine Wp ?_
 refine Wp (rG ?_)
 refine Wp (wpAny_setScan_of hkey ho hd hf hel ?_)
 cases hr:List.findIdx? (λe=>(intKind prog w).is k e.2) es.toList with
 |some j=>
  dsimp only
  obtain⟨hj,hpj,_⟩:=List.findIdx?_eq_some_iff_getElem.mp hr
  have kin:k∈L:=hp.mem_iff.mp ((Ul hel k).mp ⟨es.toList[j],qT hj,hpj⟩)
  refine m9 (m9 ?_)
  have e:s={s with heap:=s.heap}:=by cases s;rfl
  rw[e]
  refine h s.heap _ (yZ a s.heap) ?_
  rw[show qc L k=L by unfold qc;rw[nh (rW.mpr ⟨k,kin,by simp⟩)]]
  exact⟨o,es,ep,t,ho,hex,hd,hel,hp,hb,hf,ht⟩
 |none=>
  dsimp only
  have kno:k∉L:=λz=>by
   obtain⟨e,he,q⟩:=(Ul hel k).mpr (hp.mem_iff.mpr z)
   have:=List.findIdx?_eq_none_iff.mp hr e he;rw[q]at this;exact qH this
  have sd:qc L k=L++[k]:=by
   unfold qc
   rw[oE (λz=>by obtain⟨x,hx,e⟩:=rW.mp z;exact kno (by rw[<-eq_of_beq e];exact hx))]
  rw[sd]at h
  have hgw:∀(b:oO) {s₁:m8} {Q':Unit->m8->Prop},Q' () s₁->wpAny (model prog w) A (match b with|true=>rule "set.scan.the-table-gave-way" |false=>pure ()) Q' E s₁:=
   λb s₁ Q' hq=>by cases b<;>first|exact m9 hq|exact rG hq
  have hperm:=layNew_perm t es ((intKind prog w).hash k) (.int k u)
  have hfits:=layNew_fits t es ((intKind prog w).hash k) (.int k u)
  have hto:=ht.layNew es ((intKind prog w).hash k) (.int k u)
  generalize hL:layNew t es ((intKind prog w).hash k) (.int k u)=L1 at hperm hfits hto⊢
  obtain⟨es1,t1,wasDummy,gave⟩:=L1
  dsimp only at hperm hfits hto⊢
  rw[yn]at hperm
  have hel1:wI (intKind prog w) es1.toList:=(hel.push hkey hsc).perm hperm
  have hp1:(vls es1.toList).Perm (L++[k]):=(hperm.map iOf).trans (by rw[qa];exact hp.append_right _)
  have hb1':es1.size<scanBound:=by rw[<-pP,hperm.length_eq,pF,pP];simpa using hb1
  refine Wp (hgw _ ?_)
  split
  .refine Wp ?_
   rw[hashByValue_scannable 8 hsc]
   refine m9 ?_
   refine Qv ?_ ho hex hd hel1 hp1 hb1' ?_ ?_ ?_
   .intro b s₁ Q' hq;cases b<;>first|exact m9 hq|exact rG hq
   .split
    .exact hfits
    .exact SetTable.fits_plain_off hfits
   .split
    .exact hto
    .exact hto.plain _
   .intro h' hsb hS';dsimp only;exact m9 (h h' _ hsb hS')
  .refine Wp (m9 ?_)
   simp only[↓reduceIte]
   refine Qv ?_ ho hex hd hel1 hp1 hb1' hfits hto ?_
   .intro b s₁ Q' hq;cases b<;>first|exact m9 hq|exact rG hq
   .intro h' hsb hS';dsimp only;exact m9 (h h' _ hsb hS')
end
section
variable{prog:nq}{w:oN}{A:oU}{R:Result->m8->Prop}{I:nH}{fp wr:List nH}{G:oH z7->oH z7->Prop}{n:Nat}{P:Nat->mz->Prop}{St:Nat->m8->Prop}
theorem OV(W:WalksS prog w A.in1 I fp wr G n P St)(S:nH)(hSf:S∉fp)(val:Nat->Int)(hval:∀i v,P i v->∃t,v=.int (val i) t)(hb:n+1<scanBound):∀(k i:Nat) (s:m8),n-i=k->i<=n->St i s->KW prog w s.heap S (firstMet val i)->(∀s',Moved (S::wr) G s s'->KW prog w s'.heap S (firstMet val n)->R (.ok (.ret .none)) s')->codeAny (model prog w) A (.builtin "set.update.loop" ⟨[.ref S,.ref I],[]⟩) R s:=by
 have hSw:S∉wr:=λh=>hSf (W.sub _ h)
 have hsub:∀b∈wr,b∈S::wr:=λb hb=>nC _ hb
 intro k
 induction k with
 |zero=>
  intro i s hk hi hst hS hR
  have hin:i=n:=by lia
  subst hin
  refine qb vv ?_
  rw[rF tu _]
  show wpAny _ A.in1 (pyNext (.ref I) >>= _) _ _ s
  refine Wp (W.done s _ _ hst λs' hm=>?_)
  show wpAny _ A.in1 (ret pz) _ _ s'
  exact m9 (hR s' (hm.mono hsub) (hS.at λo e=>hm.heap S _ hSw e))
 |succ k ih=>
  intro i s hk hi hst hS hR
  have hlt:i<n:=by lia
  refine qb vv ?_
  rw[rF tu _]
  show wpAny _ A.in1 (pyNext (.ref I) >>= _) _ _ s
  refine Wp (W.item i s _ _ hlt hst λv s' hP hst' hm=>?_)
  obtain⟨t,rfl⟩:=hval i v hP
  have hS':KW prog w s'.heap S (firstMet val i):=hS.at λo e=>hm.heap S _ hSw e
  show wpAny _ A.in1 (holding [tY (val i) t] (setAdd S (.int (val i) t)) >>= _) _ _ s'
  refine Wp (oq ?_)
  unfold setAdd
  refine oq ?_
  refine Wp ((intKind prog w).pyHash (k:=val i) (intKind_is _ _ _ _) ?_)
  have hroom:(firstMet val i).length+1<scanBound:=by have:=firstMet_length_le val i;lia
  refine aT (s:={s' with toks:=s'.toks+1}) hS' hroom λh' bb hsb hS2=>?_
  rw[<-firstMet_succ]at hS2
  refine m9 ⟨uY tu _,ih (i+1) _ (by lia) hlt (W.frame _ s' _ _ hst' (rC _) λb hb o e=>?_) hS2 λs'' hm'' hS''=>?_⟩
  .rw[hsb.2 b (λh:b=S=>hSf (by rw[<-h];exact hb))];exact e
  .refine hR s'' (Moved.trans W.gtrans ((hm.mono hsub).then_heap (rC _) λb o hb e=>?_) hm'') hS''
   rw[hsb.2 b (λh:b=S=>hb (by rw[h];exact nO))];exact e
end
section
variable{prog:nq}{w:oN}{A:oU}{E:mz->m8->Prop}{s:m8}
theorem WD(a:mz){Q₁:mz->m8->Prop}(h:Q₁ (.ref s.heap.objs.size) {s with heap:=s.heap.push (sO (!byT w))}):codeAny (model prog w) A (.call (.builtin "set.__new__") ⟨[.type "set",a],[]⟩) (wants Q₁ E) s:=by
 refine zk ?_
 show wpAny _ A.in1 (do checkBuiltinCall "set.__new__" ⟨[.type "set",a],[]⟩;again (.builtin "set.__new__" ⟨[.type "set",a],[]⟩)) _ _ s
 refine Wp (zY (F.newCall_set_1 a) (m9 ⟨uY zl _,qb F.entry_set_new ?_⟩))
 rw[rF zl _]
 unfold qK.«set.__new__» Builtin.Frozenset.newClass
 have hsub:=sub_set_self
 obtain⟨hp,g,d,tk,os⟩:=s
 dsimp only
 wp_walk
 refine vx (m9 ?_)
 dsimp only
 simp only[newObj]
 refine Wp (wpAny_alloc (m9 ?_))
 exact m9 h
end
end Mi
end
noncomputable section
namespace Mi
open PySem PySem.Spec L2 PyProof.Rows
section
variable{prog:nq}{w:oN}{A:oU}{E:mz->m8->Prop}{s:m8}{l:nH}{items:oH mz}{ns:List Int}
theorem KW.fresh{h:oQ}{a:nH}(e:h.get? a=Gc (sO (!byT w))):KW prog w h a []:=
 ⟨_, #[],0,_,e,⟨rfl,rfl,rfl⟩,rfl,λe he=>by simp at he,by exact uI _,by decide,by rfl,TOk.fresh _⟩
theorem Tt{Q:mz->m8->Prop}(hh:A.handled=none)(hl:s.heap.IsList l items)(hi:qO items.toList ns)(hb:items.size+1<scanBound)(h:∀(h':oQ) (tk:Nat),KW prog w h' s.heap.objs.size (Vn ns items.size)->(∀b o,s.heap.get? b=Gc o->h'.get? b=Gc o)->Q .none {s with heap:=h',toks:=tk}):codeAny (model prog w) A (.call (.builtin "set.__init__") ⟨[.ref s.heap.objs.size,.ref l],[]⟩) (wants Q E) {s with heap:=s.heap.push (sO (!byT w))}:=by
 generalize hled:(!byT w)=led
 have me:(s.heap.push (sO led)).get? s.heap.objs.size=Gc (sO led):=nM _ rfl
 have ty:Shared.TypeIs {s with heap:=s.heap.push (sO led)} (.ref s.heap.objs.size) "set":=⟨_,me,rfl⟩
 have hl1:=hl.push (sO led)
 obtain⟨o,ho,hc,n,hd⟩:=id hl
 have lt:=nS ho
 refine codeAny_call_builtin sE.init.plain F.entry_set_init (check_set_init_1 ty ?_)
 have ho1:=my (sO led) ho
 obtain⟨c0,d0,q0,l0⟩:=o
 cases hc;cases hd
 have n1:=F.sub_list_set
 have n2:=F.sub_list_frozenset
 have n3:(rZ "list" ==rZ "dict")=false:=by decide
 unfold qK.«set.__init__» noKeywords zo
 generalize pi:pyIter=it
 wp_walk
 subst pi
 refine qL hl1 (Wp (xH ?_))
 have sz:(s.heap.push (sO led)).objs.size=s.heap.objs.size+1:=oJ ..
 have ap:l≠(s.heap.push (sO led)).objs.size:=by rw[sz];exact nV (pX lt)
 refine OV ((Walks.list (by simp[hh]) _ l ap items).toS) s.heap.objs.size (by rw[sz,nK,oK,wG];exact⟨nV (qS _),sg lt⟩) (λi=>ns.getD i 0)
  (λi v hv=>hi.int_at i v (by rw[qv];exact hv)) hb (items.size-0) 0 _ (by lia) (pY _) ⟨⟨_,nM _ rfl,rfl,rfl⟩,hl1.push _⟩ ?_ ?_
 .exact KW.fresh (by rw[hled];exact my _ me)
 .rintro ⟨h',g',d',tk',os'⟩ hm hS
  have e1:g'=s.gens:=hm.gens
  have e2:d'=s.drawn:=hm.drawn
  have e3:os'=s.os:=hm.os
  subst e1 e2 e3
  refine m9 (show wpAny _ _ (ret pz) _ _ _ from m9 (h h' tk' hS λb u e=>?_))
  have lb:=nS e
  exact hm.heap b u (by rw[sz,nK,oK,wG];exact⟨nV lb,nV (pX lb)⟩) (my _ (my _ e))
theorem Tx{Q:mz->m8->Prop}(hh:A.handled=none)(hl:s.heap.IsList l items)(hi:qO items.toList ns)(hb:items.size+1<scanBound)(h:∀(h':oQ) (tk:Nat),KW prog w h' s.heap.objs.size (Vn ns items.size)->(∀b o,s.heap.get? b=Gc o->h'.get? b=Gc o)->Q (.ref s.heap.objs.size) {s with heap:=h',toks:=tk}):wpAny (model prog w) A (call (.type "set") [.ref l]) Q E s:=by
 obtain⟨c,tl,mr⟩:=sE.mro
 have z1:=sE.made
 have z2:=sE.sub
 have z3:=sE.notType
 have z4:=sE.canCreate
 have z5:=F.typeCall_set_1 (.ref l)
 refine wpAny_call (zk (show wpAny _ _ (callAny (.type "set") _) _ _ _ from m9 ⟨yA _ (by decide+kernel),qb F.entry_type_call ?_⟩))
 rw[Around.under_plain (weight_type_call_type "set" [.ref l] []) rfl]
 repeat (any_goals (first|assumption|wp_step))
 refine uo (WD (.ref l) (E:=E) (Q₁:=λu s1=>u=.ref s.heap.objs.size/\s1={s with heap:=s.heap.push (sO (!byT w))}) ⟨rfl,rfl⟩) ?_
 rintro (e|(_|u|_)) s1 hr
 all_goals first|exact hr|exact hr.elim|skip
 obtain⟨rfl,rfl⟩:=hr
 have me:(s.heap.push (sO (!byT w))).get? s.heap.objs.size=Gc (sO (!byT w)):=nM _ rfl
 have ty:Shared.TypeIs {s with heap:=s.heap.push (sO (!byT w))} (.ref s.heap.objs.size) "set":=⟨_,me,rfl⟩
 have y1:=sE.init.lookup
 have y2:=sE.init.bind (.ref s.heap.objs.size)
 repeat (any_goals (first|assumption|wp_step))
 refine uo (Tt (E:=E) (Q:=λr s2=>r=.none/\∃h' tk,s2={s with heap:=h',toks:=tk}/\KW prog w h' s.heap.objs.size (Vn ns items.size)/\∀b o,s.heap.get? b=Gc o->h'.get? b=Gc o) (by simp[hh]) hl hi hb λh' tk hS hk=>⟨rfl,h',tk,rfl,hS,hk⟩) ?_
 rintro (e|(_|u|_)) s2 hr
 all_goals first|exact hr|exact hr.elim|skip
 obtain⟨rfl,h',tk,rfl,hS,hk⟩:=hr
 repeat (any_goals (first|assumption|wp_step))
 exact h _ _ hS hk
end
end Mi
end
noncomputable section
namespace Mi
open PySem PySem.Spec L2 PyProof.Rows
section
variable{prog:nq}{w:oN}{A:oU}{E:mz->m8->Prop}{s:m8}{a:nH}{es:oH (Int×mz)}{ep:Nat}{t:SetTable}
def KZ(h:oQ)(a:nH)(es:oH (Int×mz))(ep:Nat)(t:SetTable):Prop:=∃o,h.get? a=Gc o/\o.ExactSet/\o.data=.set es ep t/\t.fits es.size=true
theorem KZ.at{h h':oQ}(x:KZ h a es ep t)(k:∀o,h.get? a=Gc o->h'.get? a=Gc o):KZ h' a es ep t:=let⟨o,ho,r⟩:=x;⟨o,k o ho,r⟩
theorem JZ{Q:oO->m8->Prop}(h:Q (byT w) s):wpAny (model prog w) A setsByText Q E s:=by
 unfold setsByText
 exact Wp (vx (m9 h))
theorem UM{slot i:Nat}{Q:nB (mz×Nat)->m8->Prop}(hb:byT w=true)(x:KZ s.heap a es ep t)(h:Q (((pickOrder (w.params.setOrder a ep) es)[i]?).map λe=>(e.2,slot)) s):wpAny (model prog w) A (setNext a slot i ep) Q E s:=by
 obtain⟨o,ho,hex,hd,hf⟩:=x
 unfold setNext
 refine Wp (rE ho hd hf (Wp (JZ ?_)))
 rw[hb]
 simp only[uW,uJ,qR,sZ]
 unfold setWalk
 refine Wp (Wp (rE ho hd hf (Wp (JZ ?_))))
 rw[hb]
 exact Wp (vx (m9 (m9 h)))
theorem R1{slot i:Nat}{Q:nB (mz×Nat)->m8->Prop}(hb:byT w=false)(x:KZ s.heap a es ep t)(hp:(!t.plain && decide (es.size>1))=false)(hl:t.led=true)(h:Q (match es[pG t.place slot]?,t.place[pG t.place slot]? with|some (_,x),Gc j=>Gc (x,j+1)|_,_=>none) s):wpAny (model prog w) A (setNext a slot i ep) Q E s:=by
 obtain⟨o,ho,hex,hd,hf⟩:=x
 unfold setNext
 refine Wp (rE ho hd hf (Wp (JZ ?_)))
 rw[hb]
 simp only[qR,sZ]
 rw[oE (show¬_ from by show¬((!t.plain && decide (es.size>1))=true);rw[hp];simp)]
 refine Wp ?_
 show wpAny _ _ (if(!t.led && !es.isEmpty)=true then unsupported _ else pure ()) _ _ _
 rw[hl]
 exact m9 (m9 h)
theorem BE:Slot "set_iterator" "__next__" "set_iterator.__next__":=
 .of (owner:="set_iterator") (n:="__next__") (by rw[zp,wm];kernel_rfl) (by decide+kernel) (by decide+kernel) (by decide+kernel)
  (by first|exact .inl (by decide+kernel)|exact .inr (by decide+kernel)) (by rw[xK];kernel_rfl)
theorem Ek:entryFor table "set_iterator.__next__"=Gc qK.«set_iterator.__next__» :=entryFor_of_tree (by kernel_rfl)
theorem Qd : Manifest.owners.lookup (String.ofList ['r', 'o', 't', 'a', 'r', 'e', 't', 'i', '_', 't', 'e', 's'].reverse) = Gc Manifest.sig_set_iterator := by kernel_rfl
theorem Fh(a:mz):argsOk "set_iterator.__next__" ⟨[a],[]⟩:=by
 unfold argsOk; rw [signature?_of (id := "set_iterator.__next__") (n := ['_', '_', 't', 'x', 'e', 'n', '_', '_']) (o := ['r', 'o', 't', 'a', 'r', 'e', 't', 'i', '_', 't', 'e', 's']) (by kernel_rfl) Qd]; kernel_rfl
theorem J6:Slot "set_iterator" "__iter__" "set_iterator.__iter__":=
 .of (owner:="set_iterator") (n:="__iter__") (by rw[zp,wm];kernel_rfl) (by decide+kernel) (by decide+kernel) (by decide+kernel)
  (by first|exact .inl (by decide+kernel)|exact .inr (by decide+kernel)) (by rw[xK];kernel_rfl)
theorem Od(a:mz):argsOk "set_iterator.__iter__" ⟨[a],[]⟩:=by
 unfold argsOk; rw [signature?_of (id := "set_iterator.__iter__") (n := ['_', '_', 'r', 'e', 't', 'i', '_', '_']) (o := ['r', 'o', 't', 'a', 'r', 'e', 't', 'i', '_', 't', 'e', 's']) (by kernel_rfl) Qd]; kernel_rfl
theorem N0:entryFor table "set_iterator.__iter__"=Gc qK.«dict_keyiterator.__iter__» :=
 entryFor_alias (id':="dict_keyiterator.__iter__") (by kernel_rfl) (by first|rfl|decide+kernel|(unfold String.splitOn;simp+decide [String.splitOnAux])) (by decide+kernel) (by kernel_rfl)
theorem L5:entryFor table "set.__iter__"=Gc qK.«frozenset.__iter__» :=
 entryFor_alias (id':="frozenset.__iter__") (by kernel_rfl) rfl (by decide+kernel) (by kernel_rfl)
def SIt(h:oQ)(I a:nH)(f:mz)(i n ep:Nat):Prop:=∃o,h.get? I=Gc o/\o.cls=.type "set_iterator" /\o.data=.fields #[f,.int i 0,.ref a,.int n 0,.int ep 0]
variable{I:nH}{i n:Nat}{f:mz}
theorem SIt.typeIs(x:SIt s.heap I a f i n ep):s.TypeIs (.ref I) "set_iterator":=let⟨o,ho,c,_⟩:=x;⟨o,ho,c⟩
theorem SIt.at{h h':oQ}(x:SIt h I a f i n ep)(k:∀o,h.get? I=Gc o->h'.get? I=Gc o):SIt h' I a f i n ep:=let⟨o,ho,r⟩:=x;⟨o,k o ho,r⟩
theorem Uv{Q:mz->m8->Prop}(x:SIt s.heap I a f i n ep)(h:Q (.ref I) s):wpAny (model prog w) A (pyIter (.ref I)) Q E s:=by
 refine yo x.typeIs J6 (oW J6 x.typeIs N0 ?_ (Od _))
 show wpAny _ _ (ret (.ref I)) _ _ s
 exact m9 ⟨_,rfl,"set_iterator",_,x.typeIs,BE.lookup,h⟩
theorem Rx{k nx:Nat}{v:mz}{Q:nB mz->m8->Prop}(hit:SIt s.heap I a (.int k 0) i es.size ep)(hs:KZ s.heap a es ep t)(hN:∀{A:oU} {Q:nB (mz×Nat)->m8->Prop} {E:mz->m8->Prop},Q (Gc (v,nx)) s->wpAny (model prog w) A (setNext a k i ep) Q E s)(hQ:∀h',SIt h' I a (.int nx 0) (i+1) es.size ep->qf I s.heap h'->Q (Gc v) {s with heap:=h'}):wpAny (model prog w) A (pyNext (.ref I)) Q E s:=by
 obtain⟨o,ho,hc,hd⟩:=id hit
 obtain⟨os,hos,hex,hds,hf⟩:=id hs
 unfold pyNext
 refine Wp (tQ (oo (name:=pR "__next__") hit.typeIs BE
  (oW BE hit.typeIs Ek ?_ (Fh _))))
 unfold qK.«set_iterator.__next__»
 refine Wp (m:=slotArgs "__next__" 0 _) (m9 (Wp (vG ho hd ?_)))
 show wpAny _ _ (setEntries a >>= _) _ _ _
 refine Wp (rR hos hds hf ?_)
 rw[oE (by simp)]
 show wpAny _ _ (setNext a k i ep >>= _) _ _ _
 refine Wp (hN ?_)
 show wpAny _ _ (setField (.ref I) 0 (rawInt nx) >>= λ_=>setField (.ref I) 1 (rawInt (i+1)) >>= λ_=>ret v) _ _ _
 refine Wp (qp ho hd (by simp) ?_)
 have ho1:=og (xl (·.setIfInBounds 0 (rawInt nx))) ho (qu (p9 hd _))
 have hd1:=p9 hd (·.setIfInBounds 0 (rawInt nx))
 refine Wp (qp ho1 hd1 (by simp) (m9 ⟨v,rfl,m9 (hQ _ ?_ ((pT ..).trans (pT ..)))⟩))
 exact⟨_,og _ ho1 (qu (p9 hd1 _)),(uB ..).trans ((uB ..).trans hc),by
  rw[p9 hd1];simp[rawInt]⟩
end
end Mi
end
noncomputable section
namespace Mi
open PySem PySem.Spec L2 PyProof.Rows
section
variable{prog:nq}{w:oN}{A:oU}{E:mz->m8->Prop}{s:m8}{a:nH}{es:oH (Int×mz)}{ep:Nat}{t:SetTable}{I:nH}{i n:Nat}{f:mz}
theorem Ss{k:Nat}{Q:nB mz->m8->Prop}(hh:A.handled=none)(hit:SIt s.heap I a (.int k 0) i es.size ep)(hs:KZ s.heap a es ep t)(hN:∀{A:oU} {Q:nB (mz×Nat)->m8->Prop} {E:mz->m8->Prop},Q none s->wpAny (model prog w) A (setNext a k i ep) Q E s)(hQ:∀h',tq I s.heap h'->Q none {s with heap:=h'}):wpAny (model prog w) A (pyNext (.ref I)) Q E s:=by
 obtain⟨o,ho,hc,hd⟩:=id hit
 obtain⟨os,hos,hex,hds,hf⟩:=id hs
 unfold pyNext
 refine Wp (tQ (oo (name:=pR "__next__") hit.typeIs BE
  (oW BE hit.typeIs Ek ?_ (Fh _))))
 unfold qK.«set_iterator.__next__»
 refine Wp (m:=slotArgs "__next__" 0 _) (m9 (Wp (vG ho hd ?_)))
 show wpAny _ _ (setEntries a >>= _) _ _ _
 refine Wp (rR hos hds hf ?_)
 rw[oE (by simp)]
 show wpAny _ _ (setNext a k i ep >>= _) _ _ _
 refine Wp (hN ?_)
 show wpAny _ _ (setField (.ref I) 2 .none >>= λ_=>newExc (.type "StopIteration") [] >>= λe=>raiseNew e) _ _ _
 refine Wp (qp ho hd (by simp) ?_)
 refine Wp ?_
 simp only[newExc,newTuple]
 refine Wp (pE ?_ (by size_fits))
 refine Wp (m:=firstArgMember _ _) (zY (a:=pz) (by first|rfl|(simp only[firstArgMember];rfl)) ?_)
 refine pE ?_ (by size_fits)
 simp only[raiseNew]
 refine Wp (wpAny_handled ?_)
 rw[show A.in1.handled=none from hh]
 refine Wp (m9 (wpAny_throw ?_))
 refine Wp (sv (T:="StopIteration") (b:=true) ⟨_,nM _ rfl,rfl⟩ xD ?_)
 exact m9 (hQ _ (((pT ..).extBut.push _).push _))
theorem Ru{T:nH}{pl:oH mz}{k:Nat}{e:Int×mz}{Q:nB mz->m8->Prop}(hit:SIt s.heap I a (.ref T) i es.size ep)(hs:KZ s.heap a es ep t)(hT:s.heap.IsTuple T pl)(hp:pl[i]?=Gc (.int k 0))(he:es[k]?=Gc e)(hQ:∀h',SIt h' I a (.ref T) (i+1) es.size ep->qf I s.heap h'->Q (Gc e.2) {s with heap:=h'}):wpAny (model prog w) A (pyNext (.ref I)) Q E s:=by
 obtain⟨o,ho,hc,hd⟩:=id hit
 obtain⟨os,hos,hex,hds,hf⟩:=id hs
 obtain⟨ot,hot,_,nt,hdt⟩:=id hT
 unfold pyNext
 refine Wp (tQ (oo (name:=pR "__next__") hit.typeIs BE
  (oW BE hit.typeIs Ek ?_ (Fh _))))
 unfold qK.«set_iterator.__next__»
 refine Wp (m:=slotArgs "__next__" 0 _) (m9 (Wp (vG ho hd ?_)))
 show wpAny _ _ (setEntries a >>= _) _ _ _
 refine Wp (rR hos hds hf ?_)
 rw[oE (by simp)]
 show wpAny _ _ (seqItems? (.ref T) >>= _) _ _ _
 refine Wp (qW hot hdt ?_)
 simp only[sS,hp]
 refine Wp (m:=setNextDrawn a k ep) ?_
 unfold setNextDrawn
 refine Wp (rE hos hds hf ?_)
 simp only[uJ,qR,sZ,he]
 refine m9 ?_
 show wpAny _ _ (setField (.ref I) 1 (rawInt (i+1)) >>= λ_=>ret e.2) _ _ _
 refine Wp (qp ho hd (by simp) (m9 ⟨e.2,rfl,m9 (hQ _ ?_ (pT ..))⟩))
 exact⟨_,og _ ho (qu (p9 hd _)),(uB ..).trans hc,by
  rw[p9 hd];simp[rawInt]⟩
theorem Ub{T:nH}{pl:oH mz}{Q:nB mz->m8->Prop}(hh:A.handled=none)(hit:SIt s.heap I a (.ref T) i es.size ep)(hs:KZ s.heap a es ep t)(hT:s.heap.IsTuple T pl)(hp:pl[i]?=none)(hQ:∀h',tq I s.heap h'->Q none {s with heap:=h'}):wpAny (model prog w) A (pyNext (.ref I)) Q E s:=by
 obtain⟨o,ho,hc,hd⟩:=id hit
 obtain⟨os,hos,hex,hds,hf⟩:=id hs
 obtain⟨ot,hot,_,nt,hdt⟩:=id hT
 unfold pyNext
 refine Wp (tQ (oo (name:=pR "__next__") hit.typeIs BE
  (oW BE hit.typeIs Ek ?_ (Fh _))))
 unfold qK.«set_iterator.__next__»
 refine Wp (m:=slotArgs "__next__" 0 _) (m9 (Wp (vG ho hd ?_)))
 show wpAny _ _ (setEntries a >>= _) _ _ _
 refine Wp (rR hos hds hf ?_)
 rw[oE (by simp)]
 show wpAny _ _ (seqItems? (.ref T) >>= _) _ _ _
 refine Wp (qW hot hdt ?_)
 simp only[sS,hp]
 show wpAny _ _ (setField (.ref I) 0 (rawInt 0) >>= λ_=>setField (.ref I) 2 .none >>= λ_=>newExc (.type "StopIteration") [] >>= λe=>raiseNew e) _ _ _
 refine Wp (qp ho hd (by simp) ?_)
 have ho1:=og (xl (·.setIfInBounds 0 (rawInt 0))) ho (qu (p9 hd _))
 have hd1:=p9 hd (·.setIfInBounds 0 (rawInt 0))
 refine Wp (qp ho1 hd1 (by simp) ?_)
 refine Wp ?_
 simp only[newExc,newTuple]
 refine Wp (pE ?_ (by size_fits))
 refine Wp (m:=firstArgMember _ _) (zY (a:=pz) (by first|rfl|(simp only[firstArgMember];rfl)) ?_)
 refine pE ?_ (by size_fits)
 simp only[raiseNew]
 refine Wp (wpAny_handled ?_)
 rw[show A.in1.handled=none from hh]
 refine Wp (m9 (wpAny_throw ?_))
 refine Wp (sv (T:="StopIteration") (b:=true) ⟨_,nM _ rfl,rfl⟩ xD ?_)
 exact m9 (hQ _ ((((pT ..).trans (pT ..)).extBut.push _).push _))
theorem YJ(hh:A.handled=none)(I a:nH)(hne:a≠I)(es:oH (Int×mz))(ep:Nat)(t:SetTable)(g:Nat->Nat)(items:oH mz)(hN:∀(s:m8) (i:Nat) {A:oU} {Q:nB (mz×Nat)->m8->Prop} {E:mz->m8->Prop},KZ s.heap a es ep t->i<=items.size->Q (items[i]?.map λx=>(x,g (i+1))) s->wpAny (model prog w) A (setNext a (g i) i ep) Q E s):Walks prog w A I [I,a] [I] items.size (λi v=>items[i]?=Gc v) (λi h=>SIt h I a (.int (g i) 0) i es.size ep/\KZ h a es ep t) where
 sub:=λb hb=>by simp at hb;simp[hb]
 frame:=λ_ _ _ st hk=>⟨st.1.at λo e=>hk I (by simp) o e,st.2.at λo e=>hk a (by simp) o e⟩
 item:=λi s Q E hi st hQ=>by
  have e:items[i]?=Gc items[i]:=by simp[hi]
  refine Rx st.1 st.2 (v:=items[i]) (nx:=g (i+1)) (λq=>hN s i st.2 (qJ hi) (by rw[e];exact q)) λh' hit' hs'=>?_
  exact hQ _ h' s.toks (by simp[hi]) ⟨hit',st.2.at λo e=>hs'.extBut a o hne e⟩ λb o hb e=>hs'.extBut b o (λh=>hb (by simp[h])) e
 done:=λs Q E st hQ=>Ss hh st.1 st.2 (λq=>hN s items.size st.2 (nG _) (by simpa using q)) λh' he'=>hQ h' s.toks λb o hb e=>he' b o (λh=>hb (by simp[h])) e
 self:=λ_ _ _ _ st hQ=>Uv st.1 hQ
theorem bS(hh:A.handled=none)(I a T:nH)(hne:a≠I)(hnT:T≠I)(es:oH (Int×mz))(ep:Nat)(t:SetTable)(ks:List Nat)(items:oH mz)(hz:items.size=ks.length)(hk:∀(i k:Nat),ks[i]?=Gc k->∃e:Int×mz,es[k]?=Gc e/\items[i]?=Gc e.2):Walks prog w A I [I,a,T] [I] items.size (λi v=>items[i]?=Gc v) (λi h=>SIt h I a (.ref T) i es.size ep/\KZ h a es ep t/\h.IsTuple T (ks.map λ(i:Nat)=>rawInt i).toArray) where
 sub:=λb hb=>by simp at hb;simp[hb]
 frame:=λ_ _ _ st hk=>⟨st.1.at λo e=>hk I (by simp) o e,st.2.1.at λo e=>hk a (by simp) o e,st.2.2.at λo e=>hk T (by simp) o e⟩
 item:=λi s Q E hi st hQ=>by
  have hi':i<ks.length:=by omega
  obtain⟨e,he,hv⟩:=hk i ks[i] (by simp[hi'])
  refine Ru st.1 st.2.1 st.2.2 (k:=ks[i]) (by simp[hi',rawInt]) he λh' hit' hs'=>?_
  exact hQ _ h' s.toks hv ⟨hit',st.2.1.at λo e=>hs'.extBut a o hne e,st.2.2.at λo e=>hs'.extBut T o hnT e⟩ λb o hb e=>hs'.extBut b o (λh=>hb (by simp[h])) e
 done:=λs Q E st hQ=>Ub hh st.1 st.2.1 st.2.2 (by simp[hz]) λh' he'=>hQ h' s.toks λb o hb e=>he' b o (λh=>hb (by simp[h])) e
 self:=λ_ _ _ _ st hQ=>Uv st.1 hQ
end
end Mi
end
noncomputable section
namespace Mi
open PySem PySem.Spec L2 PyProof.Rows
theorem Js{α:Type}:∀(l:List α) (i:Nat) (h:i<l.length),(l[i]::l.eraseIdx i).Perm l
 |x::l,0,h=>uI _
 |x::l,i+1,h=>(List.Perm.swap _ _ _).trans (List.Perm.cons _ (Js l i (by simpa using h)))
theorem U7{α:Type}(nx:Nat->Nat):∀(fuel k:Nat) (left:List α) (out:oH α),left.length<=fuel->(yp nx fuel k left out).toList.Perm (out.toList++left)
 |0,k,left,out,h=>by
  cases left with
  |nil=>simp[yp]
  |cons x l=>simp at h
 |fuel+1,k,left,out,h=>by
  unfold yp
  cases e:left[nx k % left.length]? with
  |none=>
   cases left with
   |nil=>simp
   |cons x l=>
    rw[tF]at e
    exact absurd (yB (nx k) (Nat.succ_pos l.length)) (by simpa using e)
  |some x=>
   obtain⟨lt,rfl⟩:=nP.mp e
   refine(U7 nx fuel (k+1) _ _ (by rw[xM];simp[lt];omega)).trans ?_
   rw[yn,sU]
   exact List.Perm.append_left _ (Js _ _ lt)
theorem Ti{α:Type}(nx:Nat->Nat)(xs:oH α):(pickOrder nx xs).toList.Perm xs.toList:=by
 have:=U7 nx xs.size 0 xs.toList #[] (by simp)
 unfold pickOrder
 simpa using this
section
variable{prog:nq}{w:oN}{A:oU}{E:mz->m8->Prop}{s:m8}{a:nH}
theorem wp_choose{M:Model}{src:Source}{n:Nat}{Q:Nat->m8->Prop}(hn:n≠0)(h:∀i d,i<n->Q i {s with drawn:=d}):wpAny M A (choose src n) Q E s:=
 λ_ _ _=>⟨hn,h _ _ (yB _ (sF hn))⟩
theorem O0{α:Type}:∀(n:Nat) (xs:List α) (s:m8) {Q:List α->m8->Prop},xs.length<=n->(∀ys d,ys.Perm xs->Q ys {s with drawn:=d})->wpAny (model prog w) A (drawOrder n xs) Q E s
 |0,xs,s,Q,hl,h=>by
  cases xs with
  |nil=>exact m9 (h [] s.drawn (uI _))
  |cons x l=>simp at hl
 |n+1,[],s,Q,hl,h=>m9 (h [] s.drawn (uI _))
 |n+1,x::l,s,Q,hl,h=>by
  unfold drawOrder
  refine Wp (wp_choose (by simp) λi d hi=>?_)
  have e:(x::l)[i]?=Gc (x::l)[i]:=by simp[hi]
  rw[e]
  refine Wp (O0 n _ _ (by rw[xM,nh hi];simp at hl ⊢; omega) λys d' p=>m9 (h _ d' ?_))
  exact(List.Perm.cons _ p).trans (Js _ _ hi)
theorem Ng{es:List (Int×mz)}(h:wI (intKind prog w) es):qO (es.map (·.2)) (vls es):=by
 induction es with
 |nil=>exact .nil
 |cons e l ih=>
  obtain⟨⟨k,q,_⟩,_⟩:=h.head
  obtain⟨t,hv⟩:=vN q
  obtain⟨x,v⟩:=e
  dsimp only at hv
  subst hv
  exact .cons _ _ (ih h.tail)
theorem T7{L:List Int}{Q:mz->m8->Prop}(hS:KW prog w s.heap a L)(h:∀(I:nH) (fp:List nH) (items:oH mz) (St:Nat->oQ->Prop) (ms:List Int) (h':oQ) (d':Drawn),(∀A':oU,A'.handled=none->Walks prog w A' I fp [I] items.size (λi v=>items[i]?=Gc v) St)->St 0 h'->(∀b∈fp,b<h'.objs.size)->(∀b∈fp,b=a\/s.heap.objs.size<=b)->s.heap.objs.size<=I->qO items.toList ms->ms.Perm L->(∀b o,s.heap.get? b=Gc o->h'.get? b=Gc o)->Q (.ref I) {s with heap:=h',drawn:=d'}):wpAny (model prog w) A (pyIter (.ref a)) Q E s:=by
 obtain⟨o,es,ep,t,ho,hex,hd,hel,hp,hb,hf,ht⟩:=hS
 have ty:s.TypeIs (.ref a) "set":=⟨o,ho,hex.1⟩
 have la:=nS ho
 have ps:t.place.size=es.size:=by simp only[SetTable.fits,nW,xw]at hf;exact hf.1
 refine yo ty zq (oW zq ty L5 ?_ (F.args_set_iter_1 _))
 unfold qK.«frozenset.__iter__»
 refine Wp (m:=Builtin.Frozenset.slot0 "__iter__" _) (m9 ?_)
 refine Wp (m:=Builtin.Frozenset.sizeOf a) (Wp (rR ho hd hf (m9 ?_)))
 refine Wp (m:=setDrawn a) ?_
 unfold setDrawn
 refine Wp (rE ho hd hf (Wp (JZ (m9 ?_))))
 show wpAny _ _ (if(!byT w && (!t.plain && decide (es.size>1)))=true then _ else _) _ _ _
 cases hbt:byT w with
 |true=>
  rw[oE (by simp)]
  refine Wp (m9 (Wp (vU ho hd hf (Wp (pE ?_)))))
  refine m9 ⟨_,rfl,"set_iterator",_,⟨_,nM _ rfl,rfl⟩,BE.lookup,?_⟩
  have pk:=Ti (w.params.setOrder a ep) es
  refine h _ [s.heap.objs.size,a] ((pickOrder (w.params.setOrder a ep) es).map (·.2)) _ (vls (pickOrder (w.params.setOrder a ep) es).toList) _ _
   (λA' hh=>YJ hh _ a (nV la) es ep t (λ_=>0) _ λs i A Q E x hi q=>UM hbt x (by simpa[Function.comp_def]using q))
   ⟨⟨_,nM _ rfl,rfl,rfl⟩,o,my _ ho,hex,hd,hf⟩ ?_ (λb hb=>by simp at hb;rcases hb with rfl|rfl<;>simp) (nG _) ?_ ((pk.map iOf).trans hp) (λb o e=>my _ e)
  .intro b hb
   rw[oJ]
   simp at hb
   rcases hb with rfl|rfl
   .exact qS _
   .exact pX la
  .rw[vy]
   exact Ng (hel.perm pk)
 |false=>
  rw[hbt]at ht
  cases hpl:(!t.plain && decide (es.size>1))with
  |false=>
   rw[oE (by simp)]
   refine Wp (m9 (Wp (vU ho hd hf (Wp (pE ?_)))))
   refine m9 ⟨_,rfl,"set_iterator",_,⟨_,nM _ rfl,rfl⟩,BE.lookup,?_⟩
   refine h _ [s.heap.objs.size,a] (es.map (·.2)) _ (vls es.toList) _ _
    (λA' hh=>YJ hh _ a (nV la) es ep t (slotAt t.place) _ λs i A Q E x hi q=>R1 hbt x hpl (by rw[ht.led];rfl) ?_)
    ⟨⟨_,nM _ rfl,rfl,rfl⟩,o,my _ ho,hex,hd,hf⟩ ?_ (λb hb=>by simp at hb;rcases hb with rfl|rfl<;>simp) (nG _) ?_ hp (λb o e=>my _ e)
   .have hi':i<=es.size:=by simpa using hi
    rw[RT ht.ris (by omega)]
    by_cases z:i<es.size
    .have z':i<t.place.size:=by omega
     have e1:es[i]?=Gc es[i]:=by simp[z]
     have e2:t.place[i]?=Gc t.place[i]:=by simp[z']
     rw[yC,e1]at q
     have e3:slotAt t.place (i+1)=t.place[i]+1:=by simp[slotAt,tV,z']
     rw[e1,e2]
     simp only[zt,e3]at q
     exact q
    .have e1:es[i]?=none:=by simp;omega
     rw[yC,e1]at q
     rw[e1]
     exact q
   .intro b hb
    rw[oJ]
    simp at hb
    rcases hb with rfl|rfl
    .exact qS _
    .exact pX la
   .rw[vy]
    exact Ng hel
  |true=>
   rw[nh (by simp)]
   refine Wp (O0 _ _ _ (Nat.le_of_eq vV) λks d pks=>Wp (xC ?_ ?_))
   .refine Wp (vU (my _ ho) hd hf (Wp (pE ?_)))
    refine m9 ⟨_,rfl,"set_iterator",_,⟨_,nM _ rfl,rfl⟩,BE.lookup,?_⟩
    have kl:ks.length=es.size:=by have:=pks.length_eq;simpa using this
    have al:(oF es.size).map (λk=>es.getD k (0,.none))=es.toList:=by
     apply rX
     .simp
     .intro i h1 h2
      simp at h1 h2
      simp[tV,h2]
    have pe:(ks.map (λk=>es.getD k (0,.none))).Perm es.toList:=by rw[<-al];exact pks.map _
    refine h _ [(s.heap.push _).objs.size,a,s.heap.objs.size] ((ks.map (λk=>es.getD k (0,.none))).map (·.2)).toArray _ (vls (ks.map (λk=>es.getD k (0,.none)))) _ _
     (λA' hh=>bS hh _ a s.heap.objs.size (by rw[oJ];exact nV (pX la)) (by rw[oJ];exact nV (qS _)) es ep t ks _ (by simp) λi k e=>?_)
     ⟨⟨_,nM _ rfl,rfl,rfl⟩,⟨o,my _ (my _ ho),hex,hd,hf⟩,⟨_,my _ (nM _ rfl),rfl,_,rfl⟩⟩ ?_ (λb hb=>by rw[oJ]at hb;simp at hb;rcases hb with rfl|rfl|rfl<;>simp) (by rw[oJ];exact rC _) ?_ ((pe.map iOf).trans hp) (λb o e=>my _ (my _ e))
    .have km:k<es.size:=by
      have:k∈oF es.size:=pks.mem_iff.mp (nZ e)
      simpa using this
     exact⟨es[k],by simp[km],by simp[e,tV,km]⟩
    .intro b hb
     rw[oJ,oJ]
     rw[oJ]at hb
     simp at hb
     rcases hb with rfl|rfl|rfl
     .exact qS _
     .exact pX (pX la)
     .exact pX (qS _)
    .exact Ng (hel.perm pe)
   .rw[oG,pks.length_eq,vV];exact uH hb
end
end Mi
end
noncomputable section
namespace Mi
open PySem PySem.Spec L2 PyProof.Rows
section
variable{prog:nq}{w:oN}{A:oU}{E:mz->m8->Prop}{s:m8}{a:nH}{L:List Int}
theorem KW.typeIs(x:KW prog w s.heap a L):s.TypeIs (.ref a) "set":=let⟨o,_,_,_,ho,e,_⟩:=x;⟨o,ho,e.1⟩
theorem Xw{items acc:oH mz}(h:ItemsOf (λi v=>items[i]?=Gc v) acc items.size):acc=items:=by
 apply Array.ext
 .exact h.1
 .intro i h1 h2
  have:=h.2 i acc[i] (by simp)
  simpa[h2]using this.symm
theorem WH{Q:oO->m8->Prop}(x:s.TypeIs (.ref a) "set")(h:Q false s):wpAny (model prog w) A (qg (.ref a)) Q E s:=by
 unfold qg
 refine Wp (wW x F.slot_set_len.lookup ?_)
 generalize hid:("set.__len__":qj)=id0
 wp_delta
 rw[show splitId id0=Gc ("set","__len__")from by subst hid;decide+kernel]
 subst hid
 refine Wp (sv (b:=true) x sub_set_self ?_)
 rw[oE (by decide)]
 dsimp only
 rw[nh (by decide+kernel)]
 refine Wp (rh (T:="set") x ?_)
 exact m9 h
theorem Ot{Q:List mz->m8->Prop}(hh:A.handled=none)(hS:KW prog w s.heap a L)(h:∀(vs:List mz) (ms:List Int) (h':oQ) (d':Drawn) (tk:Nat),qO vs ms->ms.Perm L->(∀b o,s.heap.get? b=Gc o->h'.get? b=Gc o)->s.heap.objs.size<=h'.objs.size->Q vs {s with heap:=h',drawn:=d',toks:=tk}):wpAny (model prog w) A (collect (.ref a)) Q E s:=by
 have lb:L.length<scanBound:=by
  obtain⟨o,es,ep,t,ho,hex,hd,hel,hp,hb,hf,ht⟩:=hS
  have:=hp.length_eq
  simp at this
  lia
 unfold collect
 refine Wp (xH (qb F.entry_proto_collect ?_))
 rw[rF F.plain_proto_collect _]
 show wpAny _ A.in1 (newList [] >>= λl=>again (.builtin "list.__iadd__" ⟨[l,.ref a],[]⟩)) _ _ s
 refine Wp (tR ?_)
 refine m9 ⟨uY yq _,qb F.entry_list_iadd ?_⟩
 rw[rF yq _]
 show wpAny _ A.in1 (pA (.ref s.heap.objs.size) (.ref a) (.ref s.heap.objs.size)) _ _ {s with heap:=s.heap.push (seqObj "list" #[] 0)}
 have hS1:KW prog w (s.heap.push (seqObj "list" #[] 0)) a L:=hS.at λo e=>my _ e
 have la:a<s.heap.objs.size:=by obtain⟨o,es,ep,t,ho,r⟩:=hS;exact nS ho
 have me:(s.heap.push (seqObj "list" #[] 0)).get? s.heap.objs.size=Gc (seqObj "list" #[] 0):=nM _ rfl
 have h1:rO (.ref s.heap.objs.size) (.ref a)=false:=by simp[rO];exact sg la
 unfold pA
 refine Wp (rh (T:="set") (KW.typeIs (s:={s with heap:=s.heap.push (seqObj "list" #[] 0)}) hS1) ?_)
 rw[oE (by rw[h1];decide)]
 refine Wp (T7 (s:={s with heap:=s.heap.push (seqObj "list" #[] 0)}) hS1 λI fp items St ms h2 d2 W st fpl fpn Ip im pm kp=>?_)
 have hS2:KW prog w h2 a L:=hS1.at λo e=>kp a o e
 refine Wp (oq (WH (KW.typeIs (s:={s with heap:=h2,drawn:=d2}) hS2) ?_))
 rw[nh (by decide+kernel)]
 have Ip':s.heap.objs.size<I:=by rw[show _=s.heap.objs.size+1 from oJ ..]at Ip;exact Ip
 have hSf:s.heap.objs.size∉fp:=λz=>by
  rcases fpn _ z with e|e
  .exact sg la e
  .rw[show _=s.heap.objs.size+1 from oJ ..]at e;exact pL _ e
 have m2:=kp _ _ me
 have hn:items.size<=sizeLine:=by
  have e1:=im.length
  have e2:=pm.length_eq
  simp at e1
  have:=uH lb
  lia
 refine Wp (rG (Wp ?_))
 show wpAny _ A.in1 (updateSeq s.heap.objs.size (·.push .none) >>= λ_=>updateSeq s.heap.objs.size (·.pop)) _ _ _
 refine Wp (sP (s:={s with heap:=h2,drawn:=d2}) m2 rfl ?_)
 have m3:=og (oV (·.push pz)) m2 rfl
 refine sP m3 rfl ?_
 have m4:=og (oV (·.pop)) m3 rfl
 have oth:∀b o,b≠s.heap.objs.size->h2.get? b=Gc o->
   ((h2.update s.heap.objs.size (oV (·.push pz))).update s.heap.objs.size (oV (·.pop))).get? b=Gc o:=
  λb o hb e=>(pZ _ _ (pV hb)).trans ((pZ _ _ (pV hb)).trans e)
 have W1:=(W A.in1 (by simp[hh])).toS
 refine m9 ⟨uY xZ _,xN W1 hn _ hSf _ items.size 0 _ _ _ rfl (pY _) ?_ m4 (ItemsOf.nil _) λs' acc' c' hm hS' hacc=>?_⟩
 .exact(W A.in1 (by simp[hh])).frame 0 _ _ st λb hb o e=>oth b o (λz=>hSf (z▸hb)) e
 .have ea:=Xw hacc
  subst ea
  obtain⟨h',g',d',tk',os'⟩:=s'
  have e1:g'=s.gens:=hm.gens
  have e2:d'=d2:=hm.drawn
  have e3:os'=s.os:=hm.os
  subst e1 e2 e3
  refine Wp (AAA hS' (m9 (h _ ms _ _ _ im pm (λb o e=>?_) (qJ (nS hS')))))
  have lb:=nS e
  exact hm.heap b o (by simp;exact⟨nV lb,nV (r9 lb Ip')⟩) (oth b o (nV lb) (kp b o (my _ e)))
end
end Mi
end
noncomputable section
namespace Mi
open PySem PySem.Spec L2 PyProof.Rows
section
variable{prog:nq}{w:oN}{A:oU}{E:mz->m8->Prop}{s:m8}{a:nH}{L:List Int}
theorem P4{Q:mz->m8->Prop}(hh:A.handled=none)(hS:KW prog w s.heap a L)(h64:L.length<64)(h:∀(p:nH) (out:oH mz) (e:Nat) (ms:List Int) (h':oQ) (d':Drawn) (tk:Nat),s.heap.objs.size<=p->h'.get? p=Gc (seqObj "list" out e)->qO out.toList ms->ms.Perm L->ms.Pairwise (· <= ·)->(∀b o,s.heap.get? b=Gc o->h'.get? b=Gc o)->Q (.ref p) {s with heap:=h',drawn:=d',toks:=tk}):wpAny (model prog w) A (call (.builtin "sorted") [.ref a]) Q E s:=by
 refine tH zX yg yh (yi _) ?_
 unfold qK.«sorted»
 refine Wp (m:=checkCount "sorted" 1 1 _) (m9 (Wp (Ot (by simp[hh]) hS λvs ms h' d' tk im pm kp lz=>Wp (tR ?_ ?_))))
 .have at1:(h'.push (seqObj "list" vs.toArray 0)).get? h'.objs.size=Gc (seqObj "list" vs.toArray 0):=nM _ rfl
  have vl:vs.length<64:=by rw[im.length,pm.length_eq];exact h64
  show wpAny _ _ _ _ _ {s with heap:=h'.push (seqObj "list" vs.toArray 0),drawn:=d',toks:=tk}
  refine Wp (oq (oW xI ⟨_,at1,rfl⟩ wY (list_sort_tree at1 im vl λout ns' a1 a2 a3=>⟨_,rfl,m9 ⟨_,rfl,?_⟩⟩) (xJ _)))
  obtain⟨e,he⟩:=sortedHeap_at (out:=out) at1
  refine h _ out e ns' _ d' tk lz he a1 (a2.trans pm) a3 λb o q=>?_
  have lb:b<h'.objs.size:=nS (kp b o q)
  rw[sortedHeap_old (nV lb) (by rw[oJ];exact pX lb)]
  exact my _ (kp b o q)
 .have:vs.length<64:=by rw[im.length,pm.length_eq];exact h64
  exact nL (qJ this) (by decide)
end
theorem Wu{X:Cx}{pins:List (nH×Obj)}{σ:List (nB V)}{H:Hp}{s:m8}(I:Inv X pins σ H s)(d:Drawn):Inv X pins σ H {s with drawn:=d}:=
 I.step (g':=s.gens) (d':=d) (t':=s.toks) (ch:=[]) (λ_ z=>nomatch z) (λ_ _ _ _ _ e _=>e) (λb o _ _ _ e _=>⟨o.slots,e⟩) (λ_ _ _ _ n=>n) (λb o _ e=>⟨o,e⟩) (λ_ _ e=>e) (λ_ _ _ e=>e) (λb ps e=>⟨#[],by rw[e];simp⟩) (λ_ m=>m) I.hok I.bare
noncomputable def wSS:Op1:=λw=>(asL w).bind λds=>(Im ds).bind λns=>if ns.length<=1000/\(Vn ns ns.length).length<64 then Gc (.own ((GA (Vn ns ns.length)).map D.int))else none
theorem iQ{X:Cx}{a:oI}{ta:TA}{p p' pos pos':Pos}(hc:X.calm=true)(hgl:Gl X "sorted")(hml:X.mg "sorted"=none)(hg:Gl X "set")(hm:X.mg "set"=none)(ha:PA X [a] ta)(hs:nv [a] X.env=[(false,eval a X.env)]:=by rfl)(hs2:nv [zL (.Name "set" p) [a] [] pos] X.env=[(false,eval (.Call (.Name "set" p) [a] [] pos) X.env)]:=by rfl):PE X (.Call (.Name "sorted" p') [.Call (.Name "set" p) [a] [] pos] [] pos') (λσ H Q=>ta σ H λvs H1=>rN X.K (o1 wSS) vs H1 Q):=by
 intro pins s σ H Q I h
 refine qm (JW I hgl hml vW ?_ (by decide) (by decide))
 refine callWith_builtin1 ?_ hs2 rfl
 rw[hs2]
 show wpAny _ _ (spliced ((false,eval (.Call (.Name "set" p) [a] [] pos) X.env)::backTo pos' [])) _ _ s
 refine qy ?_
 refine qm (JW I hg hm PyProof.Rows.boot_set ?_ (by decide) (by decide))
 refine qI (thn (ha pos pins s σ H _ I h) λus s1 ⟨vs,H1,I1,r1,q1⟩=>?_) hs rfl
 obtain⟨M,ws,w,e,mo,sh,q⟩:=q1
 obtain⟨v,w1,rfl,rfl,sh1,e1⟩:=GY sh e
 obtain⟨ds,e2,e1⟩:=Am e1
 obtain⟨ns,e3,e1⟩:=Am e1
 split at e1
 .rename_i hz
  cases e1
  obtain⟨b,ys,rfl,h3,h4⟩:=sh1.l e2
  have hL:SqL X.K H1 b (ns.map V.int):=by rw[<-HZ h4 e3];exact .of h3
  obtain⟨u,rfl,ru⟩:=r1.one
  cases (show u=oX b from ru)
  obtain⟨its,rv,pl,_⟩:=I1.list hL
  have hl:its.length=ns.length:=by have:=rv.length;simpa using this.symm
  have hl2:its.toArray.size=ns.length:=by rw[nQ,hl]
  refine Tx (items:=its.toArray) (ns:=ns) (I1.ok.hd hc) pl.isList (by simpa using intsAre_of rv) (by rw[hl2];unfold scanBound;lia) λh' tk hS hk=>sY ?_
  rw[hl2]at hS
  refine P4 (s:={s1 with heap:=h',toks:=tk}) (I1.ok.hd hc) hS hz.2 λp out e ms h2 d2 tk2 lp hp a1 a2 a3 kp=>?_
  have hs':=Jr a2 a3
  subst hs'
  have k2:∀b o,s1.heap.get? b=Gc o->h2.get? b=Gc o:=λb o z=>kp b o (hk b o z)
  have lp2:s1.heap.objs.size<=p:=by
   obtain⟨_,_,_,_,ho,_⟩:=hS
   exact nL (qJ (nS ho)) lp
  have hn:H1 p=none:=I1.hok.fresh lp2
  refine⟨.ref _,_,Wu (I1.laid (a:=p) (o:=.lst ((GA (Vn ns ns.length)).map V.int)) (t':=tk2) k2 lp2 ?_) d2,rfl,q _ _ (.lst mo hn Gi)⟩
  refine⟨?_,out.toList,e,EO a1,?_⟩
  .rw[oG,(Eu _).length_eq]
   have:(64:Nat)<=sizeLine:=by decide
   lia
  .rw[rD];exact hp
 .cases e1
theorem hU{X:Cx}{a:oI}{o:Ev}{c:oO}{p p' pos pos':Pos}(hc:X.calm=true)(hgl:Gl X "sorted")(hml:X.mg "sorted"=none)(hg:Gl X "set")(hm:X.mg "set"=none)(ha:DEs X [a] [o])(hs:nv [a] X.env=[(false,eval a X.env)]:=by rfl)(hs2:nv [zL (.Name "set" p) [a] [] pos] X.env=[(false,eval (.Call (.Name "set" p) [a] [] pos) X.env)]:=by rfl):DE X (.Call (.Name "sorted" p') [.Call (.Name "set" p) [a] [] pos] [] pos') (Nc c (o1 wSS) [o]):=⟨
 BI (iQ hc hgl hml hg hm ha.pe hs hs2) λ_ _ _ h=>by
  obtain⟨M,E,S,d,S',e,r,st,q⟩:=h
  exact Ks e r st q⟩
end Mi
end
noncomputable section
namespace Mi
open PySem PySem.Spec L2 PyProof.Rows
section
variable{prog:nq}{w:oN}{A:oU}{E:mz->m8->Prop}{s:m8}{K:Type} [wt K] {knd:KeyKind prog w K}{d:nH}{kvs:List (K×mz)}
abbrev jX(knd:KeyKind prog w K)(kvs:List (K×mz)):Nat->mz->Prop:=λi v=>∃k x,kvs[i]?=Gc (k,x)/\knd.is k v=true
theorem SM{Q:oO->m8->Prop}(x:s.TypeIs (.ref d) "dict")(h:Q false s):wpAny (model prog w) A (qg (.ref d)) Q E s:=by
 unfold qg
 refine Wp (wW x F.slot_dict_len.lookup ?_)
 generalize hid:("dict.__len__":qj)=id0
 wp_delta
 rw[show splitId id0=Gc ("dict","__len__")from by subst hid;decide+kernel]
 subst hid
 refine Wp (sv (b:=true) x (by rw[xK];kernel_rfl) ?_)
 rw[oE (by decide)]
 dsimp only
 rw[nh (by decide+kernel)]
 refine Wp (rh (T:="dict") x ?_)
 exact m9 h
theorem QG{R:Result->m8->Prop}{S:nH}{res:mz}{c₀:Nat}(hh:A.handled=none)(hd:(d==sysModules)=false)(D:s.heap.DictOf knd d kvs)(hn:kvs.length<=sizeLine)(hS:s.heap.get? S=Gc {cls:=.type "list",data:=.seq #[] c₀})(hR:∀h' tk acc' c',(∀b o,b≠S->s.heap.get? b=Gc o->h'.get? b=Gc o)->h'.get? S=Gc {cls:=.type "list",dict:=none,data:=.seq acc' c',slots:= #[]}->ItemsOf (jX knd kvs) acc' kvs.length->R (.ok (.ret res)) {s with heap:=h',toks:=tk}):wpAny (model prog w) A.in1 (pA (.ref S) (.ref d) res) (λfin s'=>match fin with| .done f=>R (.ok f) s'| .again c'=>c'.quiet=true/\codeAny (model prog w) A c' R s') (λe s'=>R (.error e) s') s:=by
 obtain⟨ep,D⟩:=D.dictAt
 have ty:s.TypeIs (.ref d) "dict":=D.dictOf.typeIs
 have ld:=D.lt_size
 have lS:=nS hS
 have hSd:S≠d:=λe=>by
  subst e
  obtain⟨o,es,ho,hc,_⟩:=id D
  rw[hS]at ho;cases ho
  exact absurd hc.1 (by simp)
 have h1:rO (.ref S) (.ref d)=false:=by simp[rO,hSd]
 unfold pA
 refine Wp (rh (T:="dict") ty ?_)
 rw[oE (by rw[h1];decide)]
 refine Wp (wpAny_pyIter_dict hd D ?_)
 generalize hkI:({cls:=.type "dict_keyiterator",data:=.fields #[.ref d,.int 0 0,.int kvs.length 0,.int ep 0]}:Obj)=kI
 have D1:=D.push kI
 refine Wp (oq (SM (Heap.DictOf.typeIs (s:={s with heap:=s.heap.push _}) D1.dictOf) ?_))
 rw[nh (by decide+kernel)]
 have S1:=my kI hS
 refine Wp (rG (Wp ?_))
 show wpAny _ A.in1 (updateSeq S (·.push .none) >>= λ_=>updateSeq S (·.pop)) _ _ _
 refine Wp (sP S1 rfl ?_)
 have m3:=og (oV (·.push pz)) S1 rfl
 refine sP (hz:=by seq_fits) m3 rfl ?_
 have m4:=og (oV (·.pop)) m3 rfl
 have oth:∀(h2:oQ) b o,b≠S->h2.get? b=Gc o->
   ((h2.update S (oV (·.push pz))).update S (oV (·.pop))).get? b=Gc o:=
  λh2 b o hb e=>(pZ _ _ (pV hb)).trans ((pZ _ _ (pV hb)).trans e)
 have W:=Walks.dictKeys (knd:=knd) (A:=A.in1) (by simp[hh]) s.heap.objs.size d (nV ld) kvs ep
 have hSf:S∉ [s.heap.objs.size,d]:=by simp;exact⟨nV lS,hSd⟩
 refine m9 ⟨uY xZ _,xN W.toS hn _ hSf _ kvs.length 0 _ _ _ rfl (pY _) ?_ m4 (ItemsOf.nil _) λs' acc' c' hm hS' hacc=>?_⟩
 .exact W.frame 0 (s.heap.push kI) _ ⟨⟨kI,nM _ (by rw[<-hkI];rfl),by rw[<-hkI],by rw[<-hkI];rfl⟩,D1⟩ λb hb o e=>oth (s.heap.push kI) b o (λz=>hSf (z▸hb)) e
 .obtain⟨h',g',d',tk',os'⟩:=s'
  have e1:g'=s.gens:=hm.gens
  have e2:d'=s.drawn:=hm.drawn
  have e3:os'=s.os:=hm.os
  subst e1 e2 e3
  refine hR h' tk' acc' c' (λb o nb e=>?_) hS' hacc
  have lb:=nS e
  have q2:=oth (s.heap.push kI) b o nb (my kI e)
  have q3:b∉S:: [s.heap.objs.size]:=by simp;exact⟨nb,nV lb⟩
  exact hm.heap b o q3 q2
theorem Rp{Q:mz->m8->Prop}(hh:A.handled=none)(hd:(d==sysModules)=false)(D:s.heap.DictOf knd d kvs)(hn:kvs.length<=sizeLine)(hQ:∀h' tk acc' c',(∀b o,s.heap.get? b=Gc o->h'.get? b=Gc o)->h'.get? s.heap.objs.size=Gc {cls:=.type "list",dict:=none,data:=.seq acc' c',slots:= #[]}->ItemsOf (jX knd kvs) acc' kvs.length->Q (.ref s.heap.objs.size) {s with heap:=h',toks:=tk}):wpAny (model prog w) A (call (.type "list") [.ref d]) Q E s:=by
 refine callType_codes (Q₁:=λobj s₁=>obj=.ref s.heap.objs.size/\s₁={s with heap:=s.heap.push {cls:=.type "list",data:=.seq #[]}}) F.called_list (F.typeCall_list_1 _) F.entry_list_init
  (code_list_new _ ⟨rfl,rfl⟩) λobj s₁ h₁=>?_
 obtain⟨rfl,rfl⟩:=h₁
 have hS:(s.heap.push {cls:=.type "list",data:=.seq #[]}).get? s.heap.objs.size=Gc {cls:=.type "list",data:=.seq #[]}:=nM _ rfl
 refine⟨⟨_,hS,rfl⟩,F.args_list_init_2 _ _,?_⟩
 show wpAny _ _ (do let old<-wK (.ref s.heap.objs.size);Builtin.List.listUpdate (.ref s.heap.objs.size) (λ_=> #[]);letGo old.toList.reverse;pA (.ref s.heap.objs.size) (.ref d) .none) _ _ _
 refine Wp ?_
 unfold wK
 refine Wp (qW hS rfl (m9 ?_))
 show wpAny _ _ (updateSeq s.heap.objs.size (λ_=> #[]) >>= λ_=>letGo (#[]:oH mz).toList.reverse >>= λ_=>pA (.ref s.heap.objs.size) (.ref d) .none) _ _ _
 refine Wp (sP hS rfl ?_)
 have hS₂:=og (oV (λ_=>(#[]:oH mz))) hS rfl
 have oth:∀b o,b≠s.heap.objs.size->(s.heap.push {cls:=.type "list",data:=.seq #[]}).get? b=Gc o->((s.heap.push {cls:=.type "list",data:=.seq #[]}).update s.heap.objs.size (oV (λ_=>(#[]:oH mz)))).get? b=Gc o:=
  λb o hb e=>(pZ _ _ (pV hb)).trans e
 refine Wp (xB ?_)
 have ld:d<s.heap.objs.size:=by obtain⟨_,_,_,ho,_⟩:=id D;exact nS ho
 have D2:Heap.DictOf knd ((s.heap.push {cls:=.type "list",data:=.seq #[]}).update s.heap.objs.size (oV (λ_=>(#[]:oH mz)))) d kvs:=by
  obtain⟨o,es,ep,ho,r⟩:=id D
  exact⟨o,es,ep,oth d o (nV ld) (my _ ho),r⟩
 refine QG (A:=A.in1) hh hd D2 hn hS₂ λh' tk acc' c' hk hS' hacc=>⟨rfl,hQ h' tk acc' c' (λb o e=>?_) hS' hacc⟩
 have nb:=nV (nS e)
 exact hk b o nb (oth b o nb (my _ e))
end
end Mi
end
noncomputable section
namespace Mi
open PySem PySem.Spec L2 PyProof.Rows
noncomputable def Rj:List (Key×D)->nB (List Int)
 | []=>Gc []
 |(.inl n,_)::r=>(Rj r).map (n:: ·)
 |(.inr _,_)::_=>none
theorem OU{K:mx}{M:Ms}{H:Hp}:∀{kvs:List (Key×V)} {es:List (Key×D)} {ns:List Int},Bo K M H kvs es->Rj es=Gc ns->kvs.map (·.1)=ns.map qt
 |_,_,ns,.nil,e=>by cases e;rfl
 |_,_,ns,.cons (k:=k) h t,e=>by
  cases k with
  |inl n=>
   obtain⟨ms,e1,e⟩:=Iu e
   cases e
   rw[nR,nR,OU t e1]
  |inr x=>cases e
theorem MP:∀{l:List mz} {vs:List (Key×mz)} {ns:List Int},l.length=vs.length->(∀(j:Nat) v,l[j]?=Gc v->∃k x,vs[j]?=Gc (k,x)/\Pt k v=true)->vs.map (·.1)=ns.map qt->qO l ns
 | [],[],ns,_,_,e=>by cases ns with
   |nil=>exact .nil
   |cons n ns=>cases e
 |v::l,(k,x)::vs,[],_,_,e=>by cases e
 |v::l,(k,x)::vs,n::ns,hl,h,e=>by
  rw[nR,nR]at e
  injection e with e1 e2
  obtain⟨k',x',q,z⟩:=h 0 v rfl
  cases q
  dsimp only at e1
  subst e1
  rcases Bk z with⟨i,t,e3,rfl⟩|⟨y,t,e3,rfl⟩
  .cases e3
   exact .cons _ _ (MP (by simpa using hl) (λj v q=>h (j+1) v (by simpa using q)) e2)
  .cases e3
 | [],(k,x)::vs,ns,hl,_,e=>by simp at hl
 |v::l,[],ns,hl,_,e=>by simp at hl
theorem S9{X:Cx}{acc:oH mz}{vs:List (Key×mz)}{kvs:List (Key×V)}{ns:List Int}(h:ItemsOf (jX (B8 X.prog X.w) vs) acc vs.length)(r:KV kvs vs)(e:kvs.map (·.1)=ns.map qt):qO acc.toList ns:=
 MP (by simpa using h.1) (λj v q=>h.2 j v (by simpa using q)) (by rw[<-r.keys];exact e)
theorem Xb{X:Cx}(hc:X.calm=true):Dl X (.type "list") (λxs H Q=>∃(a:nH) (kvs:List (Key×V)) (ns:List Int),xs=[.ref a]/\H a=Gc (.dK kvs)/\kvs.map (·.1)=ns.map qt/\∀q,H q=none->Q (.ref q) (upd H q (.lst (ns.map V.int)))):=by
 intro pins s σ H xs us Q I r h
 obtain⟨a,kvs,ns,rfl,ha,hk,q⟩:=h
 obtain⟨u,rfl,ru⟩:=r.one
 cases (show u=oX a from ru)
 obtain⟨z,hd,vs,rel,dd⟩:=Wd I.hok ha
 refine Rp (I.ok.hd hc) hd dd (by rw[<-rel.length];exact z) λh' tk acc' c' k at' hacc=>?_
 have hi:=S9 hacc rel hk
 refine⟨.ref _,_,I.laid (a:=s.heap.objs.size) (o:=.lst (ns.map V.int)) (t':=tk) k (nG _) ?_,rfl,q _ (I.hok.fresh (nG _))⟩
 refine⟨?_,acc'.toList,c',EO hi,?_⟩
 .rw[oG,<-hi.length,pP,hacc.1,<-rel.length];exact z
 .rw[rD];exact at'
noncomputable def eLK(c:oO)(f:Ev):Ev:=λE S=>(f E S).bind λa=>(QF a.2 a.1).bind λes=>(Rj es).bind λns=>fin c (.own (ns.map D.int)) a.2
theorem UG{o:Ev}{E:En}{S S1:Sto}{w:D}(e1:o E S=Gc (w,S1)):evs [o] E S=Gc ([w],S1):=by
 show(o E S).bind (λr=>(evs [] E r.2).map λq=>(r.1::q.1,q.2))=_
 rw[e1];rfl
theorem c7{X:Cx}{a:oI}{o:Ev}{c:oO}{p pos:Pos}(hc:X.calm=true)(hg:Gl X "list")(hm:X.mg "list"=none)(ha:DEs X [a] [o])(hs:nv [a] X.env=[(false,eval a X.env)]:=by rfl):DE X (.Call (.Name "list" p) [a] [] pos) (eLK c o):=⟨
 BI (La (Xb hc) hg hm zM ha.pe (by decide) (by decide) hs rfl) λσ H Q z=>by
  obtain⟨M,E,S,d,S',e,r,st,q⟩:=z
  obtain⟨⟨w,S1⟩,e1,e⟩:=Am e
  obtain⟨es,ed,e⟩:=Am e
  obtain⟨ns,en,e⟩:=Am e
  refine HN (UG e1) r st λvs H1 M1 g1 st1 r1=>?_
  cases r1 with
  |cons r1 rn=>
   cases rn
   obtain⟨a,kvs,rfl,h,rk⟩:=Oj st1 r1 ed
   refine⟨a,kvs,ns,rfl,h,OU rk en,λp hp=>?_⟩
   obtain⟨M2,g2,st2,d2⟩:=(Nw.lst st1.mo hp Gi).fin st1 e
   exact q _ _ M2 (g1.trans g2) st2 d2⟩
theorem RP:bootBuiltins "dict"=Gc (.type "dict"):=by decide+kernel
theorem Wx{X:Cx}:Dl X (.type "dict") (λxs H Q=>∃(a:nH) (kvs:List (Key×V)),xs=[.ref a]/\H a=Gc (.dK kvs)/\∀q,H q=none->Q (.ref q) (upd H q (.dK kvs))):=by
 intro pins s σ H xs us Q I r h
 obtain⟨a,kvs,rfl,ha,q⟩:=h
 obtain⟨u,rfl,ru⟩:=r.one
 cases (show u=oX a from ru)
 exact Wc I (.inl ha) λp s' hp I'=>⟨.ref p,_,I',rfl,q p hp⟩
noncomputable def eDC(c:oO)(f:Ev):Ev:=λE S=>(f E S).bind λa=>(QF a.2 a.1).map λes=>Q4 c es a.2
theorem ie{X:Cx}{a:oI}{o:Ev}{c:oO}{p pos:Pos}(hg:Gl X "dict")(hm:X.mg "dict"=none)(hv:bootBuiltins "dict"=Gc (.type "dict"))(ha:DEs X [a] [o])(hs:nv [a] X.env=[(false,eval a X.env)]:=by rfl):DE X (.Call (.Name "dict" p) [a] [] pos) (eDC c o):=⟨
 BI (La Wx hg hm hv ha.pe (by decide) (by decide) hs rfl) λσ H Q z=>by
  obtain⟨M,E,S,d,S',e,r,st,q⟩:=z
  obtain⟨⟨w,S1⟩,e1,e⟩:=Am e
  obtain⟨es,ed,e⟩:=Iu e
  refine HN (UG e1) r st λvs H1 M1 g1 st1 r1=>?_
  cases r1 with
  |cons r1 rn=>
   cases rn
   obtain⟨a,kvs,rfl,h,rk⟩:=Oj st1 r1 ed
   refine⟨a,kvs,rfl,h,λp hp=>?_⟩
   obtain⟨st0,s0⟩:=st1.dn hp
   have:=Pr (cf:=c) (S':=S') (Q:=Q) (kvs:=kvs) (es:=es) st1 hp (.refl st0.mo) st0 (rk.step s0) (by
    have e':Q4 c es S1=(d,S'):=e
    rw[e'];exact λv H' M' g2 st2 d2=>q v H' M' (g1.trans g2) st2 d2)
   rw[Sm]at this
   exact this⟩
end Mi
end
noncomputable section
namespace Mi
open PySem PySem.Spec L2 PyProof.Rows
abbrev eIx(a b:Ev):Ev:=eOp (o2 wIx) [a,b]
abbrev eI(n:Int):Ev:=eC (.int n)
theorem scM{N P:List Str}{sc:rQ}(a:sc.kind=.function:=by rfl)(b:sc.isCoroutine=false:=by rfl)(c:sc.isGenerator=false:=by rfl)(d:N.Nodup:=by decide+kernel)(e:N.take P.length=P:=by rfl)(f:∀x∈P,sc.names.lookup x=Gc .local\/sc.names.lookup x=Gc .cell:=by decide+kernel)(g:∀y∈sc.names,y.2≠.free:=by decide+kernel):AU N P sc:=⟨a,b,c,d,e,f,g⟩
theorem csM{N:List Str}{osc:rQ}{N':List Str}{ix:List (nB Nat)}{scope:rQ}(a:scope.kind=.function:=by rfl)(b:∀y∈scope.names,y.2=.cell->scope.names.lookup y.1=Gc .cell:=by decide+kernel)(c:∀y∈scope.names,y.2=.local->scope.names.lookup y.1=Gc .local:=by decide+kernel)(d:∀y∈scope.names,y.2=.free->(osc.names.lookup y.1=Gc .cell\/osc.names.lookup y.1=Gc .free):=by decide+kernel)(e:Q7 N osc scope N' ix=true:=by decide+kernel):Ab N osc N' ix scope:=⟨a,b,c,d,e⟩
theorem len0{α:Type}{us:List α}(h:us.length=0):us=[]:=by
 match us,h with
 | [],_=>rfl
theorem R4{α:Type}{us:List α}(h:us.length=1):∃a,us=[a]:=by
 match us,h with
 | [a],_=>exact⟨a,rfl⟩
theorem aa{α:Type}{us:List α}(h:us.length=2):∃a b,us=[a,b]:=by
 match us,h with
 | [a,b],_=>exact⟨a,b,rfl⟩
theorem jJ{α:Type}{us:List α}(h:us.length=3):∃a b c,us=[a,b,c]:=by
 match us,h with
 | [a,b,c],_=>exact⟨a,b,c,rfl⟩
theorem mI{α:Type}{us:List α}(h:us.length=4):∃a b c d,us=[a,b,c,d]:=by
 match us,h with
 | [a,b,c,d],_=>exact⟨a,b,c,d,rfl⟩
theorem lI{α:Type}{us:List α}(h:us.length=5):∃a b c d e,us=[a,b,c,d,e]:=by
 match us,h with
 | [a,b,c,d,e],_=>exact⟨a,b,c,d,e,rfl⟩
theorem lW{α:Type}{us:List α}(h:us.length=6):∃a b c d e f,us=[a,b,c,d,e,f]:=by
 match us,h with
 | [a,b,c,d,e,f],_=>exact⟨a,b,c,d,e,f,rfl⟩
section
variable{P:nq}{w:oN}{K:mx}{mg:Str->nB mz}{base:oQ}
theorem dfM {x : Str} {st : pN} {N ps : List Str} (k : Nat) {np : Nat} {b : Ex} (S : St.Src K mg x st) (sc : AU N ps (AJ st)) (hb : ∀ {f : nH} {cdv : mz} {A : oU} {outer : List PySem.Env} {s : m8} {H : Hp} {E : XK}, Lq k (A.deeper (tM x (AJ st) s.heap.objs.size f cdv)) -> (A.deeper (tM x (AJ st) s.heap.objs.size f cdv)).units + 100 < cLine -> DSs (Xg CX0 P w K mg base N x (AJ st) f cdv A outer s H E).nox (Ft st) b) (hp : ps.length = np := by rfl) (hbi : ∀ f fd, Fun K x x st f fd -> Binds K fd ps [] := by
      first
      | exact fun f fd F => F.binds fun _ _ _ _ _ _ us hl => by obtain ⟨_, rfl⟩ := R4 hl; rfl
      | exact fun f fd F => F.binds fun _ _ _ _ _ _ us hl => by obtain ⟨_, _, rfl⟩ := aa hl; rfl
      | exact fun f fd F => F.binds fun _ _ _ _ _ _ us hl => by obtain ⟨_, _, _, rfl⟩ := jJ hl; rfl
      | exact fun f fd F => F.binds fun _ _ _ _ _ _ us hl => by obtain ⟨_, _, _, _, rfl⟩ := mI hl; rfl
      | exact fun f fd F => F.binds fun _ _ _ _ _ _ us hl => by obtain ⟨_, _, _, _, _, rfl⟩ := lI hl; rfl
      | exact fun f fd F => F.binds fun _ _ _ _ _ _ us hl => by obtain rfl := len0 hl; rfl
      | exact fun f fd F => F.binds fun _ _ _ _ _ _ us hl => by obtain ⟨_, _, _, _, _, _, rfl⟩ := lW hl; rfl) :
    St.Dfn P w K mg base x (k + 1) ps (spD K np (BD (BH N.length b))) := bL S sc hp hbi fun _ _ _ _ _ _ _ hr => hb hr (Ud hr)
end
theorem deM{X:Cx}{k k' np:Nat}{x:Str}{ps:List Str}{f:Fn}{e:oI}{es:List oI}{fs:List Ev}{p pos:Pos}(d:St.Dfn X.prog X.w X.K X.mg X.base x k ps (spD X.K np f))(hr:Lq k' X.A)(ha:DEs X (e::es) fs)(hk:k<=k':=by first|decide|omega)(hg:Gl X x:=by exact rfl)(hn:fs.length=np:=by rfl)(hdb:(x==("__debug__":Str))=false:=by decide)(he:nv (e::es) X.env=(false,eval e X.env)::nv es X.env:=by rfl)(hpl:(backTo pos (nv es X.env)).any (·.1)=false:=by rfl):DE X (.Call (.Name x p) (e::es) [] pos) (AM f fs):=ZX d (hr.mono hk) hg ha hn hdb he hpl
end Mi
end
noncomputable section
namespace Mi
open PySem PySem.Spec L2 PyProof.Rows
open PySem.W (KasT kas_asc kas_desc kas_rev kas_tail3 kas_descPart kas_count kas_place kas_bin kas_sort kas_ask kas_item)
section
variable{cmp:Nat->Nat->(oO->m8->Prop)->m8->Prop}{key:Nat->Int}{n:Nat}{s:m8}{p:oH Nat}
def Tru(cmp:Nat->Nat->(oO->m8->Prop)->m8->Prop)(key:Nat->Int)(n:Nat)(s:m8):Prop:=
 ∀i j (C:oO->m8->Prop),i<n->j<n->i≠j->C (decide (key i<key j)) s->cmp i j C s
abbrev kp(key:Nat->Int)(p:oH Nat)(i:Nat):Int:=key (p.getD i 0)
structure PI(key:Nat->Int)(n:Nat)(p:oH Nat):Prop where
 pm:p.toList.Perm (oF n)
 inj:∀i j,i<n->j<n->key i=key j->i=j
theorem PI.sz(h:PI key n p):p.size=n:=by simpa using h.pm.length_eq
theorem PI.lt(h:PI key n p){i:Nat}(hi:i<n):p.getD i 0<n:=by
 have:p.getD i 0∈p.toList:=by simp[tV,h.sz,hi]
 simpa using h.pm.mem_iff.mp this
theorem PI.ni(h:PI key n p){i j:Nat}(hi:i<n)(hj:j<n)(ne:i≠j):p.getD i 0≠p.getD j 0:=λe=>by
 have nd:p.toList.Nodup:=h.pm.nodup_iff.mpr List.nodup_range
 have hi':i<p.size:=by rw[h.sz];exact hi
 have hj':j<p.size:=by rw[h.sz];exact hj
 have e':p.toList[i]'(by simpa using hi')=p.toList[j]'(by simpa using hj'):=by simpa[tV,hi',hj']using e
 exact ne ((sf nd).mp e')
theorem PI.nk(h:PI key n p){i j:Nat}(hi:i<n)(hj:j<n)(ne:i≠j):kp key p i≠kp key p j:=
 λe=>h.ni hi hj ne (h.inj _ _ (h.lt hi) (h.lt hj) e)
theorem PI.perm(h:PI key n p){q:oH Nat}(e:q.Perm p):PI key n q:=⟨(Array.perm_iff_toList_perm.mp e).trans h.pm,h.inj⟩
theorem O1(T:Tru cmp key n s)(I:PI key n p){i j:Nat}(hi:i<n)(hj:j<n)(ne:i≠j){C:oO->m8->Prop}(h1:kp key p i<kp key p j->C true s)(h2:kp key p j<kp key p i->C false s):cmp (p.getD i 0) (p.getD j 0) C s:=by
 refine T _ _ _ (I.lt hi) (I.lt hj) (I.ni hi hj ne) ?_
 by_cases h:key (p.getD i 0)<key (p.getD j 0)
 .rw[pJ h];exact h1 h
 .rw[qE h]
  have:=I.nk hi hj ne
  exact h2 (by simp only[kp]at *; lia)
def Srt(key:Nat->Int)(p:oH Nat)(m:Nat):Prop:=∀i j,i<j->j<m->kp key p i<kp key p j
def Dsc(key:Nat->Int)(p:oH Nat)(m:Nat):Prop:=∀i j,i<j->j<m->kp key p j<kp key p i
theorem Srt.more{m:Nat}(h:Srt key p m)(h1:1<=m)(e:kp key p (m-1)<kp key p m):Srt key p (m+1):=λi j ij jm=>by
 by_cases q:j<m
 .exact h i j ij q
 .have:j=m:=by lia
  subst this
  by_cases r:i=j-1
  .subst r;exact e
  .exact uK (h i (j-1) (by lia) (by lia)) e
theorem Dsc.more{m:Nat}(h:Dsc key p m)(h1:1<=m)(e:kp key p m<kp key p (m-1)):Dsc key p (m+1):=λi j ij jm=>by
 by_cases q:j<m
 .exact h i j ij q
 .have:j=m:=by lia
  subst this
  by_cases r:i=j-1
  .subst r;exact e
  .exact uK e (h i (j-1) (by lia) (by lia))
theorem SW(T:Tru cmp key n s)(I:PI key n p){G:Nat->m8->Prop}:∀(f a:Nat),1<=a->a+f=n->Srt key p a->(∀m,a<=m->m<=n->Srt key p m->(m=n\/kp key p m<kp key p (m-1))->G m s)->(kas_asc p f a).kasWp cmp G s
 |0,a,h1,e,hs,h=>h a (nG _) (by lia) hs (.inl (by lia))
 |f+1,a,h1,e,hs,h=>by
  show cmp (p.getD a 0) (p.getD (a-1) 0) (λc s'=>(if c=true then KasT.ret a else kas_asc p f (a+1)).kasWp cmp G s') s
  refine O1 T I (by lia) (by lia) (by lia) (λq=>?_) (λq=>?_)
  .rw[nh rfl];exact h a (nG _) (by lia) hs (.inr q)
  .rw[oE (by decide)];exact SW T I f (a+1) (by lia) (by lia) (hs.more h1 q) λm hm=>h m (by lia)
theorem Tp(T:Tru cmp key n s)(I:PI key n p){G:oH Nat×Nat×Nat->m8->Prop}:∀(f a:Nat),1<=a->a+f=n->Dsc key p a->(∀m,a<=m->m<=n->Dsc key p m->G (p,m,0) s)->(yr f p a 0).kasWp cmp G s
 |0,a,h1,e,hs,h=>h a (nG _) (by lia) hs
 |f+1,a,h1,e,hs,h=>by
  show cmp (p.getD a 0) (p.getD (a-1) 0) (λc s'=>(if c=true then(if 0>0 then yr f (xU p (a-(0+1)) a) (a+1) 0 else yr f p (a+1) 0)
   else KasT.ask (p.getD (a-1) 0) (p.getD a 0) λd=>if d=true then .ret (p,a,0)else yr f p (a+1) (0+1)).kasWp cmp G s') s
  refine O1 T I (by lia) (by lia) (by lia) (λq=>?_) (λq=>?_)
  .rw[nh rfl,oE (by decide)];exact Tp T I f (a+1) (by lia) (by lia) (hs.more h1 q) λm hm=>h m (by lia)
  .rw[oE (by decide)]
   show cmp (p.getD (a-1) 0) (p.getD a 0) (λd s'=>(if d=true then KasT.ret (p,a,0)else yr f p (a+1) (0+1)).kasWp cmp G s') s
   refine O1 T I (by lia) (by lia) (by lia) (λq'=>?_) (λq'=>?_)
   .rw[nh rfl];exact h a (nG _) (by lia) hs
   .exact absurd (uK q q') (by simp)
theorem getD_eq{q:oH Nat}{i:Nat}:q.getD i 0=(q[i]?).getD 0:=by simp
theorem aY(T:Tru cmp key n s)(I:PI key n p){m:Nat}{G:Nat×oH Nat->m8->Prop}(h1:1<=m)(hm:m<=n)(hs:Dsc key p m)(h:∀a q,1<=a->a<=n->PI key n q->Srt key q a->G (a,q) s):(zN m n p).kasWp cmp G s:=by
 have I':PI key n (xU p 0 m):=I.perm (mirror_perm _ _ _ _)
 unfold zN
 rw[tS]
 refine SW T I' (n-m) m h1 (by lia) (λi j ij jm=>?_) λa h2 h3 h4 _=>h a _ (by lia) h3 I' h4
 have hj:m<=p.size:=by rw[I.sz];exact hm
 show key ((xU p 0 m).getD i 0)<key ((xU p 0 m).getD j 0)
 rw[getD_eq,getD_eq]
 unfold xU
 rw[xc hj,xc hj,nh (by lia),nh (by lia),<-getD_eq,<-getD_eq]
 exact hs _ _ (by lia) (by lia)
theorem WR(T:Tru cmp key n s)(I:PI key n p){G:Nat×oH Nat->m8->Prop}(h1:1<=n)(h:∀a q,1<=a->a<=n->PI key n q->Srt key q a->G (a,q) s):(kas_count n p).kasWp cmp G s:=by
 unfold kas_count
 rw[tS]
 refine SW T I (n-1) 1 (nG _) (by lia) (λi j ij jm=>by lia) λm h2 h3 h4 h5=>?_
 by_cases e:m=n
 .rw[nh (by simpa using e)];exact h m p h2 h3 I h4
 .rw[oE (by simpa using e)]
  by_cases e2:m>1
  .rw[nh e2]
   show cmp (p.getD 0 0) (p.getD (m-1) 0) (λc s'=>(if c=true then KasT.ret (m,p)else kas_descPart m n (xU p 0 m)).kasWp cmp G s') s
   refine O1 T I (by lia) (by lia) (by lia) (λq=>?_) (λq=>?_)
   .rw[nh rfl];exact h m p h2 h3 I h4
   .exact absurd (uK q (h4 0 (m-1) (by lia) (by lia))) (by simp)
  .rw[oE e2]
   have:m=1:=by lia
   subst this
   have q:=h5.resolve_left e
   unfold kas_descPart
   rw[tS]
   refine Tp T I (n-(1+1)) (1+1) (by lia) (by lia) (Dsc.more (m:=1) (λi j ij jm=>by lia) (by lia) q) λa h6 h7 h8=>?_
   show(if(0:Nat)>0 then zN a n (xU p (a-(0+1)) a)else zN a n p).kasWp cmp G s
   rw[oE (by decide)]
   exact aY T I (by lia) h7 h8 h
theorem Nh(T:Tru cmp key n s)(I:PI key n p){k:Nat}(hk:k<n)(hs:Srt key p k){G:Nat->m8->Prop}:∀(f l r:Nat),l<=r->r<=k->r-l<=f->(∀i,i<l->kp key p i<kp key p k)->(∀i,r<=i->i<k->kp key p k<kp key p i)->(∀l,l<=k->(∀i,i<l->kp key p i<kp key p k)->(∀i,l<=i->i<k->kp key p k<kp key p i)->G l s)->(zO p k f l r).kasWp cmp G s
 |0,l,r,lr,rk,hf,h1,h2,h=>by
  have:l=r:=by lia
  subst this
  exact h l rk h1 h2
 |f+1,l,r,lr,rk,hf,h1,h2,h=>by
  unfold zO
  by_cases e:l≥r
  .rw[nh e]
   have:l=r:=by lia
   subst this
   exact h l rk h1 h2
  .rw[oE e]
   show cmp (p.getD k 0) (p.getD ((l+r) / 2) 0) (λc s'=>(if c=true then zO p k f l ((l+r) / 2)else zO p k f ((l+r) / 2+1) r).kasWp cmp G s') s
   refine O1 T I hk (by lia) (by lia) (λq=>?_) (λq=>?_)
   .rw[nh rfl]
    refine Nh T I hk hs f l ((l+r) / 2) (by lia) (by lia) (by lia) h1 (λi hi ik=>?_) h
    by_cases z:i=(l+r) / 2
    .subst z;exact q
    .exact uK q (hs _ _ (by lia) ik)
   .rw[oE (by decide)]
    refine Nh T I hk hs f ((l+r) / 2+1) r (by lia) (by lia) (by lia) (λi hi=>?_) h2 h
    by_cases z:i=(l+r) / 2
    .subst z;exact q
    .exact uK (hs i ((l+r) / 2) (by lia) (by lia)) q
theorem Yk(T:Tru cmp key n s){G:oH Nat->m8->Prop}(h:∀q,PI key n q->Srt key q n->G q s):∀(f k:Nat) (p:oH Nat),PI key n p->k+f=n->Srt key p k->(kas_bin f p k).kasWp cmp G s
 |0,k,p,I,e,hs=>h p I (by have:k=n:=by lia
                          subst this;exact hs)
 |f+1,k,p,I,e,hs=>by
  unfold kas_bin
  rw[tS]
  refine Nh T I (by lia) hs k 0 k (pY _) (nG _) (by lia) (λi hi=>by lia) (λi h1 h2=>by lia) λl hl h1 h2=>?_
  refine Yk T h f (k+1) _ (I.perm (bubble_perm _ _ _)) (by lia) λi j ij jk=>?_
  have hks:k<p.size:=by rw[I.sz];lia
  show key ((bubble p k (k-l)).getD i 0)<key ((bubble p k (k-l)).getD j 0)
  rw[getD_eq,getD_eq,zu hks _ (by lia),zu hks _ (by lia),show k-(k-l)=l by lia]
  repeat' split
  all_goals first
   |(exfalso;lia)
   |(rw[<-getD_eq,<-getD_eq];first|exact h1 _ (by lia)|exact h2 _ (by lia) (by lia)|exact hs _ _ (by lia) (by lia))
theorem Zg(T:Tru cmp key n s)(inj:∀i j,i<n->j<n->key i=key j->i=j)(h1:1<=n){G:oH Nat->m8->Prop}(h:∀q,PI key n q->Srt key q n->G q s):(kas_sort n).kasWp cmp G s:=by
 unfold kas_sort
 rw[tS]
 refine WR T ⟨by simp,inj⟩ h1 λa q h2 h3 I hs=>?_
 by_cases e:a<n
 .show(if a<n then kas_bin (n-max a 1) q (max a 1)else .ret q).kasWp cmp G s
  rw[nh e]
  have:max a 1=a:=by lia
  rw[this]
  exact Yk T h _ _ _ I (by lia) hs
 .show(if a<n then kas_bin (n-max a 1) q (max a 1)else .ret q).kasWp cmp G s
  rw[oE e]
  have:a=n:=by lia
  subst this
  exact h q I hs
end
end Mi
end
noncomputable section
namespace Mi
open PySem PySem.Spec L2 PyProof.Rows
def Hw(h:oQ):List mz->List Int->Prop
 | [],[]=>z6
 |v::vs,k::ks=>(∃a o xs n t,v=.ref a/\h.get? a=Gc o/\o.cls=.type "tuple" /\o.data=.seq xs n/\xs[0]?=Gc (.int k t))/\Hw h vs ks
 |_,_=>sH
theorem Hw.kat{h:oQ}:∀{vs:List mz} {ks:List Int},Hw h vs ks->∃fs:List mz,fs.length=vs.length/\PySem.W.KatTups h vs fs/\∀v∈fs,∃k t,v=.int k t
 | [],[],_=>⟨[],rfl,trivial,λ_ z=>nomatch z⟩
 | [],_::_,z=>z.elim
 |_::_,[],z=>z.elim
 |v::vs,k::ks,⟨⟨a,o,xs,n,t,e,ho,hc,hd,hx⟩,r⟩=>by
  obtain⟨fs,h1,h2,h3⟩:=Hw.kat r
  refine⟨.int k t::fs,by simp[h1],⟨⟨a,o,xs,n,e,ho,hc,hd,hx⟩,h2⟩,λx hx=>?_⟩
  rcases nK.mp hx with rfl|hx
  .exact⟨k,t,rfl⟩
  .exact h3 x hx
theorem Hw.keep{h h':oQ}(kp:∀a o,h.get? a=Gc o->o.cls=.type "tuple"->h'.get? a=Gc o):∀{vs:List mz} {ks:List Int},Hw h vs ks->Hw h' vs ks
 | [],[],_=>trivial
 | [],_::_,z=>z.elim
 |_::_,[],z=>z.elim
 |v::vs,k::ks,⟨⟨a,o,xs,n,t,e,ho,hc,hd,hx⟩,r⟩=>⟨⟨a,o,xs,n,t,e,kp a o ho hc,hc,hd,hx⟩,r.keep kp⟩
theorem Hw.length{h:oQ}:∀{vs:List mz} {ks:List Int},Hw h vs ks->vs.length=ks.length
 | [],[],_=>rfl
 | [],_::_,z=>z.elim
 |_::_,[],z=>z.elim
 |v::vs,k::ks,⟨_,r⟩=>by simp[r.length]
theorem Hw.at{h:oQ}:∀{vs:List mz} {ks:List Int} {i:Nat},Hw h vs ks->i<vs.length->∃a o xs n t,vs.getD i .none=.ref a/\h.get? a=Gc o/\o.data=.seq xs n/\xs[0]?=Gc (.int (ks.getD i 0) t)
 | [],_,_,_,hi=>by simp at hi
 |_::_,[],_,z,_=>z.elim
 |v::vs,k::ks,0,⟨⟨a,o,xs,n,t,e,ho,hc,hd,hx⟩,r⟩,_=>⟨a,o,xs,n,t,by simp[e],ho,hd,by simp[hx]⟩
 |v::vs,k::ks,i+1,⟨_,r⟩,hi=>by
  obtain⟨a,o,xs,n,t,h1,h2,h3,h4⟩:=r.at (i:=i) (by simpa using hi)
  exact⟨a,o,xs,n,t,by simpa using h1,h2,h3,by simpa using h4⟩
section
variable{prog:nq}{w:oN}{A:oU}{E:mz->m8->Prop}{s:m8}{vs:List mz}{ks:List Int}
theorem aV{x y:mz}{a b:nH}{o u:Obj}{xs ys:oH mz}{n m:Nat}{k l:Int}{t r:Tok}{Q:oO->m8->Prop}(hx:x=.ref a)(hy:y=.ref b)(ho:s.heap.get? a=Gc o)(hu:s.heap.get? b=Gc u)(d1:o.data=.seq xs n)(d2:u.data=.seq ys m)(e1:xs[0]?=Gc (.int k t))(e2:ys[0]?=Gc (.int l r))(ne:k≠l)(q:Q (decide (k<l)) s):wpAny (model prog w) A (keyLt' (tuples' true) x y) Q E s:=by
 subst hx hy
 refine PySem.W.kat_lt ho d1 hu d2 ?_
 have z1:∃r1,xs.toList=.int k t::r1:=by
  cases h:xs.toList with
  |nil=>simp[<-qv,h]at e1
  |cons x r=>simp only[<-qv,h,vz,yt]at e1;exact⟨r,by rw[e1]⟩
 have z2:∃r1,ys.toList=.int l r::r1:=by
  cases h:ys.toList with
  |nil=>simp[<-qv,h]at e2
  |cons x r=>simp only[<-qv,h,vz,yt]at e2;exact⟨r,by rw[e2]⟩
 obtain⟨r1,z1⟩:=z1
 obtain⟨r2,z2⟩:=z2
 rw[z1,z2,vH]
 refine PySem.W.kat_cons (y7 ?_)
 rw[show(k==l)=false by simpa using ne]
 exact PySem.W.kat_no (oneLt_int q)
theorem Xi(h:Hw s.heap vs ks)(nd:ks.Nodup):Tru (PySem.W.kas_ask prog w A (tuples' true) vs) (λi=>ks.getD i 0) vs.length s:=by
 intro i j C hi hj ne q
 obtain⟨a,o,xs,n,t,h1,h2,h3,h4⟩:=h.at hi
 obtain⟨b,u,ys,m,r,k1,k2,k3,k4⟩:=h.at hj
 refine aV h1 k1 h2 k2 h3 k3 h4 k4 (λe=>ne ?_) q
 have li:i<ks.length:=by rw[<-h.length];exact hi
 have lj:j<ks.length:=by rw[<-h.length];exact hj
 have e':ks[i]=ks[j]:=by simpa[li,lj]using e
 exact(sf nd).mp e'
structure Pl(ks:List Int)(p:List Nat):Prop where
 pm:p.Perm (oF ks.length)
 so:(p.map λi=>ks.getD i 0).Pairwise (· < ·)
theorem L6{a:nH}{n:Nat}{P:PySem.Fin->m8->Prop}(ho:s.heap.get? a=Gc (seqObj "list" vs.toArray n))(hk:Hw s.heap vs ks)(nd:ks.Nodup)(h64:vs.length<64)(h:∀p:List Nat,Pl ks p->P (.done (.ret .none)) {s with heap:=sortedHeap s.heap a vs (p.map λi=>vs.getD i .none).toArray}):wpAny (model prog w) A (qK.«list.sort» ⟨[.ref a],[]⟩) P E s:=by
 rw[list_sort_plain]
 have ha:a<s.heap.objs.size:=nS ho
 have kl:=hk.length
 refine Wp (yf ho rfl ?_)
 refine Wp (va ho rfl ?_ (by rw[nQ,tZ];lia) (pY _))
 obtain⟨e1,ho1⟩:∃e1,(s.heap.update a (oV λ_=> #[])).get? a=Gc (seqObj "list" #[] e1):=⟨_,zh ho (λ_=> #[])⟩
 refine Wp (zZ ho1 rfl ?_)
 refine Wp (xC ?_ (by show vs.length<=_;rw[tZ];lia))
 refine Wp (tR ?_ (pY _))
 refine oq ?_
 have old:∀b o,b≠a->s.heap.get? b=Gc o->(((s.heap.update a (oV λ_=> #[])).push (seqObj "tuple" vs.toArray 0)).push (seqObj "list" #[] 0)).get? b=Gc o:=λb o nb e=>
  my _ (my _ ((pZ _ _ (pV nb)).trans e))
 have ho6:(((s.heap.update a (oV λ_=> #[])).push (seqObj "tuple" vs.toArray 0)).push (seqObj "list" #[] 0)).get? a=Gc (seqObj "list" #[] e1):=my _ (my _ ho1)
 show wpAny (model prog w) A _ P E {s with heap:=((s.heap.update a (oV λ_=> #[])).push (seqObj "tuple" vs.toArray 0)).push (seqObj "list" #[] 0)}
 dsimp only
 have hsz:vs.toArray.size=vs.length:=by simp
 by_cases h2:vs.toArray.size<2
 .rw[nh h2,nh h2]
  refine Wp (m9 ?_)
  rw[StateT.run_pure]
  refine Wp (m9 ?_)
  dsimp only
  refine Wp (zZ ho6 rfl ?_)
  refine Wp (va ho6 rfl ?_ (by simp) (by rw[Array.size_map];show(pairsOf vs).size<=_;rw[pairsOf_size,tZ];lia))
  simp only[uJ,qR,sZ]
  have hp:Pl ks (oF ks.length):=⟨uI _,by
   have:ks.length<2:=by lia
   match ks,this with
   | [],_=>simp
   | [x],_=>simp⟩
  have e:=h _ hp
  have e2:(oF ks.length).map (λi=>vs.getD i pz)=vs:=by
   apply rX
   .simp[kl]
   .intro i i1 i2;simp[i2]
  rw[e2]at e
  refine m9 ?_
  have e3:(arrOf (SortSt.mk' general' (vs.toArray.zip vs.toArray) #[] 7 none)).map (·.2)=vs.toArray:=by
   show(vs.toArray.zip vs.toArray).map (·.2)=_
   apply Array.toList_inj.mp
   rw[vy,Array.toList_zip]
   exact zP (nG _)
  have e4:P (.done (.ret .none)) {s with heap:=sortedHeap s.heap a vs ((arrOf (SortSt.mk' general' (vs.toArray.zip vs.toArray) #[] 7 none)).map (·.2))}:=by rw[e3];exact e
  exact e4
 .rw[oE h2,oE h2]
  have hn2:2<=vs.length:=by lia
  obtain⟨fs,f1,f2,f3⟩:=(hk.keep (h':=((s.heap.update a (oV λ_=> #[])).push (seqObj "tuple" vs.toArray 0)).push (seqObj "list" #[] 0)) λb o e c=>old b o (λz=>by subst z;rw[ho]at e;cases e;exact absurd c (by simp[seqObj])) e).kat
  have hk':=hk.keep (h':=((s.heap.update a (oV λ_=> #[])).push (seqObj "tuple" vs.toArray 0)).push (seqObj "list" #[] 0)) λb o e c=>old b o (λz=>by subst z;rw[ho]at e;cases e;exact absurd c (by simp[seqObj])) e
  refine Wp (PySem.W.kat_kind (s:={s with heap:=((s.heap.update a (oV λ_=> #[])).push (seqObj "tuple" vs.toArray 0)).push (seqObj "list" #[] 0)}) (T:=.type "int") f2 (by lia) (λv hv=>?_) rfl ?_)
  .obtain⟨k,t,rfl⟩:=f3 v hv
   exact PySem.W.Looks.now
  rw[show tuples' (rZ "int" !=rZ "tuple")=tuples' true from rfl]
  refine Wp (uw (PySem.W.kat_run (s:={s with heap:=((s.heap.update a (oV λ_=> #[])).push (seqObj "tuple" vs.toArray 0)).push (seqObj "list" #[] 0)})
   (Q:=λst' s'=>s'={s with heap:=((s.heap.update a (oV λ_=> #[])).push (seqObj "tuple" vs.toArray 0)).push (seqObj "list" #[] 0)}/\∃q:oH Nat,PI (λi=>ks.getD i 0) vs.length q/\Srt (λi=>ks.getD i 0) q vs.length/\arrOf st'=q.map (PySem.W.kas_item (vs.toArray.zip vs.toArray))/\failedOf st'=none)
   (G:=λq s'=>s'={s with heap:=((s.heap.update a (oV λ_=> #[])).push (seqObj "tuple" vs.toArray 0)).push (seqObj "list" #[] 0)}/\PI (λi=>ks.getD i 0) vs.length q/\Srt (λi=>ks.getD i 0) q vs.length)
   rfl hn2 h64 (λq st' s' _ a1 a2 ⟨a3,a4,a5⟩=>⟨a3,q,a4,a5,a1,a2⟩) ?_) ?_ λ_ _ e=>e)
  .refine Zg (Xi (s:={s with heap:=((s.heap.update a (oV λ_=> #[])).push (seqObj "tuple" vs.toArray 0)).push (seqObj "list" #[] 0)}) hk' nd) (λi j hi hj e=>?_) (by lia) λq a1 a2=>⟨rfl,a1,a2⟩
   have li:i<ks.length:=by rw[<-kl];exact hi
   have lj:j<ks.length:=by rw[<-kl];exact hj
   have e':ks[i]=ks[j]:=by simpa[li,lj]using e
   exact(sf nd).mp e'
  .rintro ⟨⟨⟩,st'⟩ s' ⟨rfl,q,a1,a2,a3,a4⟩
   dsimp only
   have e3:=PySem.W.kat_snds (ks:=vs) (vs:=vs) rfl a3
   refine Wp (zZ ho6 rfl ?_)
   refine Wp (va ho6 rfl ?_ (by simp) (by rw[e3,nQ,oG,pP,a1.sz,tZ];lia))
   rw[a4]
   simp only[uJ,qR,sZ]
   refine m9 ?_
   rw[e3]
   refine h q.toList ⟨by rw[<-kl];exact a1.pm,?_⟩
   rw[vM]
   intro i j hi hj ij
   simp only[oG,pP]at hi hj
   have:=a2 i j ij (by rw[<-a1.sz];exact hj)
   simpa[kp,tV,hi,hj]using this
theorem QE{Pv:List mz->Prop}{r:mz}{Q:mz->m8->Prop}(hh:A.handled=none)(hc:∀(A':oU) (Q':List mz->m8->Prop) (E':mz->m8->Prop),A'.handled=none->(∀h' tk vs,(∀b o,s.heap.get? b=Gc o->h'.get? b=Gc o)->s.heap.objs.size<=h'.objs.size->Pv vs->Hw h' vs ks->Q' vs {s with heap:=h',toks:=tk})->wpAny (model prog w) A' (collect r) Q' E' s)(nd:ks.Nodup)(h64:ks.length<64)(h:∀(a:nH) (e:Nat) (h':oQ) (tk:Nat) (vs:List mz) (p:List Nat),s.heap.objs.size<=a->Pl ks p->Pv vs->(∀b o,s.heap.get? b=Gc o->h'.get? b=Gc o)->h'.get? a=Gc (seqObj "list" (p.map λi=>vs.getD i .none).toArray e)->Q (.ref a) {s with heap:=h',toks:=tk}):wpAny (model prog w) A (call (.builtin "sorted") [r]) Q E s:=by
 refine tH zX yg yh (yi _) ?_
 unfold qK.«sorted»
 refine Wp (m:=checkCount "sorted" 1 1 _) (m9 (Wp (hc _ _ _ (by simp[hh]) λh1 tk vs kp lz pv kt=>Wp (tR ?_ ?_))))
 .have at1:(h1.push (seqObj "list" vs.toArray 0)).get? h1.objs.size=Gc (seqObj "list" vs.toArray 0):=nM _ rfl
  have vl:vs.length<64:=by rw[kt.length];exact h64
  show wpAny _ _ _ _ _ {s with heap:=h1.push (seqObj "list" vs.toArray 0),toks:=tk}
  have kt1:Hw (h1.push (seqObj "list" vs.toArray 0)) vs ks:=kt.keep λb o e _=>my _ e
  refine Wp (oq (oW xI ⟨_,at1,rfl⟩ wY (L6 (s:={s with heap:=h1.push (seqObj "list" vs.toArray 0),toks:=tk}) at1 kt1 nd vl λp pl=>⟨_,rfl,m9 ⟨_,rfl,?_⟩⟩) (xJ _)))
  obtain⟨e,he⟩:=sortedHeap_at (out:=(p.map λi=>vs.getD i .none).toArray) at1
  have k2:∀b o,h1.get? b=Gc o->(sortedHeap (h1.push (seqObj "list" vs.toArray 0)) h1.objs.size vs (p.map λi=>vs.getD i .none).toArray).get? b=Gc o:=λb o q=>by
   have lb:=nS q
   rw[sortedHeap_old (nV lb) (by rw[oJ];exact pX lb)]
   exact my _ q
  exact h _ e _ tk vs p lz pl pv (λb o q=>k2 b o (kp b o q)) he
 .rw[kt.length]
  exact nL (qJ h64) (by decide)
end
end Mi
end
noncomputable section
namespace Mi
open PySem PySem.Spec L2 PyProof.Rows
structure Lo(X:Cx)(pins:List (nH×Obj))(lo:nH):Prop where
 s0:X.s₀.heap.objs.size<=lo
 loc:X.env.locals<lo
 cel:∀x c,X.env.cells.lookup x=Gc c->c<lo
 pin:∀p∈X.pn++pins,p.1<lo
section
variable{X:Cx}{pins:List (nH×Obj)}{σ:List (nB V)}{H:Hp}{s:m8}
theorem _root_.L2.Inv.lo(I:Inv X pins σ H s):Lo X pins s.heap.objs.size:=⟨I.sz,I.lt,λx c e=>by
 obtain⟨v,o,ho,_⟩:=I.cell x c e
 exact nS ho,λp hp=>nS (I.pin p hp).1⟩
theorem _root_.L2.Inv.adopt(I:Inv X pins σ H s){lo a:nH}{o:HO}(b:Lo X pins lo)(la:lo<=a)(hn:H a=none)(new:Dr X.prog X.w (upd H a o) s.heap a o):Inv X pins σ (upd H a o) s:=by
 have ne:∀b u,H b=Gc u->b≠a:=λb u e z=>by rw[z,hn]at e;cases e
 refine I.step (g':=s.gens) (d':=s.drawn) (t':=s.toks) (h':=s.heap) (ch:=[a]) (λb' hb=>?_) (λ_ _ _ _ _ e _=>e) (λb o _ _ _ e _=>⟨o.slots,e⟩) (λb o hc e n=>?_)
  (λb o _ e=>⟨o,e⟩) (λb xs e=>by rw[AY (ne b _ e)];exact e) (λb o u e=>by rw[AY (ne b _ e)];exact e) (λb ps e=>⟨#[],by rw[AY (ne b _ e),e];simp⟩) (λ_ m=>m) (λb u e=>?_) I.bare
 .have e:b'=a:=by simpa using hb
  subst e
  exact⟨.inr (nL b.s0 la),sg (nE b.loc la),λx c e=>nV (nE (b.cel x c e) la),λp hp=>nV (nE (b.pin p hp) la)⟩
 .rw[AY (λz=>hc (by simp[z]))];exact n
 .by_cases hb:b=a
  .subst hb;rw[Ay]at e;cases e;exact new
  .rw[AY hb]at e
   exact(I.hok b u e).We (λc v _ q=>q) (λc q=>by rw[AY (ne c _ q)];exact q) λc xs q=>by rw[AY (ne c _ q)];exact q
theorem _root_.L2.Inv.Up{lo:nH}(b:Lo X pins lo):∀(l:List (nH×List V)) {H:Hp},Inv X pins σ H s->(l.map (·.1)).Nodup->(∀p∈l,lo<=p.1/\H p.1=none/\p.2.length<=sizeLine/\∃its:List mz,Vals p.2 its/\IsTup s.heap p.1 its.toArray)->∃H',Inv X pins σ H' s/\(∀c o,H c=Gc o->H' c=Gc o)/\(∀p∈l,H' p.1=Gc (.tup p.2))/\∀c,c∉l.map (·.1)->H' c=H c
 | [],H,I,_,_=>⟨H,I,λ_ _ e=>e,λp hp=>(by cases hp),λ_ _=>rfl⟩
 |(a,xs)::l,H,I,nd,h=>by
  obtain⟨h1,h2,h3,its,h4,h5⟩:=h (a,xs) nO
  rw[nR,qN]at nd
  have I1:=I.adopt (o:=.tup xs) b h1 h2 ⟨h3,its,h4,h5⟩
  have g1:=Fi (o:=.tup xs) h2
  obtain⟨H',a1,a2,a3,a4⟩:=L2.Inv.Up b l I1 nd.2 λp hp=>by
   obtain⟨k1,k2,k3,k4⟩:=h p (nC _ hp)
   refine⟨k1,?_,k3,k4⟩
   rw[AY (λz=>nd.1 (by rw[<-z];exact List.mem_map_of_mem hp))]
   exact k2
  refine⟨H',a1,λc o e=>a2 c o (g1 c o e),λp hp=>?_,λc hc=>?_⟩
  .rcases nK.mp hp with rfl|hp
   .exact a2 _ _ Ay
   .exact a3 p hp
  .rw[nR]at hc
   rw[a4 c λz=>hc (nC _ z),AY λz=>hc (by rw[z];exact nO)]
end
noncomputable def au:D->nB Int
 | .tup (.int k::_)=>Gc k
 |_=>none
noncomputable def Pj:List D->nB (List Int)
 | []=>Gc []
 |d::ds=>(au d).bind λk=>(Pj ds).map (k:: ·)
noncomputable def Wo(ks:List Int)(ds:List D):List D:=((ks.zip ds).mergeSort λa b=>decide (a.1<=b.1)).map (·.2)
theorem Z5{ks:List Int}{ds:List D}(nd:ks.Nodup){a b:Int×D}(ha:a∈ks.zip ds)(hb:b∈ks.zip ds)(e:a.1=b.1):a=b:=by
 obtain⟨i,hi,rfl⟩:=se.mp ha
 obtain⟨j,hj,rfl⟩:=se.mp hb
 have:i=j:=by
  simp only[zQ]at e
  exact(sf nd).mp e
 subst this;rfl
theorem Mj{ks:List Int}{ds:List D}(nd:ks.Nodup){l:List (Int×D)}(p:l.Perm (ks.zip ds))(s:l.Pairwise λa b=>a.1<b.1):Wo ks ds=l.map (·.2):=by
 unfold Wo
 congr 1
 have h1:=xY (ks.zip ds) λa b=>decide (a.1<=b.1)
 have h2:=vt (le:=λ(a b:Int×D)=>decide (a.1<=b.1)) (λa b c h1 h2=>by simp at *; lia) (λa b=>by simp;lia) (ks.zip ds)
 refine List.Perm.eq_of_pairwise (le:=λa b=>a.1<=b.1) (λa b ha hb e1 e2=>?_) (h2.imp λh=>nT h) (s.imp λh=>Int.le_of_lt h) (h1.trans p.symm)
 exact Z5 nd (h1.mem_iff.mp ha) (p.mem_iff.mp hb) (Int.le_antisymm e1 e2)
theorem Wy{ks:List Int}{ds:List D}{p:List Nat}(h:Pl ks p)(nd:ks.Nodup)(hl:ds.length=ks.length):Wo ks ds=p.map λi=>ds.getD i .non:=by
 rw[Mj (l:=p.map λi=>(ks.getD i 0,ds.getD i .non)) nd ?_ ?_,oS]
 .rfl
 .have:ks.zip ds=(oF ks.length).map λi=>(ks.getD i 0,ds.getD i .non):=by
   apply rX
   .simp[hl]
   .intro i i1 i2
    have:i<ks.length:=by simp at i2;exact i2
    simp[this,hl]
  rw[this]
  exact h.pm.map _
 .have:=h.so
  rw[uL]at this⊢
  exact this
theorem Ai.pl{K:mx}{M:Ms}{H:Hp}{vs:List V}{ds:List D}(r:Ai K M H vs ds):∀{p:List Nat},(∀i∈p,i<ds.length)->Ai K M H (p.map λi=>vs.getD i .non) (p.map λi=>ds.getD i .non)
 | [],_=>.nil
 |i::p,h=>by
  rw[nR,nR]
  refine .cons ?_ (Ai.pl r λj hj=>h j (nC _ hj))
  have hi:=h i nO
  obtain⟨x,h1,h2⟩:=r.get (nN hi)
  simp only[nJ,h1,nN hi,zF]
  exact h2
theorem Vals.pl{vs:List V}{us:List mz}(r:Vals vs us):∀{p:List Nat},Vals (p.map λi=>vs.getD i .non) (p.map λi=>us.getD i .none)
 | []=>.nil
 |i::p=>by
  rw[nR,nR]
  refine .cons ?_ (Vals.pl r)
  cases e:vs[i]? with
  |none=>
   have:us[i]?=none:=by rw[tF]at e ⊢; rw[<-r.length];exact e
   simp only[nJ,e,this]
   rfl
  |some x=>
   obtain⟨u,h1,h2⟩:=r.get e
   simp only[nJ,e,h1]
   exact h2
theorem b9{X:Cx}{pins:List (nH×Obj)}{σ:List (nB V)}{H:Hp}{s:m8}{M:Ms}(I:Inv X pins σ H s):∀{vs:List V} {ds:List D} {ks:List Int} {us:List mz},Ai X.K M H vs ds->Pj ds=Gc ks->Vals vs us->Hw s.heap us ks
 |_,_,ks,us,.nil,e,v=>by cases e;cases v;trivial
 |_,_,ks,us,.cons (d:=d) h t,e,v=>by
  obtain⟨k,e1,e⟩:=Am e
  obtain⟨ks',e2,e⟩:=Iu e
  cases e
  cases v with
  |cons r1 r2=>
   refine⟨?_,b9 I t e2 r2⟩
   unfold au at e1
   split at e1
   .cases e1
    cases h with
    |tup sq rr=>
     cases (show _=oX _ from r1)
     cases rr with
     |cons rk rr=>
      cases rk
      obtain⟨its,rv,⟨o,ho,hc,n,hd⟩,_⟩:=I.tuple sq
      cases rv with
      |cons q1 q2=>
       obtain⟨t,rfl⟩:=(show∃t,_=tY _ t from q1)
       exact⟨_,o,_,n,t,rfl,ho,hc,hd,by simp⟩
   .cases e1
theorem PY:∀{ds:List D} {ks:List Int},Pj ds=Gc ks->ks.length=ds.length
 | [],ks,e=>by cases e;rfl
 |d::ds,ks,e=>by
  obtain⟨k,e1,e⟩:=Am e
  obtain⟨ks',e2,e⟩:=Iu e
  cases e
  simp[PY e2]
noncomputable def Q8:Op1:=λw=>(asL w).bind λds=>(Pj ds).bind λks=>if ks.length<64/\ks.Nodup then Gc (.own (Wo ks ds))else none
theorem Rf{X:Cx}(hc:X.calm=true):Dl X (.builtin "sorted") (rN X.K (o1 Q8)):=by
 intro pins s σ H xs us Q I r h
 obtain⟨M,ws,w,e,mo,sh,q⟩:=h
 obtain⟨v,w1,rfl,rfl,s1,e1⟩:=GY sh e
 obtain⟨ds,e2,e1⟩:=Am e1
 obtain⟨ks,e3,e1⟩:=Am e1
 split at e1
 .rename_i hz
  cases e1
  obtain⟨a,ys,rfl,h3,h4⟩:=s1.l e2
  obtain⟨u,rfl,ru⟩:=r.one
  cases (show u=oX a from ru)
  obtain⟨its,rv,pl,hl⟩:=I.list (X:=X) (.of h3)
  have kl:=PY e3
  have i64:its.length<64:=by rw[<-rv.length,h4.length,<-kl];exact hz.1
  have kp1:∀b o,s.heap.get? b=Gc o->((s.heap.push (seqObj "list" #[] 0)).update s.heap.objs.size (oV λx=>x++its.toArray)).get? b=Gc o:=λb o e=>by
   have lb:=nS e
   rw[Heap.get?_update_ne _ _ _ _ (nV lb)]
   exact my _ e
  refine QE (ks:=ks) (Pv:=λvs=>vs=its) (I.ok.hd hc) (λA' Q' E' _ hq=>collect_list pl.isList (hq _ s.toks its kp1 ?_ rfl ((b9 I h4 e3 rv).keep λb o e _=>kp1 b o e)) (nL (qJ i64) (by decide))) hz.2 hz.1 λa e h' tk vs p la pl' ev kp he=>?_
  .rw[zK,size_push'];exact rC _
  .subst ev
   have hn:H a=none:=I.hok.fresh la
   have pb:∀i∈p,i<ds.length:=λi hi=>by
    have:=pl'.pm.mem_iff.mp hi
    rw[<-kl];simpa using this
   refine⟨.ref _,_,I.laid (a:=a) (o:=.lst (p.map λi=>ys.getD i .non)) (t':=tk) kp la ?_,rfl,?_⟩
   .refine⟨?_,_,e,Vals.pl rv,he⟩
    rw[oG,pl'.pm.length_eq,vV]
    have:(64:Nat)<=sizeLine:=by decide
    lia
   .refine q _ _ ?_
    rw[Wy pl' hz.2 kl.symm]
    exact .lst mo hn (h4.pl pb)
 .cases e1
end Mi
end
noncomputable section
namespace Mi
open PySem PySem.Spec L2 PyProof.Rows
structure M0(X:Cx)(o:oI)(m:Str)(apos cpos:Pos):Prop where
 base:attributeBase o m X.env (eval o X.env)=eval o X.env
 line:(apos.endLine==cpos.line)=true
theorem iJ{P:nq}{w:oN}{k:Key}{v:mz}(h:(B8 P w).is k v=true):RelV (kV k) v:=by
 rcases Bk h with⟨i,t,rfl,rfl⟩|⟨x,t,rfl,rfl⟩
 .exact⟨t,rfl⟩
 .exact⟨t,rfl⟩
def Nl(H:Hp):List nH->List (Key×V)->Prop
 | [],[]=>z6
 |a::as,(k,v)::r=>H a=Gc (.tup [kV k,v])/\Nl H as r
 |_,_=>sH
theorem Yh:∀{kvs:List (Key×V)} {vs:List (Key×mz)} {j:Nat} {k:Key} {x:mz},KV kvs vs->vs[j]?=Gc (k,x)->∃v,kvs[j]?=Gc (k,v)/\RelV v x
 |_,_,j,k,x,.nil,e=>by simp at e
 |_,_,0,k,x,.cons (a:=a) h t,e=>by
  obtain⟨k',v⟩:=a
  simp at e;subst e
  obtain⟨h1,h2⟩:=h
  dsimp only at h1 h2
  subst h1
  exact⟨v,rfl,h2⟩
 |_,_,j+1,k,x,.cons h t,e=>by
  obtain⟨v,h1,h2⟩:=Yh (j:=j) t (by simpa using e)
  exact⟨v,by simpa using h1,h2⟩
theorem MR{H:Hp}:∀{as:List nH} {kvs:List (Key×V)},as.length=kvs.length->(∀p∈as.zip (kvs.map λkv=>[kV kv.1,kv.2]),H p.1=Gc (.tup p.2))->Nl H as kvs
 | [],[],_,_=>trivial
 | [],_::_,h,_=>by simp at h
 |_::_,[],h,_=>by simp at h
 |a::as,(k,v)::r,h,z=>⟨z (a,[kV k,v]) (by simp),MR (by simpa using h) λp hp=>z p (by rw[nR,vH];exact nC _ hp)⟩
theorem PC:∀as:List nH,Vals (as.map V.ref) (as.map oX)
 | []=>.nil
 |_::r=>.cons rfl (PC r)
theorem jL{X:Cx}{o:oI}{td:TE}{p pos apos cpos:Pos}(hc:X.calm=true)(hgl:Gl X "list")(hml:X.mg "list"=none)(ho:PE X o td)(m:M0 X o "items" apos cpos)(hs2:nv [zL (.Attribute o "items" apos) [] [] cpos] X.env=[(false,eval (.Call (.Attribute o "items" apos) [] [] cpos) X.env)]:=by rfl):PE X (.Call (.Name "list" p) [.Call (.Attribute o "items" apos) [] [] cpos] [] pos) (λσ H Q=>td σ H λx H1=>∃(a:nH) (kvs:List (Key×V)),x=.ref a/\H1 a=Gc (.dK kvs)/\∀H2 q as,(∀b u,H1 b=Gc u->H2 b=Gc u)->Nl H2 as kvs->H2 q=none->Q (.ref q) (upd H2 q (.lst (as.map V.ref)))):=by
 intro pins s σ H Q I h
 refine qm (JW I hgl hml zM ?_ (by decide) (by decide))
 refine qI ?_ hs2 rfl
 rw[hs2]
 show wpAny _ _ (spliced ((false,eval (.Call (.Attribute o "items" apos) [] [] cpos) X.env)::backTo pos [])) _ _ s
 refine qy ?_
 refine yV (T:="dict") (id:="dict.items") m.base rfl m.line vo v5 PySem.F.type_dict_items (thn (ho pins s σ H _ I h) λu s1 ⟨x,H1,I1,rx,a,kvs,ex,ha,q⟩=>?_)
 subst ex
 obtain rfl:u=oX a:=rx
 obtain⟨t1,t2,t3⟩:=Yc I1 (.inl ⟨kvs,.inl ha⟩)
 refine⟨t1,t2,?_⟩
 obtain⟨z,hd,vs,rel,dd⟩:=Wd I1.hok ha
 show wpAny _ _ (callWith cpos (.builtin "dict.items") [.ref a] [] []) _ _ s1
 refine PySem.method_meetsIn v5 PySem.F.entry_dict_items rfl (PyProof.Rows.evalArgs_none ⟨rfl,dd.typeIs,PySem.F.args_dict_items_1 _,_,meets_dict_items (B8 X.prog X.w) a hd,⟨vs,dd⟩,?_⟩)
 refine sY ?_
 obtain⟨ep,da⟩:=dd.dictAt
 generalize hvw:({cls:=.type "dict_items",data:=.fields #[.ref a]}:Obj)=vw
 have hv:(s1.heap.push vw).IsItemsView s1.heap.objs.size a:=⟨vw,nM _ (by subst hvw;rfl),by subst hvw;rfl,by subst hvw;rfl⟩
 have hn:vs.length<=sizeLine:=by rw[<-rel.length];exact z
 refine PySem.W.kdx_call (s:={s1 with heap:=s1.heap.push vw}) (I1.ok.hd hc) hv (da.push vw) hn λh' tk acc c as kp hl hlen G hacc=>?_
 have kp1:∀b o,s1.heap.get? b=Gc o->h'.get? b=Gc o:=λb o e=>kp b o (my _ e)
 have I2:=I1.kept (h':=h') (t':=tk) kp1
 have lo:=I1.lo
 have sz:(s1.heap.push vw).objs.size=s1.heap.objs.size+1:=oJ ..
 have hlk:as.length=kvs.length:=by rw[hlen,rel.length]
 have ab:∀b∈as,s1.heap.objs.size<=b:=λb hb=>by
  have:=G.above b hb
  have e:(s1.heap.push vw).objs.size<b:=this
  rw[sz]at e
  exact qJ (r9 (qS _) e)
 have nd:as.Nodup:=G.rise.imp λh=>nV h
 obtain⟨H2,a1,a2,a3,a4⟩:=L2.Inv.Up lo (as.zip (kvs.map λkv=>[kV kv.1,kv.2])) I2 (by rw[v7 (by simp[hlk])];exact nd) λp hp=>by
  obtain⟨j,hj,rfl⟩:=se.mp hp
  have hj1:j<as.length:=by rw[List.length_zip,oG]at hj;lia
  have hj2:j<kvs.length:=by rw[<-hlk];exact hj1
  obtain⟨key,k,x,e1,e2,e3⟩:=G.pairs j as[j] (nN hj1)
  obtain⟨v,e4,e5⟩:=Yh rel e1
  have e6:kvs[j]=(k,v):=by rw[nN hj2]at e4;exact pD e4
  simp only[zQ,List.getElem_map,e6]
  refine⟨ab _ (qT hj1),I1.hok.fresh (ab _ (qT hj1)),(show 2<=sizeLine by decide),[key,x],.cons (iJ e2) (.cons e5 .nil),_,e3,rfl,0,rfl⟩
 have pa:=MR (H:=H2) hlk a3
 have hq:H2 (s1.heap.objs.size+1)=none:=by
  rw[a4,I1.hok.fresh (rC _)]
  rw[v7 (by simp[hlk])]
  intro z
  have e:(s1.heap.push vw).objs.size<s1.heap.objs.size+1:=G.above _ z
  rw[sz]at e
  exact pL _ e
 have hl':h'.get? (s1.heap.objs.size+1)=Gc {cls:=.type "list",dict:=none,data:=.seq acc c,slots:= #[]}:=by rw[<-sz];exact hl
 show∃v H',Inv X pins σ H' _/\RelV v (oX (s1.heap.push vw).objs.size)/\Q v H'
 rw[sz]
 refine⟨.ref (s1.heap.objs.size+1),_,a1.adopt (o:=.lst (as.map V.ref)) lo (rC _) hq ⟨by rw[oG,hlen];exact hn,acc.toList,c,?_,by rw[rD];exact hl'⟩,rfl,q H2 _ as a2 pa hq⟩
 rw[hacc]
 exact PC as
noncomputable def MH:List (Key×D)->List D:=List.map λkd=>.tup [match kd.1 with| .inl i=>.int i| .inr x=>.str x,kd.2]
noncomputable def eLI(c:oO)(f:Ev):Ev:=λE S=>(f E S).bind λa=>(QF a.2 a.1).bind λes=>fin c (.own (MH es)) a.2
theorem OH{K:mx}{M:Ms}{H:Hp}:∀{kvs:List (Key×V)} {es:List (Key×D)},Bo K M H kvs es->∀{as:List nH},Nl H as kvs->Ai K M H (as.map V.ref) (MH es)
 |_,_,.nil,as,h=>by
  cases as with
  |nil=>exact .nil
  |cons a as=>exact h.elim
 |_,_,.cons (k:=k) r t,as,h=>by
  cases as with
  |nil=>exact h.elim
  |cons a as=>
   refine .cons (.tup (.of h.1) (.cons ?_ (.cons r .nil))) (OH t h.2)
   cases k with
   |inl i=>exact .int i
   |inr x=>exact .str x
theorem gm{X:Cx}{o:oI}{f:Ev}{c:oO}{p pos apos cpos:Pos}(hc:X.calm=true)(hgl:Gl X "list")(hml:X.mg "list"=none)(ho:DE X o f)(m:M0 X o "items" apos cpos)(hs2:nv [zL (.Attribute o "items" apos) [] [] cpos] X.env=[(false,eval (.Call (.Attribute o "items" apos) [] [] cpos) X.env)]:=by rfl):DE X (.Call (.Name "list" p) [.Call (.Attribute o "items" apos) [] [] cpos] [] pos) (eLI c f):=⟨
 BI (jL hc hgl hml ho.pe m hs2) λσ H Q z=>by
  obtain⟨M,E,S,d,S',e,r,st,q⟩:=z
  obtain⟨⟨w,S1⟩,e1,e⟩:=Am e
  obtain⟨es,ed,e⟩:=Am e
  refine⟨M,E,S,w,S1,e1,r,st,λv H1 M1 g1 st1 d1=>?_⟩
  obtain⟨a,kvs,rfl,h,rk⟩:=Oj st1 d1 ed
  refine⟨a,kvs,rfl,h,λH2 p as kp pa hp=>?_⟩
  have st2:=st1.grow kp
  obtain⟨M2,g2,st3,d2⟩:=(Nw.lst st2.mo hp (OH (rk.step (Gr.grow st1.mo kp).st) pa)).fin st2 e
  exact q _ _ M2 (g1.trans ((Gr.grow st1.mo kp).trans g2)) st3 d2⟩
end Mi
end
noncomputable section
namespace Mi
open PySem PySem.Spec L2
section
open PyProof.Rows (boot_isinstance boot_int boot_bool boot_tuple boot_str boot_list boot_abs boot_all boot_any boot_sum boot_max boot_min boot_range boot_enumerate boot_zip boot_sorted boot_set boot_divmod)
noncomputable def Hj:D:=.tup [.int 0,.int 1]
noncomputable def TR:D:=.tup [.int 1,.int 1]
noncomputable def BP:D:=.tup [.str "bring",.str "pool",.str "swap",.str "trade"]
def Jx:Ex:=(Bq (Lk (eOp (o2 br) [eV 0,eC (.ty "int")]) (aq (eOp (o2 br) [eV 0,eC (.ty "bool")]))))
def Hk:Fn:=BD (BH 1 Jx)
def Ll:Ex:=(Bq (Lk (AM Hk [eV 0]) (eOp (o2 wGe) [eV 0,eV 1])))
def IY:Fn:=BD (BH 2 Ll)
def JH:Ex:=(Bq (Lk (AM IY [eV 0,eV 1]) (eOp (o2 wLe) [eV 0,eV 2])))
def Ge:Fn:=BD (BH 3 JH)
def Eg:Ex:=(Ag (Nm 0 1 (eOp (o1 bB) [eV 0]) (eOp (o1 bB) [eV 1]))
    (Ag (PV (Rz 1) (eOp (o2 wNe) [eV 1,eI 0]) (Nm 0 1 (eV 1) (eOp (o2 Pa) [eV 0,eV 1])))
    (Bq (eV 0))))
def B4:Fn:=BD (BH 2 Eg)
def MZ:Ex:=(Ag (CC 2 (AM B4 [eV 0,eV 1]))
    (Bq (CY [eOp (o2 OA) [eV 0,eV 2],eOp (o2 OA) [eV 1,eV 2]])))
def GG:Fn:=BD (BH 3 MZ)
def OE:Ex:=(Ag (CC 4 (eOp (o2 Dt) [eOp (o2 EZ) [eOp (o2 EZ) [eIx (eV 0) (eI 0),eIx (eV 2) (eI 1)],eV 1],eOp (o2 EZ) [eOp (o2 EZ) [eIx (eV 2) (eI 0),eIx (eV 0) (eI 1)],eV 3]]))
    (Bq (AM GG [eV 4,eOp (o2 EZ) [eOp (o2 EZ) [eIx (eV 0) (eI 1),eIx (eV 2) (eI 1)],eOp (o2 Dt) [eV 1,eV 3]]])))
def Ha:Fn:=BD (BH 5 OE)
def IL:Ex:=(Bq (Lk (eOp (o2 wLt) [eV 1,eOp (o1 Gu) [eV 0]]) (eOp (o2 wGe) [eIx (eIx (eV 0) (eV 1)) (eI 1),eV 2])))
def B1:Fn:=BD (BH 3 IL)
def Jy:Ex:=(Bq (Lk (AM B1 [eV 0,eV 1,eI 1]) (Lk (AM B1 [eV 0,eV 2,eI 1]) (eOp (o2 wEq) [eIx (eIx (eV 0) (eV 1)) (eI 0),eIx (eIx (eV 0) (eV 2)) (eI 0)]))))
def Fj:Fn:=BD (BH 3 Jy)
def J7:Ex:=(Bq (Lk (AM B1 [eV 0,eV 1,eV 2]) (eOp (o2 wNe) [eIx (eIx (eV 0) (eV 1)) (eI 0),eV 3])))
def ES:Fn:=BD (BH 4 J7)
def DJ:Ex:=(Ag (CC 3 (eIx (eV 2) (eI 0)))
    (Ag (xIf (eOp (o2 wEq) [eV 3,eC (.str "pool")]) (Bq (AM Fj [eV 0,eIx (eV 2) (eI 1),eIx (eV 2) (eI 2)])) Ed)
    (Ag (xIf (eOp (o2 wEq) [eV 3,eC (.str "swap")]) (Bq (AM ES [eV 0,eIx (eV 2) (eI 1),eIx (eV 2) (eI 2),eIx (eV 2) (eI 3)])) Ed)
    (Ag (xIf (eOp (o2 wEq) [eV 3,eC (.str "trade")]) (Ag (CC 4 (FK [] 1 (IP (eV 1)) (tNm 0) (eOp (o2 wEq) [eIx (eV 0) (eI 0),eC (.str "trade")]) (eIx (eV 0) (eI 1))))
    (Bq (Lk (eOp (o2 (wIn true)) [eIx (eV 2) (eI 1),eV 4]) (AM ES [eV 0,eIx (eV 2) (eI 2),eIx (eV 2) (eI 3),eIx (eV 2) (eI 4)])))) Ed)
    (Ag (xIf (eOp (o2 (wIn false)) [eV 3,CY [eC (.str "spoil"),eC (.str "throw")]]) (Bq (AM B1 [eV 0,eIx (eV 2) (eI 1),eIx (eV 2) (eI 2)])) Ed)
    (Bq (eC (.bl true))))))))
def CB:Fn:=BD (BH 5 DJ)
def Gv:Ex:=(Ag (P7 (tTp [tNm 3,tNm 4]) (eIx (eV 0) (eV 1)))
    (Bq (eOp (o2 Dt) [eOp (o2 Dt) [eOp (MQ false true) [eV 0,eV 1],G8 [CY [eV 3,eOp (o2 R6) [eV 4,eV 2]]]],eOp (MQ true false) [eV 0,eOp (o2 Dt) [eV 1,eI 1]]])))
def BY:Fn:=BD (BH 5 Gv)
def BR:Ex:=(Ag (CC 2 (eIx (eV 1) (eI 0)))
    (Ag (xIf (eOp (o2 wEq) [eV 2,eC (.str "bring")]) (Bq (eOp (o2 Dt) [eV 0,G8 [CY [eIx (eV 1) (eI 2),eIx (eV 1) (eI 3)]]])) Ed)
    (Ag (xIf (eOp (o2 wEq) [eV 2,eC (.str "pool")]) (Ag (P7 (tTp [tNm 3,tNm 4]) (eIx (eV 0) (eIx (eV 1) (eI 1))))
    (Ag (CC 5 (eIx (eIx (eV 0) (eIx (eV 1) (eI 2))) (eI 1)))
    (Bq (eOp (o2 Dt) [AM BY [AM BY [eV 0,eIx (eV 1) (eI 1),eV 4],eIx (eV 1) (eI 2),eV 5],G8 [CY [eV 3,eOp (o2 Dt) [eV 4,eV 5]]]])))) Ed)
    (Ag (xIf (eOp (o2 (wIn false)) [eV 2,CY [eC (.str "swap"),eC (.str "trade")]]) (Ag (P7 (tTp [tNm 6,tNm 7,tNm 3,tNm 8]) (eOp (MQ true false) [eV 1,eOp (o1 R3) [eI 4]]))
    (Bq (eOp (o2 Dt) [AM BY [eV 0,eV 6,eV 7],G8 [CY [eV 3,eV 8]]]))) Ed)
    (Ag (xIf (eOp (o2 (wIn false)) [eV 2,CY [eC (.str "spoil"),eC (.str "throw")]]) (Bq (AM BY [eV 0,eIx (eV 1) (eI 1),eIx (eV 1) (eI 2)])) Ed)
    (Bq (eV 0)))))))
def Af:Fn:=BD (BH 9 BR)
def GD:Ex:=(Bq (FK [] 1 (IP (eIx (eV 0) (eI 1))) (tNm 0) DM (CY [eIx (eV 0) (eI 0),eIx (eV 0) (eI 1)])))
def Bj:Fn:=BD (BH 1 GD)
def DR:Ex:=(Ag (CC 1 (eIx (eV 0) (eI 0)))
    (Ag (xIf (eOp (o2 wEq) [eV 1,eC (.str "pool")]) (Bq (eOp (o1 K2) [G8 [eIx (eV 0) (eI 1),eIx (eV 0) (eI 2)]])) Ed)
    (Ag (xIf (eOp (o2 (wIn false)) [eV 1,CY [eC (.str "swap"),eC (.str "trade")]]) (Bq (G8 [eIx (eV 0) (eOp (o1 R3) [eI 4])])) Ed)
    (Bq (G8 [])))))
def Bt:Fn:=BD (BH 2 DR)
def HD:Ex:=(Ag (CC 1 (AM Bj [eV 0]))
    (Ag (CC 2 (eIx (eV 0) (eI 2)))
    (Ag (Kn (ax (eV 2)) (tTp [tNm 3,tNm 4]) (Ag (xIf (aq (AM CB [eV 1,eOp (MQ false true) [eV 2,eV 3],eV 4])) (Bq (eV 3)) Ed)
    (CC 1 (AM Af [eV 1,eV 4]))))
    (Bq (eC .non)))))
def DX:Fn:=BD (BH 5 HD)
def F9:Ex:=(Ag (CC 1 (AM DX [eV 0]))
    (xIf (eOp (o2 (fQ true)) [eV 1,eC .non]) SO Ed))
def B7:Fn:=BD (BH 2 F9)
def IE:Ex:=(Bq (eOp (o1 Fd) [FK [1] 1 (Ly [eV 0]) (tNm 1) DM (eIf (eOp (o2 wEq) [eV 1,eV 0]) (eC TR) (eC Hj))]))
def Bi:Fn:=BD (BH 2 IE)
def Gx:Ex:=(Bq (eOp (o1 Fd) [FK [1,3] 2 (bA (eV 0) (eV 2)) (tTp [tNm 2,tNm 3]) DM (AM Ha [eV 2,eV 0,eV 3,eV 1])]))
def C0:Fn:=BD (BH 4 Gx)
def Ci:Ex:=(Ag (CC 3 (AM Bt [eV 2]))
    (Ag (xIf (eOp (o2 wEq) [eOp (o1 Gu) [eV 3],eI 1]) (Bq (eIx (eV 1) (eIx (eV 3) (eI 0)))) Ed)
    (Ag (P7 (tTp [tNm 4,tNm 5]) (eV 3))
    (Bq (AM C0 [eIx (eV 1) (eV 4),eIx (eIx (eV 0) (eV 4)) (eI 1),eIx (eV 1) (eV 5),eIx (eIx (eV 0) (eV 5)) (eI 1)])))))
def A5:Fn:=BD (BH 6 Ci)
def Gn:Ex:=(Ag (xIf (eOp (o2 wLt) [eV 1,eOp (o1 Gu) [eV 0]]) (Bq (eIx (eV 0) (eV 1))) Ed)
    (Bq (eI 0)))
def Cr:Fn:=BD (BH 2 Gn)
def OI:Ex:=(Bq (Ie [eV 0,eOp (o1 Zj) [eOp (o2 wGe) [eV 0,eOp (o2 fI) [eI 10,eI 18]]],eI 0,eOp (o2 Pa) [eV 0,eI 1000000007]]))
def HP:Fn:=BD (BH 1 OI)
def Hu:Ex:=(Ag (xIf (Lk (eOp (o2 wEq) [eIx (eV 0) (eI 1),eI 1]) (eOp (o2 wGt) [eIx (eV 0) (eI 0),eI 0])) (Ag (CC 2 (eOp (o2 Pa) [eIx (eV 0) (eI 0),eV 1]))
    (Ag (OB (eOp (o2 OA) [eIx (eV 0) (eI 0),eV 1]) (eV 0) (eI 0))
    (Bq (eV 2)))) Ed)
    (Ag (OB (eOp (o2 Dt) [eIx (eV 0) (eI 2),eI 1]) (eV 0) (eI 2))
    (Ag (CC 3 (eOp (o2 Pa) [eOp (o2 EZ) [eOp (o2 Dt) [eIx (eV 0) (eI 3),eI 17],eOp (o2 Dt) [eI 69621,eOp (o2 EZ) [eI 2,eIx (eV 0) (eI 2)]]],eI 2147483647]))
    (Ag (CC 3 (eOp (o2 Pa) [eOp (o2 Dt) [eOp (o2 Dt) [eOp (o2 EZ) [eV 3,eV 3],eOp (o2 EZ) [eI 40503,eIx (eV 0) (eI 2)]],eI 5],eI 2147483629]))
    (Bq (eOp (o2 Pa) [eOp (o2 OA) [eOp (o2 Pa) [eOp (o2 EZ) [eV 3,eI 48271],eI 2147483647],eI 32],eV 1]))))))
def AK:Fn:=BD (BH 4 Hu)
def KH:Ex:=(Ag (PV (Rz 1) (eOp (o2 wGt) [eV 1,eI 0]) (Nm 0 1 (eV 1) (eOp (o2 Pa) [eV 0,eV 1])))
    (Bq (eV 0)))
def Fp:Fn:=BD (BH 2 KH)
def Mp:Ex:=(Ag (CC 2 (AM Fp [eOp (o1 bB) [eV 0],eV 1]))
    (Bq (CY [eOp (o2 OA) [eV 0,eV 2],eOp (o2 OA) [eV 1,eV 2]])))
def BL:Fn:=BD (BH 3 Mp)
def Mq:Ex:=(Bq (AM BL [eOp (o2 Dt) [eOp (o2 EZ) [eIx (eV 0) (eI 0),eIx (eV 1) (eI 1)],eOp (o2 EZ) [eIx (eV 1) (eI 0),eIx (eV 0) (eI 1)]],eOp (o2 EZ) [eIx (eV 0) (eI 1),eIx (eV 1) (eI 1)]]))
def BM:Fn:=BD (BH 2 Mq)
def LC:Ex:=(Bq (AM BL [eOp (o2 EZ) [eIx (eV 0) (eI 0),eIx (eV 1) (eI 0)],eOp (o2 EZ) [eIx (eV 0) (eI 1),eIx (eV 1) (eI 1)]]))
def Ac:Fn:=BD (BH 2 LC)
def MW:Ex:=(Bq (AM BM [eV 0,CY [eOp (o2 R6) [eI 0,eIx (eV 1) (eI 0)],eIx (eV 1) (eI 1)]]))
def DC:Fn:=BD (BH 2 MW)
def IX:Ex:=(Ag (CC 2 (JD [0] 1 (Ly [eV 1]) (tNm 1) DM (eIx (G8 [eI 0,eI 1,AM AK [eV 0,eI 4],AM AK [eV 0,eI 9]]) (AM AK [eV 0,eI 4]))))
    (Ag (xIf (eOp (o2 wEq) [eOp (o1 Yr) [eV 2],eI 0]) (OB (eI 1) (eV 2) (AM AK [eV 0,eV 1])) Ed)
    (Bq (eOp (o1 Fd) [FK [2] 1 (IP (eV 2)) (tNm 1) DM (AM BL [eV 1,eOp (o1 Yr) [eV 0]])]))))
def C6:Fn:=BD (BH 3 IX)
def Hf:Ex:=(Ag (CC 1 (eOp (o2 Dt) [eOp (o2 fI) [eI 10,eI 30],AM AK [eV 0,eI 99]]))
    (Bq (eIx (G8 [eOp (o2 Dt) [eI 1,AM AK [eV 0,eI 4]],eOp (o2 Dt) [eI 1,AM AK [eV 0,eI 40]],eOp (o2 Dt) [eI 1,AM AK [eV 0,eI 999]],eV 1]) (eOp (o2 OA) [AM AK [eV 0,eI 7],eI 2]))))
def BG:Fn:=BD (BH 2 Hf)
def K8:Ex:=(Ag (Nm 1 2 (eOp (o2 Dt) [eI 1,AM AK [eV 0,eI 4]]) (eOp (o2 Dt) [eI 1,AM AK [eV 0,eI 5]]))
    (Ag (CC 3 (eIx (G8 [eOp (o2 Dt) [eI 1,AM AK [eV 0,eI 3]],eOp (o2 Dt) [eI 1,AM AK [eV 0,eI 20]]]) (AM AK [eV 0,eI 2])))
    (Bq (CY [eV 1,eV 2,eV 3,AM C6 [eV 0,eV 1],AM AK [eV 0,eI 10],AM AK [eV 0,eI 10]]))))
def Gp:Fn:=BD (BH 4 K8)
def LF:Ex:=(Ag (CC 2 (Ie []))
    (Ag (Kn (Ly [eIx (G8 [eI 0,eI 1,AM AK [eV 0,eI 5]]) (AM AK [eV 0,eI 3])]) (tNm 3) (Bp (G7 Hx (eV 2) [CY [AM AK [eV 0,eIx (eV 1) (eI 1)],AM BG [eV 0],AM C6 [eV 0,eIx (eV 1) (eI 0)]]])))
    (Bq (eOp (o1 Fd) [eV 2]))))
def Gk:Fn:=BD (BH 4 LF)
def K4:Ex:=(Ag (CC 1 (eOp (o2 Dt) [eI 1,AM AK [eV 0,eI 12]]))
    (Bq (AM BL [eOp (o2 Dt) [eI 1,AM AK [eV 0,eV 1]],eV 1])))
def FF:Fn:=BD (BH 2 K4)
def J8:Ex:=(Bq (eOp (o1 Fd) [FK [0] 1 (Ly [eV 1]) (tNm 1) DM (eOp (o2 Dt) [eI 1,eIx (G8 [AM AK [eV 0,eI 3],AM AK [eV 0,eI 99]]) (AM AK [eV 0,eI 2])])]))
def DH:Fn:=BD (BH 2 J8)
def LG:Ex:=(Bq (Ie [JD [] 1 (IP (eIx (eV 0) (eI 1))) (tNm 0) DM (cN (o1 Pm) [eV 0]),eOp (o1 Fd) [eIx (eIx (eV 0) (eI 0)) (eI 3)],Ie []]))
def D9:Fn:=BD (BH 1 LG)
def J1:Ex:=(Ag (CC 2 (Ie []))
    (Ag (Kn (bA (eIx (eV 0) (eI 2)) (eIx (eV 1) (eI 2))) (tTp [tNm 3,tNm 4]) (Ag (CC 5 (AM BM [AM Ac [CY [eIx (eV 0) (eI 1),eI 1],eV 3],AM Ac [CY [eIx (eV 1) (eI 1),eI 1],eV 4]]))
    (Bp (G7 Hx (eV 2) [AM Ac [eV 5,AM BL [eI 1,eOp (o2 Dt) [eIx (eV 0) (eI 1),eIx (eV 1) (eI 1)]]]]))))
    (Bq (eOp (o1 Fd) [eV 2]))))
def Fm:Fn:=BD (BH 6 J1)
def MU:Ex:=(Ag (CC 3 (eIx (eV 2) (eI 3)))
    (Ag (CC 4 (eOp (o2 Dt) [eOp (o1 Yr) [FK [3] 3 (IP (eV 1)) (tTp [tNm 1,tNm 2,tNm 3]) DM (eOp (o2 EZ) [eV 2,eIx (eV 0) (eV 1)])],eOp (o2 EZ) [eIx (eV 0) (eI 2),eIx (eV 3) (eOp (o1 R3) [eI 1])]]))
    (Bq (AM BL [eOp (o2 EZ) [eIx (eV 2) (eI 2),eIx (eV 3) (eIx (eIx (eV 1) (eIx (eV 2) (eI 1))) (eI 0))],eV 4]))))
def Hv:Fn:=BD (BH 5 MU)
def Kx:Ex:=(Ag (CC 3 (Ie []))
    (Ag (Kn (bA (eV 0) (eV 2)) (tTp [tNm 4,tNm 5]) (Bp (G7 Hx (eV 3) [AM BM [AM Ac [eV 4,AM DC [CY [eI 1,eI 1],eV 1]],AM Ac [eV 5,eV 1]]])))
    (Bq (eOp (o1 Fd) [eV 3]))))
def D8:Fn:=BD (BH 6 Kx)
def MN:Ex:=(Ag (CC 2 (cN (o1 Pm) [eV 0]))
    (Ag (CC 3 (AM Ac [eIx (eV 2) (eIx (eV 1) (eI 1)),eIx (eV 1) (eI 3)]))
    (Ag (OB (AM DC [eIx (eV 2) (eIx (eV 1) (eI 1)),eV 3]) (eV 2) (eIx (eV 1) (eI 1)))
    (Ag (OB (AM BM [eIx (eV 2) (eIx (eV 1) (eI 2)),eV 3]) (eV 2) (eIx (eV 1) (eI 2)))
    (Bq (eOp (o1 Fd) [eV 2]))))))
def Em:Fn:=BD (BH 4 MN)
def Jo:Ex:=(Ag (P7 (tTp [tNm 3,tNm 4,tNm 5]) (eV 1))
    (xIf (eOp (o2 wEq) [eIx (eV 2) (eI 0),eC (.str "throw")]) (Ag (Nm 6 7 (AM Hv [eV 0,eV 3,eV 2]) (eIx (eIx (eV 3) (eIx (eV 2) (eI 1))) (eI 2)))
    (Ag (OB (eOp (o2 R6) [eIx (eIx (eV 3) (eIx (eV 2) (eI 1))) (eI 1),eIx (eV 2) (eI 2)]) (eIx (eV 3) (eIx (eV 2) (eI 1))) (eI 1))
    (Ag (Kn (IP (eV 3)) (tNm 8) (OB (AM D8 [eIx (eV 8) (eI 2),eV 6,eV 7]) (eV 8) (eI 2)))
    (OB (AM D8 [eV 4,eV 6,eV 7]) (eV 1) (eI 1))))) (Ag (Kn (IP (eV 3)) (tNm 8) (OB (AM Em [eIx (eV 8) (eI 2),eV 2]) (eV 8) (eI 2)))
    (OB (AM Em [eV 4,eV 2]) (eV 1) (eI 1)))))
def El:Fn:=BD (BH 9 Jo)
def Fe:Ex:=(Ag (P7 (tTp [tNm 3,tNm 4,tNm 5]) (eV 1))
    (Ag (CC 6 (eIx (eV 2) (eI 0)))
    (xIf (eOp (o2 wEq) [eV 6,eC (.str "bring")]) (Bp (G7 Hx (eV 3) [Ie [eIx (eV 2) (eI 2),eIx (eV 2) (eI 3),eOp (o1 Fd) [FK [2] 1 (Ly [eIx (eV 0) (eI 0)]) (tNm 1) DM (CY [eOp (o1 Zj) [eOp (o2 wEq) [eV 1,eIx (eV 0) (eI 1)]],eI 1])]]])) (xIf (eOp (o2 wEq) [eV 6,eC (.str "pool")]) (Ag (Nm 7 8 (eIx (eV 3) (eIx (eV 2) (eI 1))) (eIx (eV 3) (eIx (eV 2) (eI 2))))
    (Ag (Bp (G7 Hx (eV 3) [Ie [eIx (eV 7) (eI 0),eOp (o2 Dt) [eIx (eV 7) (eI 1),eIx (eV 8) (eI 1)],AM Fm [eV 7,eV 8]]]))
    (Ag (OB (eI 0) (eV 7) (eI 1))
    (OB (eI 0) (eV 8) (eI 1))))) (xIf (eOp (o2 (wIn false)) [eV 6,CY [eC (.str "swap"),eC (.str "trade")]]) (Ag (P7 (tTp [tNm 9,tNm 10,tNm 11,tNm 12]) (eOp (MQ true false) [eV 2,eOp (o1 R3) [eI 4]]))
    (Ag (OB (eOp (o2 R6) [eIx (eIx (eV 3) (eV 9)) (eI 1),eV 10]) (eIx (eV 3) (eV 9)) (eI 1))
    (Ag (Bp (G7 Hx (eV 3) [Ie [eV 11,eV 12,eIx (eIx (eV 3) (eV 9)) (eI 2)]]))
    (Bp (G7 gA (eV 5) [eOp (o2 EZ) [eOp (MQ true true) [eV 2,eI 1,eI 2],eOp (o1 Zj) [eOp (o2 wEq) [eV 6,eC (.str "trade")]]]]))))) (xIf (eOp (o2 wEq) [eV 6,eC (.str "spoil")]) (OB (eOp (o2 R6) [eIx (eIx (eV 3) (eIx (eV 2) (eI 1))) (eI 1),eIx (eV 2) (eI 2)]) (eIx (eV 3) (eIx (eV 2) (eI 1))) (eI 1)) (Bp (AM El [eV 0,eV 1,eV 2]))))))))
def BX:Fn:=BD (BH 13 Fe)
def Mv:Ex:=(Ag (P7 (tTp [tNm 3,tNm 4,tNm 5]) (eV 2))
    (Ag (CC 6 (FK [] 2 (ax (eV 3)) (tTp [tNm 0,tNm 1]) (eOp (o2 wGt) [eIx (eV 1) (eI 1),eI 0]) (eV 0)))
    (Ag (CC 7 (AM AK [eV 0,eI 12]))
    (Ag (xIf (eOr (eOp (o2 wLt) [eV 7,eI 2]) (eOp (o2 wEq) [eV 6,G8 []])) (Bq (CY [eC (.str "bring"),AM AK [eV 0,eIx (eV 1) (eI 0)],AM AK [eV 0,eIx (eV 1) (eI 1)],AM BG [eV 0]])) Ed)
    (Ag (CC 8 (eIx (eV 6) (AM AK [eV 0,eOp (o1 Gu) [eV 6]])))
    (Ag (CC 9 (eOp (o2 Dt) [eI 1,AM AK [eV 0,eOp (o2 az) [eIx (eIx (eV 3) (eV 8)) (eI 1),eI 2000]]]))
    (Ag (xIf (eOp (o2 wLt) [eV 7,eI 5]) (Ag (CC 10 (FK [3,8] 1 (IP (eV 6)) (tNm 2) (Lk (eOp (o2 wNe) [eV 2,eV 1]) (eOp (o2 wEq) [eIx (eIx (eV 0) (eV 2)) (eI 0),eIx (eIx (eV 0) (eV 1)) (eI 0)])) (eV 2)))
    (xIf (eOp (o2 wNe) [eV 10,G8 []]) (Bq (CY [eC (.str "pool"),eV 8,eIx (eV 10) (AM AK [eV 0,eOp (o1 Gu) [eV 10]])])) Ed)) Ed)
    (Ag (xIf (Lk (eOp (o2 wLt) [eV 7,eI 8]) (eOp (o2 wGt) [eIx (eV 1) (eI 1),eI 1])) (Ag (CC 11 (eOp (o2 Pa) [eOp (o2 Dt) [eOp (o2 Dt) [eIx (eIx (eV 3) (eV 8)) (eI 0),eI 1],AM AK [eV 0,eOp (o2 R6) [eIx (eV 1) (eI 1),eI 1]]],eIx (eV 1) (eI 1)]))
    (Ag (CC 12 (FK [5] 1 (Ly [eI 10]) (tNm 1) (eOp (o2 (wIn true)) [eV 1,eV 0]) (eV 1)))
    (Ag (xIf (Lk (eOp (o2 wEq) [eV 7,eI 7]) (eOp (o2 wNe) [eV 12,G8 []])) (Bq (CY [eC (.str "trade"),eIx (eV 12) (AM AK [eV 0,eOp (o1 Gu) [eV 12]]),eV 8,eV 9,eV 11,AM BG [eV 0]])) Ed)
    (Bq (CY [eC (.str "swap"),eV 8,eV 9,eV 11,AM BG [eV 0]]))))) Ed)
    (Ag (xIf (eOp (o2 wEq) [eV 7,eI 8]) (Bq (CY [eC (.str "spoil"),eV 8,eV 9])) Ed)
    (Ag (xIf (Lk (eOp (o2 wEq) [eV 7,eI 9]) (eOp (o2 wGt) [eIx (eV 1) (eI 0),eI 1])) (Ag (CC 13 (AM AK [eV 0,eIx (eV 1) (eI 0)]))
    (Bq (CY [eC (.str "sell"),eV 13,eOp (o2 Pa) [eOp (o2 Dt) [eOp (o2 Dt) [eV 13,eI 1],AM AK [eV 0,eOp (o2 R6) [eIx (eV 1) (eI 0),eI 1]]],eIx (eV 1) (eI 0)],AM FF [eV 0]]))) Ed)
    (Bq (CY [eC (.str "throw"),eV 8,eV 9,AM DH [eV 0,eOp (o2 Dt) [eIx (eV 1) (eI 1),eI 1]]]))))))))))))
def DK:Fn:=BD (BH 14 Mv)
def Md:Ex:=(Ag (CC 2 (AM Gp [eV 0]))
    (Ag (CC 3 (AM Gk [eV 0,eV 2]))
    (Ag (Nm 4 5 (AM D9 [CY [eV 2,eV 3,CY []]]) (Ie []))
    (Ag (Kn (Ly [AM AK [eV 0,eOp (o2 Dt) [eV 1,eI 1]]]) (tNm 6) (Ag (CC 7 (AM DK [eV 0,eV 2,eV 4]))
    (xIf (eOr (eOp (o2 wNe) [eIx (eV 7) (eI 0),eC (.str "throw")]) (eOp (o2 wLt) [eOp (o1 Gu) [FK [] 1 (IP (eV 5)) (tNm 0) (eOp (o2 wEq) [eIx (eV 0) (eI 0),eC (.str "throw")]) (eV 0)],eI 3])) (Ag (Bp (AM BX [eV 2,eV 4,eV 7]))
    (Bp (G7 Hx (eV 5) [eV 7]))) Ed)))
    (Bq (CY [eV 2,eV 3,eOp (o1 Fd) [eV 5]]))))))
def Ep:Fn:=BD (BH 8 Md)
def JF:Ex:=(Ag (Nm 1 2 (AM D9 [eV 0]) (JD [] 1 (Ly [eOp (o1 Gu) [eIx (eV 0) (eI 1)]]) (tNm 0) DM (Uq [((eV 0),(CY [eI 1,eI 1]))])))
    (Ag (Kn (IP (eIx (eV 0) (eI 2))) (tNm 3) (Ag (xIf (eOp (o2 wEq) [eIx (eV 3) (eI 0),eC (.str "bring")]) (Bp (G7 Hx (eV 2) [Uq [((eOp (o1 Gu) [eV 2]),(CY [eI 1,eI 1]))]])) (xIf (eOp (o2 wEq) [eIx (eV 3) (eI 0),eC (.str "pool")]) (Ag (P7 (tTp [tNm 4,tNm 5]) (eOp (MQ true false) [eV 3,eI 1]))
    (Ag (Nm 6 7 (eIx (eIx (eIx (eV 1) (eI 0)) (eV 4)) (eI 1)) (eIx (eIx (eIx (eV 1) (eI 0)) (eV 5)) (eI 1)))
    (Ag (CC 8 (Ya []))
    (Ag (Kn (IP (eOp (o1 wSS) [eOp (o2 Dt) [eLK false (eIx (eV 2) (eV 4)),eLK false (eIx (eV 2) (eV 5))]])) (tNm 9) (Ag (CC 10 (AM Ac [CY [eV 6,eI 1],bD (eIx (eV 2) (eV 4)) (eV 9) (CY [eI 0,eI 1])]))
    (Ag (CC 10 (AM BM [eV 10,AM Ac [CY [eV 7,eI 1],bD (eIx (eV 2) (eV 5)) (eV 9) (CY [eI 0,eI 1])]]))
    (WJ (AM Ac [eV 10,AM BL [eI 1,eOp (o2 Dt) [eV 6,eV 7]]]) (eV 8) (eV 9)))))
    (Bp (G7 Hx (eV 2) [eV 8])))))) (xIf (eOp (o2 (wIn false)) [eIx (eV 3) (eI 0),CY [eC (.str "swap"),eC (.str "trade")]]) (Bp (G7 Hx (eV 2) [eDC false (eIx (eV 2) (eIx (eV 3) (eOp (o1 R3) [eI 4])))])) Ed)))
    (Bp (AM BX [eIx (eV 0) (eI 0),eV 1,eV 3]))))
    (Bq (eV 2))))
def DU:Fn:=BD (BH 11 JF)
def Iy:Ex:=(Ag (CC 1 (JD [] 1 (IP (eIx (eV 0) (eI 1))) (tNm 0) DM (G8 [])))
    (Ag (Kn (IP (eIx (eV 0) (eI 2))) (tNm 2) (xIf (eOp (o2 wEq) [eIx (eV 2) (eI 0),eC (.str "bring")]) (Bp (G7 Hx (eV 1) [G8 []])) (xIf (eOp (o2 wEq) [eIx (eV 2) (eI 0),eC (.str "pool")]) (Bp (G7 Hx (eV 1) [eOp (o1 JX) [eOp (MQ true true) [eV 2,eI 1,eI 3]]])) (xIf (eOp (o2 (wIn false)) [eIx (eV 2) (eI 0),CY [eC (.str "swap"),eC (.str "trade")]]) (Bp (G7 Hx (eV 1) [G8 [eIx (eV 2) (eOp (o1 R3) [eI 4])]])) Ed))))
    (Bq (eV 1))))
def Dj:Fn:=BD (BH 3 Iy)
def O9:Ex:=(Ag (CC 1 (CY [eI 0,eI 1]))
    (Ag (Kn (IP (eV 0)) (tNm 2) (CC 1 (AM BM [eV 1,eV 2])))
    (Bq (eV 1))))
def F6:Fn:=BD (BH 3 O9)
def CO:Ex:=(Ag (CC 1 (eIx (eV 0) (eI 0)))
    (Ag (xIf (eOp (o2 wEq) [eV 1,eC (.str "pool")]) (Bq (cN (o1 K2) [G8 [eIx (eV 0) (eI 1),eIx (eV 0) (eI 2)]])) Ed)
    (Ag (xIf (eOp (o2 (wIn false)) [eV 1,CY [eC (.str "swap"),eC (.str "trade")]]) (Bq (Ie [eIx (eV 0) (eOp (o1 R3) [eI 4])])) Ed)
    (Bq (Ie [])))))
def A7:Fn:=BD (BH 2 CO)
def HH:Ex:=(Ag (Nm 1 2 (eIx (eV 0) (eI 1)) (eIx (eV 0) (eI 2)))
    (Bq (eOp (o2 Dt) [FK [] 1 (IP (eV 1)) (tNm 0) DM (Ie []),FK [] 1 (IP (eV 2)) (tNm 0) (eOp (o2 (wIn false)) [eIx (eV 0) (eI 0),eC BP]) (AM A7 [eV 0])])))
def Dh:Fn:=BD (BH 3 HH)
def IH:Ex:=(Bq (eOp (o2 Dt) [eOp (o1 Gu) [eIx (eV 0) (eI 1)],eOp (o1 Gu) [FK [] 1 (IP (eOp (MQ false true) [eIx (eV 0) (eI 2),eV 1])) (tNm 0) (eOp (o2 (wIn false)) [eIx (eV 0) (eI 0),eC BP]) (eV 0)]]))
def CQ:Fn:=BD (BH 2 IH)
def Fc:Ex:=(xIf (aq (AM Ge [eV 1,eI 0,eOp (o2 R6) [AM CQ [eV 0,eOp (o1 Gu) [eIx (eV 0) (eI 2)]],eI 1]])) SO Ed)
def Bx:Fn:=BD (BH 2 Fc)
def LZ:Ex:=(Ag (Bp (AM B7 [eV 0]))
    (Ag (Bp (AM Bx [eV 0,eV 1]))
    (Bq (eIx (AM Dh [eV 0]) (eV 1)))))
def FE:Fn:=BD (BH 2 LZ)
def Hi:Ex:=(Ag (CC 1 (AM CQ [eV 0,eOp (o1 Gu) [eIx (eV 0) (eI 2)]]))
    (Ag (CC 2 (AM Bj [eV 0]))
    (Ag (CC 3 (JD [1] 1 (Ly [eOp (o1 Gu) [eV 2]]) (tNm 1) DM (AM Bi [eV 0,eV 1])))
    (Ag (Kn (IP (eIx (eV 0) (eI 2))) (tNm 4) (Ag (xIf (eOp (o2 wEq) [eIx (eV 4) (eI 0),eC (.str "bring")]) (Bp (G7 Hx (eV 3) [AM Bi [eV 1,eOp (o1 Gu) [eV 3]]])) (xIf (eOp (o2 (wIn false)) [eIx (eV 4) (eI 0),eC BP]) (Bp (G7 Hx (eV 3) [AM A5 [eV 2,eV 3,eV 4]])) Ed))
    (CC 2 (AM Af [eV 2,eV 4]))))
    (Bq (eV 3))))))
def Dq:Fn:=BD (BH 5 Hi)
def IC:Ex:=(Ag (Bp (AM B7 [eV 0]))
    (Ag (Bp (AM Bx [eV 0,eV 1]))
    (Bq (JD [] 2 (ax (eIx (AM Dq [eV 0]) (eV 1))) (tTp [tNm 0,tNm 1]) (eOp (o2 wGt) [eIx (eV 1) (eI 0),eI 0]) (CY [eV 0,eV 1])))))
def Cy:Fn:=BD (BH 2 IC)
def SU:Ex:=(Ag (Kn (Ly [eOp (o2 gP) [eI 1,eOp (o2 az) [eOp (o1 Gu) [eV 0],eI 3]]]) (tNm 1) (Ag (CC 2 (AM HP [AM Cr [eV 0,eV 1]]))
    (Ag (CC 3 (AM Ep [eV 2,eI 16]))
    (Ag (P7 (tTp [tNm 4,tNm 5]) (CY [AM Dj [eV 3],AM DU [eV 3]]))
    (Kn (Ly [eOp (o1 Gu) [eV 4]]) (tNm 6) (Ag (CC 7 (eOp (o1 Q8) [eLI false (eIx (eV 5) (eV 6))]))
    (Ag (Kn (Ly [eI 2]) (tNm 8) (Ag (Nm 9 10 (AM FE [eV 3,eV 6]) (AM Cy [eV 3,eV 6]))
    (Ag (xIf (eOr (eOp (o2 wNe) [eV 9,eIx (eV 4) (eV 6)]) (eOp (o2 wNe) [eV 10,eV 7])) (Bq (eC (.bl false))) Ed)
    (Ag (Bp (G7 Hx (eV 9) [eI 0]))
    (Bp (G7 cS (eV 10) []))))))
    (Ag (xIf (eOp (o2 wNe) [AM F6 [FK [] 2 (IP (eV 7)) (tTp [tNm 0,tNm 1]) DM (eV 1)],CY [eI 1,eI 1]]) (Bq (eC (.bl false))) Ed)
    (xIf (eOp (o2 wNe) [FK [4] 2 (IP (eV 7)) (tTp [tNm 1,tNm 2]) (eOr (eOp (o2 wNe) [eIx (eV 0) (eV 1),G8 []]) (eOp (o2 wEq) [eIx (eV 2) (eI 0),eI 0])) (eV 1),G8 []]) (Bq (eC (.bl false))) Ed)))))))))
    (Bq (eC (.bl true))))
def Nk:Fn:=BD (BH 11 SU)
end
section
open PyProof.Rows (boot_isinstance boot_int boot_bool boot_tuple boot_str boot_list boot_abs boot_all boot_any boot_sum boot_max boot_min boot_range boot_enumerate boot_zip boot_sorted boot_set boot_divmod)
noncomputable def top(i:Nat):pN:=uf.main.body.getD i (.Pass ⟨0,0,0,0⟩)
abbrev EW:pN:=top 3
abbrev FC:pN:=top 4
abbrev DZ:pN:=top 5
abbrev Be:pN:=top 6
abbrev GL:pN:=top 7
abbrev HX:pN:=top 8
abbrev Ct:pN:=top 15
abbrev EU:pN:=top 16
abbrev EF:pN:=top 17
abbrev Dz:pN:=top 18
abbrev CN:pN:=top 19
abbrev CZ:pN:=top 20
abbrev BJ:pN:=top 21
abbrev DP:pN:=top 22
abbrev CM:pN:=top 22
abbrev Cd:pN:=top 23
abbrev B6:pN:=top 24
abbrev B3:pN:=top 25
abbrev Bv:pN:=top 26
abbrev Bz:pN:=top 28
abbrev Ba:pN:=top 29
abbrev Cc:pN:=top 30
abbrev BC:pN:=top 32
abbrev Bl:pN:=top 33
abbrev FN:pN:=top 34
abbrev B2:pN:=top 35
abbrev DO:pN:=top 37
abbrev HW:pN:=top 38
abbrev F8:pN:=top 39
abbrev EN:pN:=top 40
abbrev GJ:pN:=top 41
abbrev F5:pN:=top 42
abbrev FD:pN:=top 43
abbrev GF:pN:=top 44
abbrev HQ:pN:=top 45
abbrev CJ:pN:=top 46
abbrev EM:pN:=top 47
abbrev FP:pN:=top 48
abbrev E7:pN:=top 49
abbrev FI:pN:=top 50
abbrev Cm:pN:=top 51
abbrev C5:pN:=top 52
abbrev EH:pN:=top 55
abbrev Dw:pN:=top 56
abbrev FL:pN:=top 57
abbrev GO:pN:=top 58
abbrev GB:pN:=top 59
abbrev GS:pN:=top 60
abbrev B5:pN:=top 61
abbrev Dy:pN:=top 62
abbrev CG:pN:=top 64
abbrev CF:pN:=top 65
abbrev Fy:pN:=top 66
section
variable(P:nq)(w:oN)(K:mx)(mg:Str->nB mz)(base:oQ)
abbrev KG:Prop:=St.Dfn P w K mg base "is_whole" 1 ["thing"] (spD K 1 Hk)
abbrev LV:Prop:=St.Dfn P w K mg base "is_from" 2 ["thing","low"] (spD K 2 IY)
abbrev Iq:Prop:=St.Dfn P w K mg base "is_within" 3 ["thing","low","high"] (spD K 3 Ge)
abbrev Ef:Prop:=St.Dfn P w K mg base "greatest_divisor" 1 ["one","other"] (spD K 2 B4)
abbrev Mn:Prop:=St.Dfn P w K mg base "lowest" 2 ["top","bottom"] (spD K 2 GG)
abbrev Oh:Prop:=St.Dfn P w K mg base "mixed" 3 ["one","weight","other","more"] (spD K 4 Ha)
abbrev ED:Prop:=St.Dfn P w K mg base "has_pieces" 1 ["held","load","pieces"] (spD K 3 B1)
abbrev J2:Prop:=St.Dfn P w K mg base "can_pool" 2 ["held","load","other"] (spD K 3 Fj)
abbrev KJ:Prop:=St.Dfn P w K mg base "can_swap" 2 ["held","load","given","kind"] (spD K 4 ES)
abbrev MY:Prop:=St.Dfn P w K mg base "can_do" 3 ["held","done","deed"] (spD K 3 CB)
abbrev G4:Prop:=St.Dfn P w K mg base "held_without" 1 ["held","load","pieces"] (spD K 3 BY)
abbrev FJ:Prop:=St.Dfn P w K mg base "held_behind" 2 ["held","deed"] (spD K 2 Af)
abbrev D3:Prop:=St.Dfn P w K mg base "held_at_first" 1 ["book"] (spD K 1 Bj)
abbrev JG:Prop:=St.Dfn P w K mg base "made_from" 1 ["deed"] (spD K 1 Bt)
abbrev Gs:Prop:=St.Dfn P w K mg base "made_from" 1 ["deed"] (spD K 1 A7)
abbrev Hl:Prop:=St.Dfn P w K mg base "first_wrong" 4 ["book"] (spD K 1 DX)
abbrev D0:Prop:=St.Dfn P w K mg base "refuse_undone" 5 ["book"] (spD K 1 B7)
abbrev Fw:Prop:=St.Dfn P w K mg base "many_loads" 1 ["book","many"] (spD K 2 CQ)
abbrev Di:Prop:=St.Dfn P w K mg base "refuse_no_load" 4 ["book","load"] (spD K 2 Bx)
abbrev II:Prop:=St.Dfn P w K mg base "all_to_one" 1 ["many","one"] (spD K 2 Bi)
abbrev G3:Prop:=St.Dfn P w K mg base "mixed_shares" 4 ["shares","weight","others","more"] (spD K 4 C0)
abbrev HE:Prop:=St.Dfn P w K mg base "made_shares" 5 ["held","shares","deed"] (spD K 3 A5)
abbrev HR:Prop:=St.Dfn P w K mg base "all_sources" 2 ["book"] (spD K 1 Dh)
abbrev Hm:Prop:=St.Dfn P w K mg base "all_origins" 6 ["book"] (spD K 1 Dq)
abbrev Lj:Prop:=St.Dfn P w K mg base "made_of" 6 ["book","load"] (spD K 2 FE)
abbrev ID:Prop:=St.Dfn P w K mg base "origins_of" 7 ["book","load"] (spD K 2 Cy)
abbrev Iz:Prop:=St.Dfn P w K mg base "_law_cell_at" 1 ["_law_script","_law_k"] (spD K 2 Cr)
abbrev Oi:Prop:=St.Dfn P w K mg base "_law_pen" 1 ["_law_cell"] (spD K 1 HP)
abbrev Co:Prop:=St.Dfn P w K mg base "_law_draw" 1 ["_law_pen_here","_law_bound"] (spD K 2 AK)
abbrev J9:Prop:=St.Dfn P w K mg base "_law_common" 1 ["_law_one","_law_other"] (spD K 2 Fp)
abbrev C9:Prop:=St.Dfn P w K mg base "_law_made" 2 ["_law_top","_law_bottom"] (spD K 2 BL)
abbrev Dv:Prop:=St.Dfn P w K mg base "_law_plus" 3 ["_law_one","_law_other"] (spD K 2 BM)
abbrev FW:Prop:=St.Dfn P w K mg base "_law_times" 3 ["_law_one","_law_other"] (spD K 2 Ac)
abbrev Je:Prop:=St.Dfn P w K mg base "_law_less" 4 ["_law_one","_law_other"] (spD K 2 DC)
abbrev O7:Prop:=St.Dfn P w K mg base "_law_sum" 4 ["_law_some"] (spD K 1 F6)
abbrev Ig:Prop:=St.Dfn P w K mg base "_law_whole" 3 ["_law_pen_here","_law_many"] (spD K 2 C6)
abbrev HA:Prop:=St.Dfn P w K mg base "_law_pieces" 2 ["_law_pen_here"] (spD K 1 BG)
abbrev LX:Prop:=St.Dfn P w K mg base "_law_train" 4 ["_law_pen_here"] (spD K 1 Gp)
abbrev Ku:Prop:=St.Dfn P w K mg base "_law_first" 4 ["_law_pen_here","_law_train_here"] (spD K 2 Gk)
abbrev LL:Prop:=St.Dfn P w K mg base "_law_share" 3 ["_law_pen_here"] (spD K 1 FF)
abbrev J3:Prop:=St.Dfn P w K mg base "_law_worths" 2 ["_law_pen_here","_law_many"] (spD K 2 DH)
abbrev Ic:Prop:=St.Dfn P w K mg base "_law_begun" 1 ["_law_book_here"] (spD K 1 D9)
abbrev KI:Prop:=St.Dfn P w K mg base "_law_pooled" 4 ["_law_one","_law_other"] (spD K 2 Fm)
abbrev MG:Prop:=St.Dfn P w K mg base "_law_cost" 3 ["_law_train_here","_law_loads","_law_deed_here"] (spD K 3 Hv)
abbrev K1:Prop:=St.Dfn P w K mg base "_law_borne" 5 ["_law_shares","_law_part","_law_owners"] (spD K 3 D8)
abbrev ME:Prop:=St.Dfn P w K mg base "_law_sold" 5 ["_law_shares","_law_deed_here"] (spD K 2 Em)
abbrev Mt:Prop:=St.Dfn P w K mg base "_law_turn" 6 ["_law_train_here","_law_state","_law_deed_here"] (spD K 3 El)
abbrev Mw:Prop:=St.Dfn P w K mg base "_law_do" 7 ["_law_train_here","_law_state","_law_deed_here"] (spD K 3 BX)
abbrev Mb:Prop:=St.Dfn P w K mg base "_law_deed" 4 ["_law_pen_here","_law_train_here","_law_state"] (spD K 3 DK)
abbrev Mg:Prop:=St.Dfn P w K mg base "_law_book" 8 ["_law_pen_here","_law_most"] (spD K 2 Ep)
abbrev Ir:Prop:=St.Dfn P w K mg base "_law_parents" 1 ["_law_book_here"] (spD K 1 Dj)
abbrev JR:Prop:=St.Dfn P w K mg base "_law_origins" 8 ["_law_book_here"] (spD K 1 DU)
end
structure Bts(mg:Str->nB mz):Prop where
 abs:mg "abs"=none
 bool:mg "bool"=none
 dict:mg "dict"=none
 enumerate:mg "enumerate"=none
 int:mg "int"=none
 isi:mg "isinstance"=none
 len:mg "len"=none
 list:mg "list"=none
 max:mg "max"=none
 min:mg "min"=none
 range:mg "range"=none
 set:mg "set"=none
 sorted:mg "sorted"=none
 sum:mg "sum"=none
 tuple:mg "tuple"=none
 zip:mg "zip"=none
end
section
open PyProof.Rows (boot_isinstance boot_int boot_bool boot_tuple boot_str boot_list boot_abs boot_all boot_any boot_sum boot_max boot_min boot_range boot_enumerate boot_zip boot_sorted boot_set boot_divmod)
variable{P:nq}{w:oN}{K:mx}{mg:Str->nB mz}{base:oQ}
theorem NM:AU ["thing"] ["thing"] (AJ EW):=scM
theorem EX  (S:St.Src K mg "is_whole" EW)(B:Bts mg):KG P w K mg base:=by
 refine dfM 0 S NM λhr hu=>?_
 exact(AI (AX (KA (Al OG rfl B.isi zv (AA (AB 0) (AA (bJ rfl B.int boot_int) AF))) (LH (bR (Al OG rfl B.isi zv (AA (AB 0) (AA (bJ rfl B.bool boot_bool) AF))))))))
theorem ON:AU ["thing","low"] ["thing","low"] (AJ FC):=scM
theorem FA  (S:St.Src K mg "is_from" FC)(EX:KG P w K mg base):LV P w K mg base:=by
 refine dfM 1 S ON λhr hu=>?_
 exact(AI (AX (KA (deM EX hr (AA (AB 0) AF)) (LH (IJ Tu (AB 0) (AB 1))))))
theorem L9:AU ["thing","low","high"] ["thing","low","high"] (AJ DZ):=scM
theorem Dc  (S:St.Src K mg "is_within" DZ)(FA:LV P w K mg base):Iq P w K mg base:=by
 refine dfM 2 S L9 λhr hu=>?_
 exact(AI (AX (KA (deM FA hr (AA (AB 0) (AA (AB 1) AF))) (LH (IJ bp (AB 0) (AB 2))))))
theorem Ck:AU ["one","other"] ["one","other"] (AJ Be):=scM
theorem Bd  (S:St.Src K mg "greatest_divisor" Be)(B:Bts mg):Ef P w K mg base:=by
 refine dfM 0 S Ck λhr hu=>?_
 exact(AH (Hb (i:=0) (j:=1) rfl Ck.nd rfl rfl (by decide) rfl rfl (Al Kz rfl B.abs boot_abs (AA (AB 0) AF)) (Al Kz rfl B.abs boot_abs (AA (AB 1) AF)))
      (AH (Qf (Rz 1) om (Ad (HK hu) (AB 1) AG) (AI (Hb (i:=0) (j:=1) rfl Ck.nd rfl rfl (by decide) rfl rfl (AB 1) (Aj Fs (AB 0) (AB 1)))))
      (AI (AX (AB 0)))))
theorem Ky:AU ["top","bottom","divisor"] ["top","bottom"] (AJ GL):=scM
theorem GI  (S:St.Src K mg "lowest" GL)(Bd:Ef P w K mg base):Mn P w K mg base:=by
 refine dfM 1 S Ky λhr hu=>?_
 exact(AH (Au 2 (deM Bd hr (AA (AB 0) (AA (AB 1) AF))) Ky.nd)
      (AI (AX (A8 (AA (Aj GU (AB 0) (AB 2)) (AA (Aj GU (AB 1) (AB 2)) AF))))))
theorem Me:AU ["one","weight","other","more","top"] ["one","weight","other","more"] (AJ HX):=scM
theorem HS  (S:St.Src K mg "mixed" HX)(GI:Mn P w K mg base):Oh P w K mg base:=by
 refine dfM 2 S Me λhr hu=>?_
 exact(AH (Au 4 (Aj An (Aj BU (Aj BU (AL AZ (AB 0) AG) (AL AZ (AB 2) AG)) (AB 1)) (Aj BU (Aj BU (AL AZ (AB 2) AG) (AL AZ (AB 0) AG)) (AB 3))) Me.nd)
      (AI (AX (deM GI hr (AA (AB 4) (AA (Aj BU (Aj BU (AL AZ (AB 0) AG) (AL AZ (AB 2) AG)) (Aj An (AB 1) (AB 3))) AF))))))
end
section
open PyProof.Rows (boot_isinstance boot_int boot_bool boot_tuple boot_str boot_list boot_abs boot_all boot_any boot_sum boot_max boot_min boot_range boot_enumerate boot_zip boot_sorted boot_set boot_divmod)
variable{P:nq}{w:oN}{K:mx}{mg:Str->nB mz}{base:oQ}
theorem Kt:AU ["held","load","pieces"] ["held","load","pieces"] (AJ Ct):=scM
theorem Ax  (S:St.Src K mg "has_pieces" Ct)(B:Bts mg):ED P w K mg base:=by
 refine dfM 0 S Kt λhr hu=>?_
 exact(AI (AX (KA (IJ MK (AB 1) (Al BQ rfl B.len qe (AA (AB 0) AF))) (LH (IJ Tu (AL AZ (AL AZ (AB 0) (AB 1)) AG) (AB 2))))))
theorem NC:AU ["held","load","other"] ["held","load","other"] (AJ EU):=scM
theorem EV  (S:St.Src K mg "can_pool" EU)(Ax:ED P w K mg base):J2 P w K mg base:=by
 refine dfM 1 S NC λhr hu=>?_
 exact(AI (AX (KA (deM Ax hr (AA (AB 0) (AA (AB 1) (AA AG AF)))) (KA (deM Ax hr (AA (AB 0) (AA (AB 2) (AA AG AF)))) (LH (IJ (Bm hu) (AL AZ (AL AZ (AB 0) (AB 1)) AG) (AL AZ (AL AZ (AB 0) (AB 2)) AG)))))))
theorem Nx:AU ["held","load","given","kind"] ["held","load","given","kind"] (AJ EF):=scM
theorem DF  (S:St.Src K mg "can_swap" EF)(Ax:ED P w K mg base):KJ P w K mg base:=by
 refine dfM 1 S Nx λhr hu=>?_
 exact(AI (AX (KA (deM Ax hr (AA (AB 0) (AA (AB 1) (AA (AB 2) AF)))) (LH (IJ (HK hu) (AL AZ (AL AZ (AB 0) (AB 1)) AG) (AB 3))))))
theorem IZ:AU ["held","done","deed","word","numbers"] ["held","done","deed"] (AJ Dz):=scM
theorem Nq:Ab ["held","done","deed","word","numbers"] (AJ Dz) ["other"] (ixC [] 1) (LD Dz 0):=csM
theorem N3:(["other"]:List Str).Nodup:=by decide+kernel
theorem F7  (S:St.Src K mg "can_do" Dz)(Ax:ED P w K mg base)(EV:J2 P w K mg base)(DF:KJ P w K mg base):MY P w K mg base:=by
 refine dfM 2 S IZ λhr hu=>?_
 exact(AH (Au 3 (AL AZ (AB 2) AG) IZ.nd)
      (AH (By (Ad (Bm hu) (AB 3) A3) (AI (AX (deM EV hr (AA (AB 0) (AA (AL AZ (AB 2) AG) (AA (AL AZ (AB 2) AG) AF)))))) Az)
      (AH (By (Ad (Bm hu) (AB 3) A3) (AI (AX (deM DF hr (AA (AB 0) (AA (AL AZ (AB 2) AG) (AA (AL AZ (AB 2) AG) (AA (AL AZ (AB 2) AG) AF))))))) Az)
      (AH (By (Ad (Bm hu) (AB 3) A3) (AH (Er [] 1 ["other"] rfl IZ.nd rfl rfl Nq (DB (AB 1)) (λs H fp=>⟨Ar 0 N3,Gh (Ad (Bm hu) (AL AZ (AB 0) AG) A3),AL AZ (AB 0) AG⟩))
      (AI (AX (KA (IJ Oe (AL AZ (AB 2) AG) (AB 4)) (LH (deM DF hr (AA (AB 0) (AA (AL AZ (AB 2) AG) (AA (AL AZ (AB 2) AG) (AA (AL AZ (AB 2) AG) AF)))))))))) Az)
      (AH (By (Ad Hc (AB 3) (A8 (AA A3 (AA A3 AF)))) (AI (AX (deM Ax hr (AA (AB 0) (AA (AL AZ (AB 2) AG) (AA (AL AZ (AB 2) AG) AF)))))) Az)
      (AI (AX Ui)))))))
theorem Du:AU ["held","load","pieces","kind","there"] ["held","load","pieces"] (AJ CN):=scM
theorem BF  (S:St.Src K mg "held_without" CN):G4 P w K mg base:=by
 refine dfM 0 S Du λhr hu=>?_
 exact(AH (IM (AL AZ (AB 0) (AB 1)) (Gf rfl (AV (Ar 3 Du.nd) (AV (Ar 4 Du.nd) CH))))
      (AI (AX (Aj An (Aj An (P2 (AB 0) (AB 1)) (BW (AA (A8 (AA (AB 3) (AA (Aj HL (AB 4) (AB 2)) AF))) AF))) (NT (AB 0) (Aj An (AB 1) AG))))))
theorem A6:AU ["held","deed","word","kind","pieces","more","load","given","got"] ["held","deed"] (AJ CZ):=scM
theorem BS  (S:St.Src K mg "held_behind" CZ)(BF:G4 P w K mg base):FJ P w K mg base:=by
 refine dfM 1 S A6 λhr hu=>?_
 exact(AH (Au 2 (AL AZ (AB 1) AG) A6.nd)
      (AH (By (Ad (Bm hu) (AB 2) A3) (AI (AX (Aj An (AB 0) (BW (AA (A8 (AA (AL AZ (AB 1) AG) (AA (AL AZ (AB 1) AG) AF))) AF))))) Az)
      (AH (By (Ad (Bm hu) (AB 2) A3) (AH (IM (AL AZ (AB 0) (AL AZ (AB 1) AG)) (Gf rfl (AV (Ar 3 A6.nd) (AV (Ar 4 A6.nd) CH))))
      (AH (Au 5 (AL AZ (AL AZ (AB 0) (AL AZ (AB 1) AG)) AG) A6.nd)
      (AI (AX (Aj An (deM BF hr (AA (deM BF hr (AA (AB 0) (AA (AL AZ (AB 1) AG) (AA (AB 4) AF)))) (AA (AL AZ (AB 1) AG) (AA (AB 5) AF)))) (BW (AA (A8 (AA (AB 3) (AA (Aj An (AB 4) (AB 5)) AF))) AF))))))) Az)
      (AH (By (Ad Hc (AB 2) (A8 (AA A3 (AA A3 AF)))) (AH (IM (NT (AB 1) (Ph Ib AG)) (Gf rfl (AV (Ar 6 A6.nd) (AV (Ar 7 A6.nd) (AV (Ar 3 A6.nd) (AV (Ar 8 A6.nd) CH))))))
      (AI (AX (Aj An (deM BF hr (AA (AB 0) (AA (AB 6) (AA (AB 7) AF)))) (BW (AA (A8 (AA (AB 3) (AA (AB 8) AF))) AF)))))) Az)
      (AH (By (Ad Hc (AB 2) (A8 (AA A3 (AA A3 AF)))) (AI (AX (deM BF hr (AA (AB 0) (AA (AL AZ (AB 1) AG) (AA (AL AZ (AB 1) AG) AF)))))) Az)
      (AI (AX (AB 0))))))))
end
section
open PyProof.Rows (boot_isinstance boot_int boot_bool boot_tuple boot_str boot_list boot_abs boot_all boot_any boot_sum boot_max boot_min boot_range boot_enumerate boot_zip boot_sorted boot_set boot_divmod)
variable{P:nq}{w:oN}{K:mx}{mg:Str->nB mz}{base:oQ}
theorem JY:AU ["book"] ["book"] (AJ BJ):=scM
theorem IA:Ab ["book"] (AJ BJ) ["load"] (ixC [] 1) (LD BJ 0):=csM
theorem Hz:(["load"]:List Str).Nodup:=by decide+kernel
theorem A9  (S:St.Src K mg "held_at_first" BJ):D3 P w K mg base:=by
 refine dfM 0 S JY λhr hu=>?_
 exact(AI (AX (Ca [] 1 ["load"] rfl IA (DB (AL AZ (AB 0) AG)) (λs H fp=>⟨Ar 0 Hz,DV,A8 (AA (AL AZ (AB 0) AG) (AA (AL AZ (AB 0) AG) AF))⟩))))
theorem IK:AU ["deed","word"] ["deed"] (AJ DP):=scM
theorem De  (S:St.Src K mg "made_from" DP)(B:Bts mg):JG P w K mg base:=by
 refine dfM 0 S IK λhr hu=>?_
 exact(AH (Au 1 (AL AZ (AB 0) AG) IK.nd)
      (AH (By (Ad (Bm hu) (AB 1) A3) (AI (AX (Al J0 rfl B.sorted vW (AA (BW (AA (AL AZ (AB 0) AG) (AA (AL AZ (AB 0) AG) AF))) AF)))) Az)
      (AH (By (Ad Hc (AB 1) (A8 (AA A3 (AA A3 AF)))) (AI (AX (BW (AA (AL AZ (AB 0) (Ph Ib AG)) AF)))) Az)
      (AI (AX (BW AF))))))
theorem F3:AU ["deed","word"] ["deed"] (AJ CM):=scM
theorem CP  (S:St.Src K mg "made_from" CM)(B:Bts mg):Gs P w K mg base:=by
 refine dfM 0 S F3 λhr hu=>?_
 exact(AH (Au 1 (AL AZ (AB 0) AG) F3.nd)
      (AH (By (Ad (Bm hu) (AB 1) A3) (AI (AX (Al J0 rfl B.sorted vW (AA (BW (AA (AL AZ (AB 0) AG) (AA (AL AZ (AB 0) AG) AF))) AF)))) Az)
      (AH (By (Ad Hc (AB 1) (A8 (AA A3 (AA A3 AF)))) (AI (AX (BW (AA (AL AZ (AB 0) (Ph Ib AG)) AF)))) Az)
      (AI (AX (BW AF))))))
theorem Br:AU ["book","held","deeds","at","deed"] ["book"] (AJ Cd):=scM
theorem Cb  (S:St.Src K mg "first_wrong" Cd)(B:Bts mg)(F7:MY P w K mg base)(BS:FJ P w K mg base)(A9:D3 P w K mg base):Hl P w K mg base:=by
 refine dfM 3 S Br λhr hu=>?_
 exact(AH (Au 1 (deM A9 hr (AA (AB 0) AF)) Br.nd)
      (AH (Au 2 (AL AZ (AB 0) AG) Br.nd)
      (AH (FU om rfl (Uj rfl B.enumerate (AB 2)) (Gf rfl (AV (Ar 3 Br.nd) (AV (Ar 4 Br.nd) CH))) (AH (By (Ym (YT (deM F7 hr (AA (AB 1) (AA (P2 (AB 2) (AB 3)) (AA (AB 4) AF)))))) (AI (AX (AB 3))) Az)
      (AI (Au 1 (deM BS hr (AA (AB 1) (AA (AB 4) AF))) Br.nd))))
      (AI (AX X7)))))
theorem Ff:AU ["book","wrong"] ["book"] (AJ B6):=scM
theorem BA  (S:St.Src K mg "refuse_undone" B6)(Cb:Hl P w K mg base):D0 P w K mg base:=by
 refine dfM 4 S Ff λhr hu=>?_
 exact(AH (Au 1 (deM Cb hr (AA (AB 0) AF)) Ff.nd)
      (AI (By (Ad XN (AB 1) X7) (AI QX) Az)))
theorem Kw:AU ["book","many"] ["book","many"] (AJ B3):=scM
theorem Jd:Ab ["book","many"] (AJ B3) ["deed"] (ixC [] 1) (LD B3 0):=csM
theorem Jb:(["deed"]:List Str).Nodup:=by decide+kernel
theorem Bg  (S:St.Src K mg "many_loads" B3)(B:Bts mg)(Cp:RZ K mg "MAKERS" BP):Fw P w K mg base:=by
 refine dfM 0 S Kw λhr hu=>?_
 exact(AI (AX (Aj An (Al BQ rfl B.len qe (AA (AL AZ (AB 0) AG) AF)) (Al BQ rfl B.len qe (AA (Ca [] 1 ["deed"] rfl Jd (DB (P2 (AL AZ (AB 0) AG) (AB 1))) (λs H fp=>⟨Ar 0 Jb,Gh (Ad Hc (AL AZ (AB 0) AG) (LI Cp rfl)),AB 0⟩)) AF)))))
end
section
open PyProof.Rows (boot_isinstance boot_int boot_bool boot_tuple boot_str boot_list boot_abs boot_all boot_any boot_sum boot_max boot_min boot_range boot_enumerate boot_zip boot_sorted boot_set boot_divmod)
variable{P:nq}{w:oN}{K:mx}{mg:Str->nB mz}{base:oQ}
theorem IQ:AU ["book","load"] ["book","load"] (AJ Bv):=scM
theorem A1  (S:St.Src K mg "refuse_no_load" Bv)(B:Bts mg)(Dc:Iq P w K mg base)(Bg:Fw P w K mg base):Di P w K mg base:=by
 refine dfM 3 S IQ λhr hu=>?_
 exact(AI (By (Ym (YT (deM Dc hr (AA (AB 1) (AA AG (AA (Aj HL (deM Bg hr (AA (AB 0) (AA (Al BQ rfl B.len qe (AA (AL AZ (AB 0) AG) AF)) AF))) AG) AF)))))) (AI QX) Az))
theorem K5:AU ["many","one"] ["many","one"] (AJ Bz):=scM
theorem Jg:Ab ["many","one"] (AJ Bz) ["one","at"] (ixC [1] 1) (LD Bz 0):=csM
theorem Jq:(["one","at"]:List Str).Nodup:=by decide+kernel
theorem CS  (S:St.Src K mg "all_to_one" Bz)(B:Bts mg)(QP:RZ K mg "ALL" TR)(E8:RZ K mg "NOTHING" Hj):II P w K mg base:=by
 refine dfM 0 S K5 λhr hu=>?_
 exact(AI (AX (Bc Bn rfl B.tuple rP (AA (Ca [1] 1 ["one","at"] rfl Jg (Eb rfl B.range (AA (AB 0) AF)) (λs H fp=>⟨Ar 1 Jq,DV,iK (Ad (Bm hu) (AB 1) (AB 0)) (LI QP rfl) (LI E8 rfl)⟩)) AF))))
theorem Jt:AU ["shares","weight","others","more"] ["shares","weight","others","more"] (AJ Ba):=scM
theorem IV:Ab ["shares","weight","others","more"] (AJ Ba) ["weight","more","share","other"] (ixC [1,3] 2) (LD Ba 0):=csM
theorem FV:(["weight","more","share","other"]:List Str).Nodup:=by decide+kernel
theorem CL  (S:St.Src K mg "mixed_shares" Ba)(B:Bts mg)(HS:Oh P w K mg base):G3 P w K mg base:=by
 refine dfM 3 S Jt λhr hu=>?_
 exact(AI (AX (Bc Bn rfl B.tuple rP (AA (Ca [1,3] 2 ["weight","more","share","other"] rfl IV (Tv rfl B.zip (AB 0) (AB 2)) (λs H fp=>⟨Gf rfl (AV (Ar 2 FV) (AV (Ar 3 FV) CH)),DV,deM HS hr (AA (AB 2) (AA (AB 0) (AA (AB 3) (AA (AB 1) AF))))⟩)) AF))))
theorem C4:AU ["held","shares","deed","sources","load","other"] ["held","shares","deed"] (AJ Cc):=scM
theorem Cg  (S:St.Src K mg "made_shares" Cc)(B:Bts mg)(De:JG P w K mg base)(CL:G3 P w K mg base):HE P w K mg base:=by
 refine dfM 4 S C4 λhr hu=>?_
 exact(AH (Au 3 (deM De hr (AA (AB 2) AF)) C4.nd)
      (AH (By (Ad (Bm hu) (Al BQ rfl B.len qe (AA (AB 3) AF)) AG) (AI (AX (AL AZ (AB 1) (AL AZ (AB 3) AG)))) Az)
      (AH (IM (AB 3) (Gf rfl (AV (Ar 4 C4.nd) (AV (Ar 5 C4.nd) CH))))
      (AI (AX (deM CL hr (AA (AL AZ (AB 1) (AB 4)) (AA (AL AZ (AL AZ (AB 0) (AB 4)) AG) (AA (AL AZ (AB 1) (AB 5)) (AA (AL AZ (AL AZ (AB 0) (AB 5)) AG) AF))))))))))
theorem Gz:AU ["book","first","deeds"] ["book"] (AJ BC):=scM
theorem JP:Ab ["book","first","deeds"] (AJ BC) ["load"] (ixC [] 1) (LD BC 0):=csM
theorem JK:(["load"]:List Str).Nodup:=by decide+kernel
theorem JU:Ab ["book","first","deeds"] (AJ BC) ["deed"] (ixC [] 1) (LD BC 1):=csM
theorem JC:(["deed"]:List Str).Nodup:=by decide+kernel
theorem Cf  (S:St.Src K mg "all_sources" BC)(Cp:RZ K mg "MAKERS" BP)(CP:Gs P w K mg base):HR P w K mg base:=by
 refine dfM 1 S Gz λhr hu=>?_
 exact(AH (Hb (i:=1) (j:=2) rfl Gz.nd rfl rfl (by decide) rfl rfl (AL AZ (AB 0) AG) (AL AZ (AB 0) AG))
      (AI (AX (Aj An (Ca [] 1 ["load"] rfl JP (DB (AB 1)) (λs H fp=>⟨Ar 0 JK,DV,BW AF⟩)) (Ca [] 1 ["deed"] rfl JU (DB (AB 2)) (λs H fp=>⟨Ar 0 JC,Gh (Ad Hc (AL AZ (AB 0) AG) (LI Cp rfl)),deM CP hr (AA (AB 0) AF)⟩))))))
theorem Bs:AU ["book","many","held","origins","deed"] ["book"] (AJ Bl):=scM
theorem Io:Ab ["book","many","held","origins","deed"] (AJ Bl) ["many","root"] (ixC [1] 1) (LD Bl 0):=csM
theorem JM:(["many","root"]:List Str).Nodup:=by decide+kernel
theorem Ce  (S:St.Src K mg "all_origins" Bl)(B:Bts mg)(Cp:RZ K mg "MAKERS" BP)(BS:FJ P w K mg base)(A9:D3 P w K mg base)(Bg:Fw P w K mg base)(CS:II P w K mg base)(Cg:HE P w K mg base):Hm P w K mg base:=by
 refine dfM 5 S Bs λhr hu=>?_
 exact(AH (Au 1 (deM Bg hr (AA (AB 0) (AA (Al BQ rfl B.len qe (AA (AL AZ (AB 0) AG) AF)) AF))) Bs.nd)
      (AH (Au 2 (deM A9 hr (AA (AB 0) AF)) Bs.nd)
      (AH (Er [1] 1 ["many","root"] rfl Bs.nd rfl rfl Io (Eb rfl B.range (AA (Al BQ rfl B.len qe (AA (AB 2) AF)) AF)) (λs H fp=>⟨Ar 1 JM,DV,deM CS hr (AA (AB 0) (AA (AB 1) AF))⟩))
      (AH (FU om rfl (DB (AL AZ (AB 0) AG)) (Ar 4 Bs.nd) (AH (By (Ad (Bm hu) (AL AZ (AB 4) AG) A3) (AI (Bb (EL ny oB Cs (AB 3) (AA (deM CS hr (AA (AB 1) (AA (Al BQ rfl B.len qe (AA (AB 3) AF)) AF))) AF)))) (AI (By (Ad Hc (AL AZ (AB 4) AG) (LI Cp rfl)) (AI (Bb (EL ny oB Cs (AB 3) (AA (deM Cg hr (AA (AB 2) (AA (AB 3) (AA (AB 4) AF)))) AF)))) Az)))
      (AI (Au 2 (deM BS hr (AA (AB 2) (AA (AB 4) AF))) Bs.nd))))
      (AI (AX (AB 3)))))))
end
section
open PyProof.Rows (boot_isinstance boot_int boot_bool boot_tuple boot_str boot_list boot_abs boot_all boot_any boot_sum boot_max boot_min boot_range boot_enumerate boot_zip boot_sorted boot_set boot_divmod)
variable{P:nq}{w:oN}{K:mx}{mg:Str->nB mz}{base:oQ}
theorem OZ:AU ["book","load"] ["book","load"] (AJ FN):=scM
theorem FX  (S:St.Src K mg "made_of" FN)(BA:D0 P w K mg base)(A1:Di P w K mg base)(Cf:HR P w K mg base):Lj P w K mg base:=by
 refine dfM 5 S OZ λhr hu=>?_
 exact(AH (Bb (deM BA hr (AA (AB 0) AF)))
      (AH (Bb (deM A1 hr (AA (AB 0) (AA (AB 1) AF))))
      (AI (AX (AL AZ (deM Cf hr (AA (AB 0) AF)) (AB 1))))))
theorem LN:AU ["book","load"] ["book","load"] (AJ B2):=scM
theorem Jk:Ab ["book","load"] (AJ B2) ["root","share"] (ixC [] 2) (LD B2 0):=csM
theorem F2:(["root","share"]:List Str).Nodup:=by decide+kernel
theorem Cw  (S:St.Src K mg "origins_of" B2)(B:Bts mg)(BA:D0 P w K mg base)(A1:Di P w K mg base)(Ce:Hm P w K mg base):ID P w K mg base:=by
 refine dfM 6 S LN λhr hu=>?_
 exact(AH (Bb (deM BA hr (AA (AB 0) AF)))
      (AH (Bb (deM A1 hr (AA (AB 0) (AA (AB 1) AF))))
      (AI (AX (Ca [] 2 ["root","share"] rfl Jk (Uj rfl B.enumerate (AL AZ (deM Ce hr (AA (AB 0) AF)) (AB 1))) (λs H fp=>⟨Gf rfl (AV (Ar 0 F2) (AV (Ar 1 F2) CH)),Gh (Ad MS (AL AZ (AB 1) AG) AG),A8 (AA (AB 0) (AA (AB 1) AF))⟩))))))
theorem L8:AU ["_law_script","_law_k"] ["_law_script","_law_k"] (AJ DO):=scM
theorem Dk  (S:St.Src K mg "_law_cell_at" DO)(B:Bts mg):Iz P w K mg base:=by
 refine dfM 0 S L8 λhr hu=>?_
 exact(AH (By (Ad MK (AB 1) (Al BQ rfl B.len qe (AA (AB 0) AF))) (AI (AX (AL AZ (AB 0) (AB 1)))) Az)
      (AI (AX AG)))
theorem RQ:AU ["_law_cell"] ["_law_cell"] (AJ HW):=scM
theorem He  (S:St.Src K mg "_law_pen" HW)(B:Bts mg):Oi P w K mg base:=by
 refine dfM 0 S RQ λhr hu=>?_
 exact(AI (AX (BW (AA (AB 0) (AA (Bc K3 rfl B.int boot_int (AA (IJ Tu (AB 0) (Aj Tz AG AG)) AF)) (AA AG (AA (Aj Fs (AB 0) AG) AF)))))))
theorem Gb:AU ["_law_pen_here","_law_bound","_law_found","_law_stir"] ["_law_pen_here","_law_bound"] (AJ F8):=scM
theorem AO  (S:St.Src K mg "_law_draw" F8):Co P w K mg base:=by
 refine dfM 0 S Gb λhr hu=>?_
 exact(AH (By (DW.dt (PF (Ad (Bm hu) (AL AZ (AB 0) AG) AG) (LM (Ad MS (AL AZ (AB 0) AG) AG)))) (AH (Au 2 (Aj Fs (AL AZ (AB 0) AG) (AB 1)) Gb.nd)
      (AH (CV (Aj GU (AL AZ (AB 0) AG) (AB 1)) (AB 0) AG)
      (AI (AX (AB 2))))) Az)
      (AH (CV (Aj An (AL AZ (AB 0) AG) AG) (AB 0) AG)
      (AH (Au 3 (Aj Fs (Aj BU (Aj An (AL AZ (AB 0) AG) AG) (Aj An AG (Aj BU AG (AL AZ (AB 0) AG)))) AG) Gb.nd)
      (AH (Au 3 (Aj Fs (Aj An (Aj An (Aj BU (AB 3) (AB 3)) (Aj BU AG (AL AZ (AB 0) AG))) AG) AG) Gb.nd)
      (AI (AX (Aj Fs (Aj GU (Aj Fs (Aj BU (AB 3) AG) AG) AG) (AB 1))))))))
theorem JN:AU ["_law_one","_law_other"] ["_law_one","_law_other"] (AJ EN):=scM
theorem EE  (S:St.Src K mg "_law_common" EN):J9 P w K mg base:=by
 refine dfM 0 S JN λhr hu=>?_
 exact(AH (Qf (Rz 1) om (Ad MS (AB 1) AG) (AI (Hb (i:=0) (j:=1) rfl JN.nd rfl rfl (by decide) rfl rfl (AB 1) (Aj Fs (AB 0) (AB 1)))))
      (AI (AX (AB 0))))
end
section
open PyProof.Rows (boot_isinstance boot_int boot_bool boot_tuple boot_str boot_list boot_abs boot_all boot_any boot_sum boot_max boot_min boot_range boot_enumerate boot_zip boot_sorted boot_set boot_divmod)
variable{P:nq}{w:oN}{K:mx}{mg:Str->nB mz}{base:oQ}
theorem Kr:AU ["_law_top","_law_bottom","_law_by"] ["_law_top","_law_bottom"] (AJ GJ):=scM
theorem Ak  (S:St.Src K mg "_law_made" GJ)(B:Bts mg)(EE:J9 P w K mg base):C9 P w K mg base:=by
 refine dfM 1 S Kr λhr hu=>?_
 exact(AH (Au 2 (deM EE hr (AA (Al Kz rfl B.abs boot_abs (AA (AB 0) AF)) (AA (AB 1) AF))) Kr.nd)
      (AI (AX (A8 (AA (Aj GU (AB 0) (AB 2)) (AA (Aj GU (AB 1) (AB 2)) AF))))))
theorem Pw:AU ["_law_one","_law_other"] ["_law_one","_law_other"] (AJ F5):=scM
theorem Av  (S:St.Src K mg "_law_plus" F5)(Ak:C9 P w K mg base):Dv P w K mg base:=by
 refine dfM 2 S Pw λhr hu=>?_
 exact(AI (AX (deM Ak hr (AA (Aj An (Aj BU (AL AZ (AB 0) AG) (AL AZ (AB 1) AG)) (Aj BU (AL AZ (AB 1) AG) (AL AZ (AB 0) AG))) (AA (Aj BU (AL AZ (AB 0) AG) (AL AZ (AB 1) AG)) AF)))))
theorem PR:AU ["_law_one","_law_other"] ["_law_one","_law_other"] (AJ FD):=scM
theorem Ao  (S:St.Src K mg "_law_times" FD)(Ak:C9 P w K mg base):FW P w K mg base:=by
 refine dfM 2 S PR λhr hu=>?_
 exact(AI (AX (deM Ak hr (AA (Aj BU (AL AZ (AB 0) AG) (AL AZ (AB 1) AG)) (AA (Aj BU (AL AZ (AB 0) AG) (AL AZ (AB 1) AG)) AF)))))
theorem QA:AU ["_law_one","_law_other"] ["_law_one","_law_other"] (AJ GF):=scM
theorem C8  (S:St.Src K mg "_law_less" GF)(Av:Dv P w K mg base):Je P w K mg base:=by
 refine dfM 3 S QA λhr hu=>?_
 exact(AI (AX (deM Av hr (AA (AB 0) (AA (A8 (AA (Aj HL AG (AL AZ (AB 1) AG)) (AA (AL AZ (AB 1) AG) AF))) AF)))))
theorem Hq:AU ["_law_some","_law_found","_law_one"] ["_law_some"] (AJ HQ):=scM
theorem HY  (S:St.Src K mg "_law_sum" HQ)(Av:Dv P w K mg base):O7 P w K mg base:=by
 refine dfM 3 S Hq λhr hu=>?_
 exact(AH (Au 1 (A8 (AA AG (AA AG AF))) Hq.nd)
      (AH (FU om rfl (DB (AB 0)) (Ar 2 Hq.nd) (AI (Au 1 (deM Av hr (AA (AB 1) (AA (AB 2) AF))) Hq.nd)))
      (AI (AX (AB 1)))))
theorem KD:AU ["_law_pen_here","_law_many","_law_weights"] ["_law_pen_here","_law_many"] (AJ CJ):=scM
theorem Lu:Ab ["_law_pen_here","_law_many","_law_weights"] (AJ CJ) ["_law_pen_here","_law_one"] (ixC [0] 1) (LD CJ 0):=csM
theorem Ls:(["_law_pen_here","_law_one"]:List Str).Nodup:=by decide+kernel
theorem L0:Ab ["_law_pen_here","_law_many","_law_weights"] (AJ CJ) ["_law_weights","_law_weight"] (ixC [2] 1) (LD CJ 1):=csM
theorem L7:(["_law_weights","_law_weight"]:List Str).Nodup:=by decide+kernel
theorem CW  (S:St.Src K mg "_law_whole" CJ)(B:Bts mg)(AO:Co P w K mg base)(Ak:C9 P w K mg base):Ig P w K mg base:=by
 refine dfM 2 S KD λhr hu=>?_
 exact(AH (Au 2 (Ca [0] 1 ["_law_pen_here","_law_one"] rfl Lu (Eb rfl B.range (AA (AB 1) AF)) (λs H fp=>⟨Ar 1 Ls,DV,AL AZ (BW (AA AG (AA AG (AA (deM AO hr (AA (AB 0) (AA AG AF))) (AA (deM AO hr (AA (AB 0) (AA AG AF))) AF))))) (deM AO hr (AA (AB 0) (AA AG AF)))⟩)) KD.nd)
      (AH (By (Ad (Bm hu) (Al (LO rfl) rfl B.sum boot_sum (AA (AB 2) AF)) AG) (AI (CV AG (AB 2) (deM AO hr (AA (AB 0) (AA (AB 1) AF))))) Az)
      (AI (AX (Bc Bn rfl B.tuple rP (AA (Ca [2] 1 ["_law_weights","_law_weight"] rfl L0 (DB (AB 2)) (λs H fp=>⟨Ar 1 L7,DV,deM Ak hr (AA (AB 1) (AA (Al (LO rfl) rfl B.sum boot_sum (AA (AB 0) AF)) AF))⟩)) AF))))))
end
section
open PyProof.Rows (boot_isinstance boot_int boot_bool boot_tuple boot_str boot_list boot_abs boot_all boot_any boot_sum boot_max boot_min boot_range boot_enumerate boot_zip boot_sorted boot_set boot_divmod)
variable{P:nq}{w:oN}{K:mx}{mg:Str->nB mz}{base:oQ}
theorem JA:AU ["_law_pen_here","_law_great"] ["_law_pen_here"] (AJ EM):=scM
theorem Bh  (S:St.Src K mg "_law_pieces" EM)(AO:Co P w K mg base):HA P w K mg base:=by
 refine dfM 1 S JA λhr hu=>?_
 exact(AH (Au 1 (Aj An (Aj Tz AG AG) (deM AO hr (AA (AB 0) (AA AG AF)))) JA.nd)
      (AI (AX (AL AZ (BW (AA (Aj An AG (deM AO hr (AA (AB 0) (AA AG AF)))) (AA (Aj An AG (deM AO hr (AA (AB 0) (AA AG AF)))) (AA (Aj An AG (deM AO hr (AA (AB 0) (AA AG AF)))) (AA (AB 1) AF))))) (Aj GU (deM AO hr (AA (AB 0) (AA AG AF))) AG)))))
theorem HG:AU ["_law_pen_here","_law_partners","_law_kinds","_law_beasts"] ["_law_pen_here"] (AJ FP):=scM
theorem FR  (S:St.Src K mg "_law_train" FP)(AO:Co P w K mg base)(CW:Ig P w K mg base):LX P w K mg base:=by
 refine dfM 3 S HG λhr hu=>?_
 exact(AH (Hb (i:=1) (j:=2) rfl HG.nd rfl rfl (by decide) rfl rfl (Aj An AG (deM AO hr (AA (AB 0) (AA AG AF)))) (Aj An AG (deM AO hr (AA (AB 0) (AA AG AF)))))
      (AH (Au 3 (AL AZ (BW (AA (Aj An AG (deM AO hr (AA (AB 0) (AA AG AF)))) (AA (Aj An AG (deM AO hr (AA (AB 0) (AA AG AF)))) AF))) (deM AO hr (AA (AB 0) (AA AG AF)))) HG.nd)
      (AI (AX (A8 (AA (AB 1) (AA (AB 2) (AA (AB 3) (AA (deM CW hr (AA (AB 0) (AA (AB 1) AF))) (AA (deM AO hr (AA (AB 0) (AA AG AF))) (AA (deM AO hr (AA (AB 0) (AA AG AF))) AF)))))))))))
theorem HU:AU ["_law_pen_here","_law_train_here","_law_found","_law_k"] ["_law_pen_here","_law_train_here"] (AJ E7):=scM
theorem Ey  (S:St.Src K mg "_law_first" E7)(B:Bts mg)(AO:Co P w K mg base)(CW:Ig P w K mg base)(Bh:HA P w K mg base):Ku P w K mg base:=by
 refine dfM 3 S HU λhr hu=>?_
 exact(AH (Au 2 (BW AF) HU.nd)
      (AH (FU om rfl (Eb rfl B.range (AA (AL AZ (BW (AA AG (AA AG (AA (deM AO hr (AA (AB 0) (AA AG AF))) AF)))) (deM AO hr (AA (AB 0) (AA AG AF)))) AF)) (Ar 3 HU.nd) (AI (Bb (EL ny oB Cs (AB 2) (AA (A8 (AA (deM AO hr (AA (AB 0) (AA (AL AZ (AB 1) AG) AF))) (AA (deM Bh hr (AA (AB 0) AF)) (AA (deM CW hr (AA (AB 0) (AA (AL AZ (AB 1) AG) AF))) AF)))) AF)))))
      (AI (AX (Bc Bn rfl B.tuple rP (AA (AB 2) AF))))))
theorem KC:AU ["_law_pen_here","_law_bottom"] ["_law_pen_here"] (AJ FI):=scM
theorem FO  (S:St.Src K mg "_law_share" FI)(AO:Co P w K mg base)(Ak:C9 P w K mg base):LL P w K mg base:=by
 refine dfM 2 S KC λhr hu=>?_
 exact(AH (Au 1 (Aj An AG (deM AO hr (AA (AB 0) (AA AG AF)))) KC.nd)
      (AI (AX (deM Ak hr (AA (Aj An AG (deM AO hr (AA (AB 0) (AA (AB 1) AF)))) (AA (AB 1) AF))))))
theorem N9:AU ["_law_pen_here","_law_many"] ["_law_pen_here","_law_many"] (AJ Cm):=scM
theorem Li:Ab ["_law_pen_here","_law_many"] (AJ Cm) ["_law_pen_here","_law_one"] (ixC [0] 1) (LD Cm 0):=csM
theorem LK:(["_law_pen_here","_law_one"]:List Str).Nodup:=by decide+kernel
theorem ET  (S:St.Src K mg "_law_worths" Cm)(B:Bts mg)(AO:Co P w K mg base):J3 P w K mg base:=by
 refine dfM 1 S N9 λhr hu=>?_
 exact(AI (AX (Bc Bn rfl B.tuple rP (AA (Ca [0] 1 ["_law_pen_here","_law_one"] rfl Li (Eb rfl B.range (AA (AB 1) AF)) (λs H fp=>⟨Ar 1 LK,DV,Aj An AG (AL AZ (BW (AA (deM AO hr (AA (AB 0) (AA AG AF))) (AA (deM AO hr (AA (AB 0) (AA AG AF))) AF))) (deM AO hr (AA (AB 0) (AA AG AF))))⟩)) AF))))
theorem OO:AU ["_law_book_here"] ["_law_book_here"] (AJ C5):=scM
theorem Lx:Ab ["_law_book_here"] (AJ C5) ["_law_load"] (ixC [] 1) (LD C5 0):=csM
theorem Lz:(["_law_load"]:List Str).Nodup:=by decide+kernel
theorem Cj  (S:St.Src K mg "_law_begun" C5)(B:Bts mg):Ic P w K mg base:=by
 refine dfM 0 S OO λhr hu=>?_
 exact(AI (AX (BW (AA (Ca [] 1 ["_law_load"] rfl Lx (DB (AL AZ (AB 0) AG)) (λs H fp=>⟨Ar 0 Lz,DV,Bc Mu rfl B.list zM (AA (AB 0) AF)⟩)) (AA (Bc Bn rfl B.tuple rP (AA (AL AZ (AL AZ (AB 0) AG) AG) AF)) (AA (BW AF) AF))))))
end
section
open PyProof.Rows (boot_isinstance boot_int boot_bool boot_tuple boot_str boot_list boot_abs boot_all boot_any boot_sum boot_max boot_min boot_range boot_enumerate boot_zip boot_sorted boot_set boot_divmod)
variable{P:nq}{w:oN}{K:mx}{mg:Str->nB mz}{base:oQ}
theorem Dm:AU ["_law_one","_law_other","_law_found","_law_mine","_law_its","_law_both"] ["_law_one","_law_other"] (AJ EH):=scM
theorem EK  (S:St.Src K mg "_law_pooled" EH)(B:Bts mg)(Ak:C9 P w K mg base)(Av:Dv P w K mg base)(Ao:FW P w K mg base):KI P w K mg base:=by
 refine dfM 3 S Dm λhr hu=>?_
 exact(AH (Au 2 (BW AF) Dm.nd)
      (AH (FU om rfl (Tv rfl B.zip (AL AZ (AB 0) AG) (AL AZ (AB 1) AG)) (Gf rfl (AV (Ar 3 Dm.nd) (AV (Ar 4 Dm.nd) CH))) (AH (Au 5 (deM Av hr (AA (deM Ao hr (AA (A8 (AA (AL AZ (AB 0) AG) (AA AG AF))) (AA (AB 3) AF))) (AA (deM Ao hr (AA (A8 (AA (AL AZ (AB 1) AG) (AA AG AF))) (AA (AB 4) AF))) AF))) Dm.nd)
      (AI (Bb (EL ny oB Cs (AB 2) (AA (deM Ao hr (AA (AB 5) (AA (deM Ak hr (AA AG (AA (Aj An (AL AZ (AB 0) AG) (AL AZ (AB 1) AG)) AF))) AF))) AF))))))
      (AI (AX (Bc Bn rfl B.tuple rP (AA (AB 2) AF))))))
theorem Ia:AU ["_law_train_here","_law_loads","_law_deed_here","_law_worths_here","_law_whole_here"] ["_law_train_here","_law_loads","_law_deed_here"] (AJ Dw):=scM
theorem NP:Ab ["_law_train_here","_law_loads","_law_deed_here","_law_worths_here","_law_whole_here"] (AJ Dw) ["_law_worths_here","_law_kind","_law_pieces_here","_law_owners"] (ixC [3] 3) (LD Dw 0):=csM
theorem Gm:(["_law_worths_here","_law_kind","_law_pieces_here","_law_owners"]:List Str).Nodup:=by decide+kernel
theorem F4  (S:St.Src K mg "_law_cost" Dw)(B:Bts mg)(Ak:C9 P w K mg base):MG P w K mg base:=by
 refine dfM 2 S Ia λhr hu=>?_
 exact(AH (Au 3 (AL AZ (AB 2) AG) Ia.nd)
      (AH (Au 4 (Aj An (Al (LO rfl) rfl B.sum boot_sum (AA (Ca [3] 3 ["_law_worths_here","_law_kind","_law_pieces_here","_law_owners"] rfl NP (DB (AB 1)) (λs H fp=>⟨Gf rfl (AV (Ar 1 Gm) (AV (Ar 2 Gm) (AV (Ar 3 Gm) CH))),DV,Aj BU (AB 2) (AL AZ (AB 0) (AB 1))⟩)) AF)) (Aj BU (AL AZ (AB 0) AG) (AL AZ (AB 3) (Ph Ib AG)))) Ia.nd)
      (AI (AX (deM Ak hr (AA (Aj BU (AL AZ (AB 2) AG) (AL AZ (AB 3) (AL AZ (AL AZ (AB 1) (AL AZ (AB 2) AG)) AG))) (AA (AB 4) AF)))))))
theorem Fo:AU ["_law_shares","_law_part","_law_owners","_law_found","_law_mine","_law_its"] ["_law_shares","_law_part","_law_owners"] (AJ FL):=scM
theorem D4  (S:St.Src K mg "_law_borne" FL)(B:Bts mg)(Av:Dv P w K mg base)(Ao:FW P w K mg base)(C8:Je P w K mg base):K1 P w K mg base:=by
 refine dfM 4 S Fo λhr hu=>?_
 exact(AH (Au 3 (BW AF) Fo.nd)
      (AH (FU om rfl (Tv rfl B.zip (AB 0) (AB 2)) (Gf rfl (AV (Ar 4 Fo.nd) (AV (Ar 5 Fo.nd) CH))) (AI (Bb (EL ny oB Cs (AB 3) (AA (deM Av hr (AA (deM Ao hr (AA (AB 4) (AA (deM C8 hr (AA (A8 (AA AG (AA AG AF))) (AA (AB 1) AF))) AF))) (AA (deM Ao hr (AA (AB 5) (AA (AB 1) AF))) AF))) AF)))))
      (AI (AX (Bc Bn rfl B.tuple rP (AA (AB 3) AF))))))
theorem IT:AU ["_law_shares","_law_deed_here","_law_found","_law_passes"] ["_law_shares","_law_deed_here"] (AJ GO):=scM
theorem Ew  (S:St.Src K mg "_law_sold" GO)(B:Bts mg)(Av:Dv P w K mg base)(Ao:FW P w K mg base)(C8:Je P w K mg base):ME P w K mg base:=by
 refine dfM 4 S IT λhr hu=>?_
 exact(AH (Au 2 (Bc Mu rfl B.list zM (AA (AB 0) AF)) IT.nd)
      (AH (Au 3 (deM Ao hr (AA (AL AZ (AB 2) (AL AZ (AB 1) AG)) (AA (AL AZ (AB 1) AG) AF))) IT.nd)
      (AH (CV (deM C8 hr (AA (AL AZ (AB 2) (AL AZ (AB 1) AG)) (AA (AB 3) AF))) (AB 2) (AL AZ (AB 1) AG))
      (AH (CV (deM Av hr (AA (AL AZ (AB 2) (AL AZ (AB 1) AG)) (AA (AB 3) AF))) (AB 2) (AL AZ (AB 1) AG))
      (AI (AX (Bc Bn rfl B.tuple rP (AA (AB 2) AF))))))))
theorem C7:AU ["_law_train_here","_law_state","_law_deed_here","_law_loads","_law_holders","_law_numbers","_law_part","_law_owners","_law_load"] ["_law_train_here","_law_state","_law_deed_here"] (AJ GB):=scM
theorem GH  (S:St.Src K mg "_law_turn" GB)(F4:MG P w K mg base)(D4:K1 P w K mg base)(Ew:ME P w K mg base):Mt P w K mg base:=by
 refine dfM 5 S C7 λhr hu=>?_
 exact(AH (IM (AB 1) (Gf rfl (AV (Ar 3 C7.nd) (AV (Ar 4 C7.nd) (AV (Ar 5 C7.nd) CH)))))
      (AI (By (Ad (Bm hu) (AL AZ (AB 2) AG) A3) (AH (Hb (i:=6) (j:=7) rfl C7.nd rfl rfl (by decide) rfl rfl (deM F4 hr (AA (AB 0) (AA (AB 3) (AA (AB 2) AF)))) (AL AZ (AL AZ (AB 3) (AL AZ (AB 2) AG)) AG))
      (AH (CV (Aj HL (AL AZ (AL AZ (AB 3) (AL AZ (AB 2) AG)) AG) (AL AZ (AB 2) AG)) (AL AZ (AB 3) (AL AZ (AB 2) AG)) AG)
      (AH (FU om rfl (DB (AB 3)) (Ar 8 C7.nd) (AI (CV (deM D4 hr (AA (AL AZ (AB 8) AG) (AA (AB 6) (AA (AB 7) AF)))) (AB 8) AG)))
      (AI (CV (deM D4 hr (AA (AB 4) (AA (AB 6) (AA (AB 7) AF)))) (AB 1) AG))))) (AH (FU om rfl (DB (AB 3)) (Ar 8 C7.nd) (AI (CV (deM Ew hr (AA (AL AZ (AB 8) AG) (AA (AB 2) AF))) (AB 8) AG)))
      (AI (CV (deM Ew hr (AA (AB 4) (AA (AB 2) AF))) (AB 1) AG))))))
theorem Cv:AU ["_law_train_here","_law_state","_law_deed_here","_law_loads","_law_holders","_law_numbers","_law_word","_law_one","_law_other","_law_load","_law_given","_law_kind","_law_got"] ["_law_train_here","_law_state","_law_deed_here"] (AJ GS):=scM
theorem P1:Ab ["_law_train_here","_law_state","_law_deed_here","_law_loads","_law_holders","_law_numbers","_law_word","_law_one","_law_other","_law_load","_law_given","_law_kind","_law_got"] (AJ GS) ["_law_deed_here","_law_one"] (ixC [2] 1) (LD GS 0):=csM
theorem QC:(["_law_deed_here","_law_one"]:List Str).Nodup:=by decide+kernel
theorem Fq  (S:St.Src K mg "_law_do" GS)(B:Bts mg)(EK:KI P w K mg base)(GH:Mt P w K mg base):Mw P w K mg base:=by
 refine dfM 6 S Cv λhr hu=>?_
 exact(AH (IM (AB 1) (Gf rfl (AV (Ar 3 Cv.nd) (AV (Ar 4 Cv.nd) (AV (Ar 5 Cv.nd) CH)))))
      (AH (Au 6 (AL AZ (AB 2) AG) Cv.nd)
      (AI (By (Ad (Bm hu) (AB 6) A3) (AI (Bb (EL ny oB Cs (AB 3) (AA (BW (AA (AL AZ (AB 2) AG) (AA (AL AZ (AB 2) AG) (AA (Bc Bn rfl B.tuple rP (AA (Ca [2] 1 ["_law_deed_here","_law_one"] rfl P1 (Eb rfl B.range (AA (AL AZ (AB 0) AG) AF)) (λs H fp=>⟨Ar 1 QC,DV,A8 (AA (Bc K3 rfl B.int boot_int (AA (IJ (Bm hu) (AB 1) (AL AZ (AB 0) AG)) AF)) (AA AG AF))⟩)) AF)) AF)))) AF)))) (AI (By (Ad (Bm hu) (AB 6) A3) (AH (Hb (i:=7) (j:=8) rfl Cv.nd rfl rfl (by decide) rfl rfl (AL AZ (AB 3) (AL AZ (AB 2) AG)) (AL AZ (AB 3) (AL AZ (AB 2) AG)))
      (AH (Bb (EL ny oB Cs (AB 3) (AA (BW (AA (AL AZ (AB 7) AG) (AA (Aj An (AL AZ (AB 7) AG) (AL AZ (AB 8) AG)) (AA (deM EK hr (AA (AB 7) (AA (AB 8) AF))) AF)))) AF)))
      (AH (CV AG (AB 7) AG)
      (AI (CV AG (AB 8) AG))))) (AI (By (Ad Hc (AB 6) (A8 (AA A3 (AA A3 AF)))) (AH (IM (NT (AB 2) (Ph Ib AG)) (Gf rfl (AV (Ar 9 Cv.nd) (AV (Ar 10 Cv.nd) (AV (Ar 11 Cv.nd) (AV (Ar 12 Cv.nd) CH))))))
      (AH (CV (Aj HL (AL AZ (AL AZ (AB 3) (AB 9)) AG) (AB 10)) (AL AZ (AB 3) (AB 9)) AG)
      (AH (Bb (EL ny oB Cs (AB 3) (AA (BW (AA (AB 11) (AA (AB 12) (AA (AL AZ (AL AZ (AB 3) (AB 9)) AG) AF)))) AF)))
      (AI (Bb (EL uZ PySem.F.type_list_extend ZU (AB 5) (AA (Aj BU (Ue (AB 2) AG AG) (Bc K3 rfl B.int boot_int (AA (IJ (Bm hu) (AB 6) A3) AF))) AF))))))) (AI (By (Ad (Bm hu) (AB 6) A3) (AI (CV (Aj HL (AL AZ (AL AZ (AB 3) (AL AZ (AB 2) AG)) AG) (AL AZ (AB 2) AG)) (AL AZ (AB 3) (AL AZ (AB 2) AG)) AG)) (AI (Bb (deM GH hr (AA (AB 0) (AA (AB 1) (AA (AB 2) AF))))))))))))))))
end
section
open PyProof.Rows (boot_isinstance boot_int boot_bool boot_tuple boot_str boot_list boot_abs boot_all boot_any boot_sum boot_max boot_min boot_range boot_enumerate boot_zip boot_sorted boot_set boot_divmod)
variable{P:nq}{w:oN}{K:mx}{mg:Str->nB mz}{base:oQ}
theorem BZ:AU ["_law_pen_here","_law_train_here","_law_state","_law_loads","_law_holders","_law_numbers","_law_full","_law_way","_law_load","_law_some","_law_same","_law_kind","_law_left","_law_partner"] ["_law_pen_here","_law_train_here","_law_state"] (AJ B5):=scM
theorem Nv:Ab ["_law_pen_here","_law_train_here","_law_state","_law_loads","_law_holders","_law_numbers","_law_full","_law_way","_law_load","_law_some","_law_same","_law_kind","_law_left","_law_partner"] (AJ B5) ["_law_at","_law_load"] (ixC [] 2) (LD B5 0):=csM
theorem Ij:(["_law_at","_law_load"]:List Str).Nodup:=by decide+kernel
theorem NX:Ab ["_law_pen_here","_law_train_here","_law_state","_law_loads","_law_holders","_law_numbers","_law_full","_law_way","_law_load","_law_some","_law_same","_law_kind","_law_left","_law_partner"] (AJ B5) ["_law_loads","_law_load","_law_at"] (ixC [3,8] 1) (LD B5 1):=csM
theorem NB:(["_law_loads","_law_load","_law_at"]:List Str).Nodup:=by decide+kernel
theorem Nb:Ab ["_law_pen_here","_law_train_here","_law_state","_law_loads","_law_holders","_law_numbers","_law_full","_law_way","_law_load","_law_some","_law_same","_law_kind","_law_left","_law_partner"] (AJ B5) ["_law_numbers","_law_number"] (ixC [5] 1) (LD B5 2):=csM
theorem NU:(["_law_numbers","_law_number"]:List Str).Nodup:=by decide+kernel
theorem F0  (S:St.Src K mg "_law_deed" B5)(B:Bts mg)(AO:Co P w K mg base)(Bh:HA P w K mg base)(FO:LL P w K mg base)(ET:J3 P w K mg base):Mb P w K mg base:=by
 refine dfM 3 S BZ λhr hu=>?_
 exact(AH (IM (AB 2) (Gf rfl (AV (Ar 3 BZ.nd) (AV (Ar 4 BZ.nd) (AV (Ar 5 BZ.nd) CH)))))
      (AH (Er [] 2 ["_law_at","_law_load"] rfl BZ.nd rfl rfl Nv (Uj rfl B.enumerate (AB 3)) (λs H fp=>⟨Gf rfl (AV (Ar 0 Ij) (AV (Ar 1 Ij) CH)),Gh (Ad MS (AL AZ (AB 1) AG) AG),AB 0⟩))
      (AH (Au 7 (deM AO hr (AA (AB 0) (AA AG AF))) BZ.nd)
      (AH (By (DW.dt (Xx (Ad MK (AB 7) AG) (Qb (Ad (Bm hu) (AB 6) (BW AF))))) (AI (AX (A8 (AA A3 (AA (deM AO hr (AA (AB 0) (AA (AL AZ (AB 1) AG) AF))) (AA (deM AO hr (AA (AB 0) (AA (AL AZ (AB 1) AG) AF))) (AA (deM Bh hr (AA (AB 0) AF)) AF))))))) Az)
      (AH (Au 8 (AL AZ (AB 6) (deM AO hr (AA (AB 0) (AA (Al BQ rfl B.len qe (AA (AB 6) AF)) AF)))) BZ.nd)
      (AH (Au 9 (Aj An AG (deM AO hr (AA (AB 0) (AA (Al (Ou rfl) rfl B.min boot_min (AA (AL AZ (AL AZ (AB 3) (AB 8)) AG) (AA AG AF))) AF)))) BZ.nd)
      (AH (By (Ad MK (AB 7) AG) (AH (Er [3,8] 1 ["_law_loads","_law_load","_law_at"] rfl BZ.nd rfl rfl NX (DB (AB 6)) (λs H fp=>⟨Ar 2 NB,Gh (DW.dt (PF (Ad (HK hu) (AB 2) (AB 1)) (LM (Ad (Bm hu) (AL AZ (AL AZ (AB 0) (AB 2)) AG) (AL AZ (AL AZ (AB 0) (AB 1)) AG))))),AB 2⟩))
      (AI (By (Ad (HK hu) (AB 10) (BW AF)) (AI (AX (A8 (AA A3 (AA (AB 8) (AA (AL AZ (AB 10) (deM AO hr (AA (AB 0) (AA (Al BQ rfl B.len qe (AA (AB 10) AF)) AF)))) AF)))))) Az))) Az)
      (AH (By (DW.dt (PF (Ad MK (AB 7) AG) (LM (Ad MS (AL AZ (AB 1) AG) AG)))) (AH (Au 11 (Aj Fs (Aj An (Aj An (AL AZ (AL AZ (AB 3) (AB 8)) AG) AG) (deM AO hr (AA (AB 0) (AA (Aj HL (AL AZ (AB 1) AG) AG) AF)))) (AL AZ (AB 1) AG)) BZ.nd)
      (AH (Er [5] 1 ["_law_numbers","_law_number"] rfl BZ.nd rfl rfl Nb (Eb rfl B.range (AA AG AF)) (λs H fp=>⟨Ar 1 NU,Gh (Ad Oe (AB 1) (AB 0)),AB 1⟩))
      (AH (By (DW.dt (PF (Ad (Bm hu) (AB 7) AG) (LM (Ad (HK hu) (AB 12) (BW AF))))) (AI (AX (A8 (AA A3 (AA (AL AZ (AB 12) (deM AO hr (AA (AB 0) (AA (Al BQ rfl B.len qe (AA (AB 12) AF)) AF)))) (AA (AB 8) (AA (AB 9) (AA (AB 11) (AA (deM Bh hr (AA (AB 0) AF)) AF))))))))) Az)
      (AI (AX (A8 (AA A3 (AA (AB 8) (AA (AB 9) (AA (AB 11) (AA (deM Bh hr (AA (AB 0) AF)) AF))))))))))) Az)
      (AH (By (Ad (Bm hu) (AB 7) AG) (AI (AX (A8 (AA A3 (AA (AB 8) (AA (AB 9) AF)))))) Az)
      (AH (By (DW.dt (PF (Ad (Bm hu) (AB 7) AG) (LM (Ad MS (AL AZ (AB 1) AG) AG)))) (AH (Au 13 (deM AO hr (AA (AB 0) (AA (AL AZ (AB 1) AG) AF))) BZ.nd)
      (AI (AX (A8 (AA A3 (AA (AB 13) (AA (Aj Fs (Aj An (Aj An (AB 13) AG) (deM AO hr (AA (AB 0) (AA (Aj HL (AL AZ (AB 1) AG) AG) AF)))) (AL AZ (AB 1) AG)) (AA (deM FO hr (AA (AB 0) AF)) AF)))))))) Az)
      (AI (AX (A8 (AA A3 (AA (AB 8) (AA (AB 9) (AA (deM ET hr (AA (AB 0) (AA (Aj An (AL AZ (AB 1) AG) AG) AF))) AF)))))))))))))))))
theorem Dx:AU ["_law_pen_here","_law_most","_law_train_here","_law_first_here","_law_state","_law_deeds","_law_k","_law_deed_here"] ["_law_pen_here","_law_most"] (AJ Dy):=scM
theorem NQ:Ab ["_law_pen_here","_law_most","_law_train_here","_law_first_here","_law_state","_law_deeds","_law_k","_law_deed_here"] (AJ Dy) ["_law_one"] (ixC [] 1) (LD Dy 0):=csM
theorem NV:(["_law_one"]:List Str).Nodup:=by decide+kernel
theorem GP  (S:St.Src K mg "_law_book" Dy)(B:Bts mg)(AO:Co P w K mg base)(FR:LX P w K mg base)(Ey:Ku P w K mg base)(Cj:Ic P w K mg base)(Fq:Mw P w K mg base)(F0:Mb P w K mg base):Mg P w K mg base:=by
 refine dfM 7 S Dx λhr hu=>?_
 exact(AH (Au 2 (deM FR hr (AA (AB 0) AF)) Dx.nd)
      (AH (Au 3 (deM Ey hr (AA (AB 0) (AA (AB 2) AF))) Dx.nd)
      (AH (Hb (i:=4) (j:=5) rfl Dx.nd rfl rfl (by decide) rfl rfl (deM Cj hr (AA (A8 (AA (AB 2) (AA (AB 3) (AA (A8 AF) AF)))) AF)) (BW AF))
      (AH (FU om rfl (Eb rfl B.range (AA (deM AO hr (AA (AB 0) (AA (Aj An (AB 1) AG) AF))) AF)) (Ar 6 Dx.nd) (AH (Au 7 (deM F0 hr (AA (AB 0) (AA (AB 2) (AA (AB 4) AF)))) Dx.nd)
      (AI (By (DW.dt (Xx (Ad (HK hu) (AL AZ (AB 7) AG) A3) (Qb (Ad MK (Al BQ rfl B.len qe (AA (Ca [] 1 ["_law_one"] rfl NQ (DB (AB 5)) (λs H fp=>⟨Ar 0 NV,Gh (Ad (Bm hu) (AL AZ (AB 0) AG) A3),AB 0⟩)) AF)) AG)))) (AH (Bb (deM Fq hr (AA (AB 2) (AA (AB 4) (AA (AB 7) AF)))))
      (AI (Bb (EL ny oB Cs (AB 5) (AA (AB 7) AF))))) Az))))
      (AI (AX (A8 (AA (AB 2) (AA (AB 3) (AA (Bc Bn rfl B.tuple rP (AA (AB 5) AF)) AF))))))))))
theorem Fv:AU ["_law_book_here","_law_found","_law_deed_here"] ["_law_book_here"] (AJ CG):=scM
theorem KQ:Ab ["_law_book_here","_law_found","_law_deed_here"] (AJ CG) ["_law_load"] (ixC [] 1) (LD CG 0):=csM
theorem KN:(["_law_load"]:List Str).Nodup:=by decide+kernel
theorem DY  (S:St.Src K mg "_law_parents" CG)(B:Bts mg):Ir P w K mg base:=by
 refine dfM 0 S Fv λhr hu=>?_
 exact(AH (Er [] 1 ["_law_load"] rfl Fv.nd rfl rfl KQ (DB (AL AZ (AB 0) AG)) (λs H fp=>⟨Ar 0 KN,DV,BW AF⟩))
      (AH (FU om rfl (DB (AL AZ (AB 0) AG)) (Ar 2 Fv.nd) (AI (By (Ad (Bm hu) (AL AZ (AB 2) AG) A3) (AI (Bb (EL ny oB Cs (AB 1) (AA (BW AF) AF)))) (AI (By (Ad (Bm hu) (AL AZ (AB 2) AG) A3) (AI (Bb (EL ny oB Cs (AB 1) (AA (Al N8 rfl B.sorted vW (AA (Ue (AB 2) AG AG) AF)) AF)))) (AI (By (Ad Hc (AL AZ (AB 2) AG) (A8 (AA A3 (AA A3 AF)))) (AI (Bb (EL ny oB Cs (AB 1) (AA (BW (AA (AL AZ (AB 2) (Ph Ib AG)) AF)) AF)))) Az)))))))
      (AI (AX (AB 1)))))
theorem BB:AU ["_law_book_here","_law_state","_law_found","_law_deed_here","_law_one","_law_other","_law_mine","_law_its","_law_row","_law_root","_law_both"] ["_law_book_here"] (AJ CF):=scM
theorem KP:Ab ["_law_book_here","_law_state","_law_found","_law_deed_here","_law_one","_law_other","_law_mine","_law_its","_law_row","_law_root","_law_both"] (AJ CF) ["_law_load"] (ixC [] 1) (LD CF 0):=csM
theorem Ka:(["_law_load"]:List Str).Nodup:=by decide+kernel
theorem DQ  (S:St.Src K mg "_law_origins" CF)(B:Bts mg)(Ak:C9 P w K mg base)(Av:Dv P w K mg base)(Ao:FW P w K mg base)(Cj:Ic P w K mg base)(Fq:Mw P w K mg base):JR P w K mg base:=by
 refine dfM 7 S BB λhr hu=>?_
 exact(AH (Hb (i:=1) (j:=2) rfl BB.nd rfl rfl (by decide) rfl rfl (deM Cj hr (AA (AB 0) AF)) (Ca [] 1 ["_law_load"] rfl KP (Eb rfl B.range (AA (Al BQ rfl B.len qe (AA (AL AZ (AB 0) AG) AF)) AF)) (λs H fp=>⟨Ar 0 Ka,DV,Yv (Qh (AB 0) (A8 (AA AG (AA AG AF))) UA) (zR _ _) (by decide)⟩)))
      (AH (FU om rfl (DB (AL AZ (AB 0) AG)) (Ar 3 BB.nd) (AH (By (Ad (Bm hu) (AL AZ (AB 3) AG) A3) (AI (Bb (EL ny oB Cs (AB 2) (AA (Yv (Qh (Al BQ rfl B.len qe (AA (AB 2) AF)) (A8 (AA AG (AA AG AF))) UA) (zR _ _) (by decide)) AF)))) (AI (By (Ad (Bm hu) (AL AZ (AB 3) AG) A3) (AH (IM (NT (AB 3) AG) (Gf rfl (AV (Ar 4 BB.nd) (AV (Ar 5 BB.nd) CH))))
      (AH (Hb (i:=6) (j:=7) rfl BB.nd rfl rfl (by decide) rfl rfl (AL AZ (AL AZ (AL AZ (AB 1) AG) (AB 4)) AG) (AL AZ (AL AZ (AL AZ (AB 1) AG) (AB 5)) AG))
      (AH (Au 8 gq BB.nd)
      (AH (FU om rfl (DB (hU rfl rfl B.sorted rfl B.set (AA (Aj An (c7 rfl rfl B.list (AA (AL AZ (AB 2) (AB 4)) AF)) (c7 rfl rfl B.list (AA (AL AZ (AB 2) (AB 5)) AF))) AF))) (Ar 9 BB.nd) (AH (Au 10 (deM Ao hr (AA (A8 (AA (AB 6) (AA AG AF))) (AA (Yj hu (AL AZ (AB 2) (AB 4)) (AB 9) (A8 (AA AG (AA AG AF))) ⟨rfl,rfl,rfl,rfl⟩) AF))) BB.nd)
      (AH (Au 10 (deM Av hr (AA (AB 10) (AA (deM Ao hr (AA (A8 (AA (AB 7) (AA AG AF))) (AA (Yj hu (AL AZ (AB 2) (AB 5)) (AB 9) (A8 (AA AG (AA AG AF))) ⟨rfl,rfl,rfl,rfl⟩) AF))) AF))) BB.nd)
      (AI (aZ hu (deM Ao hr (AA (AB 10) (AA (deM Ak hr (AA AG (AA (Aj An (AB 6) (AB 7)) AF))) AF))) (AB 8) (AB 9))))))
      (AI (Bb (EL ny oB Cs (AB 2) (AA (AB 8) AF)))))))) (AI (By (Ad Hc (AL AZ (AB 3) AG) (A8 (AA A3 (AA A3 AF)))) (AI (Bb (EL ny oB Cs (AB 2) (AA (ie rfl B.dict RP (AA (AL AZ (AB 2) (AL AZ (AB 3) (Ph Ib AG))) AF)) AF)))) Az)))))
      (AI (Bb (deM Fq hr (AA (AL AZ (AB 0) AG) (AA (AB 1) (AA (AB 3) AF))))))))
      (AI (AX (AB 2)))))
theorem EC:AU ["_law_script","_law_k","_law_pen_here","_law_book_here","_law_rows","_law_shares","_law_load","_law_due","_law_turn_here","_law_named","_law_some"] ["_law_script"] (AJ Fy):=scM
theorem RM:Ab ["_law_script","_law_k","_law_pen_here","_law_book_here","_law_rows","_law_shares","_law_load","_law_due","_law_turn_here","_law_named","_law_some"] (AJ Fy) ["_law_root","_law_share_here"] (ixC [] 2) (LD Fy 0):=csM
theorem MJ:(["_law_root","_law_share_here"]:List Str).Nodup:=by decide+kernel
theorem RK:Ab ["_law_script","_law_k","_law_pen_here","_law_book_here","_law_rows","_law_shares","_law_load","_law_due","_law_turn_here","_law_named","_law_some"] (AJ Fy) ["_law_rows","_law_root","_law_share_here"] (ixC [4] 2) (LD Fy 1):=csM
theorem MV:(["_law_rows","_law_root","_law_share_here"]:List Str).Nodup:=by decide+kernel
end
theorem nr{α:Sort _}{a b:α}(h:a=b):a=b:=h
@[simp high] theorem A4{α β:Type}(a:α)(f:α->Option β):(some a).bind f=f a:=Eq.mp (congrArg (λz=>z=f a) rfl) (Eq.refl (f a))
@[simp high] theorem jN{α β:Type}(a:α)(f:α->β):(some a).map f=some (f a):=Eq.mp (congrArg (λz=>z=some (f a)) rfl) (Eq.refl (some (f a)))
section
variable{E:En}{S:Sto}{op:OpN}{f g c:Ev}{d:D}{i:Nat}{w:Wv}{a b e h r':D}{r:List D}{fs:List Ev}
@[simp] theorem mZ{o:Option D}{E:En}:at? (o::E) 0=o:=nr rfl
@[simp] theorem mW{o:Option D}{E:En}{i:Nat}:at? (o::E) (i+1)=at? E i:=nr rfl
@[simp] theorem jr:eC d E S=some (d,S):=nr rfl
@[simp] theorem jo:eV i E S=(at? E i).map λd=>(d,S):=nr rfl
@[simp] theorem Zk:evs [] E S=some ([],S):=nr rfl
@[simp] theorem C2:evs (f::fs) E S=(f E S).bind λr=>(evs fs E r.2).map λq=>(r.1::q.1,q.2):=nr rfl
@[simp] theorem Ur{cf:Bool}:Nc cf op fs E S=(evs fs E S).bind λr=>(op (r.1.map (dr r.2))).bind λw=>fin cf w r.2:=nr rfl
@[simp] theorem mM{cf:Bool}:fin cf (.val d) S=some (d,S):=by cases cf<;>rfl
@[simp] theorem kZ:fin false (.own r) S=some (.lst r,S):=nr rfl
@[simp] theorem lA:fin true (.own r) S=some (.ref S.length,S++[.lst r]):=nr rfl
@[simp] theorem jt:dr S .non=.val .non:=nr rfl
@[simp] theorem lV{b:Bool}:dr S (.bl b)=.val (.bl b):=nr rfl
@[simp] theorem j0{i:Int}:dr S (.int i)=.val (.int i):=nr rfl
@[simp] theorem kK{x:Str}:dr S (.str x)=.val (.str x):=nr rfl
@[simp] theorem lg{x:String}:dr S (.ty x)=.val (.ty x):=nr rfl
@[simp] theorem kL:dr S (.tup r)=.val (.tup r):=nr rfl
@[simp] theorem jy:dr S (.lst r)=.val (.lst r):=nr rfl
@[simp] theorem kQ{ns:List Int}:dr S (.scr ns)=.val (.scr ns):=nr rfl
theorem Ah{n:Nat}(h:S[n]?=Gc (.lst r)):dr S (.ref n)=.own r:=by
 show(match S[n]? with|some (.lst ds)=>Wv.own ds|_=>.val (.ref n))=_
 rw[h]
theorem AS{n:Nat}(h:S[n]?=Gc (.lst r)):Ea S n=Gc r:=by
 unfold Ea
 rw[h]
@[simp] theorem jj:fz (.val d)=d:=nr rfl
@[simp] theorem kG:fz (.own r)=.lst r:=nr rfl
noncomputable def iZ(g:Ev)(E:En)(r:D×Sto):nB (D×Sto):=match r.1 with| .bl true=>g E r.2| .bl false=>Gc (.bl false,r.2)|_=>none
noncomputable def orK(g:Ev)(E:En)(r:D×Sto):nB (D×Sto):=match r.1 with| .bl false=>g E r.2| .bl true=>Gc (.bl true,r.2)|_=>none
noncomputable def ju(r:D×Sto):nB (D×Sto):=match r.1 with| .bl b=>Gc (.bl (!b),r.2)|_=>none
noncomputable def ifK(f g:Ev)(E:En)(r:D×Sto):nB (D×Sto):=match r.1 with| .bl true=>f E r.2| .bl false=>g E r.2|_=>none
@[simp] theorem j5:iZ g E (.bl true,S)=g E S:=nr rfl
@[simp] theorem kJ:iZ g E (.bl false,S)=some (.bl false,S):=nr rfl
@[simp] theorem lU:orK g E (.bl false,S)=g E S:=nr rfl
@[simp] theorem kr:orK g E (.bl true,S)=some (.bl true,S):=nr rfl
@[simp] theorem jw{b:Bool}:ju (.bl b,S)=some (.bl (!b),S):=nr rfl
@[simp] theorem mO:ifK f g E (.bl true,S)=f E S:=nr rfl
@[simp] theorem lH:ifK f g E (.bl false,S)=g E S:=nr rfl
@[simp] theorem fF:Lk f g E S=(f E S).bind (iZ g E):=nr rfl
@[simp] theorem QB:eOr f g E S=(f E S).bind (orK g E):=nr rfl
@[simp] theorem fE:aq f E S=(f E S).bind ju:=nr rfl
@[simp] theorem gi:eIf c f g E S=(c E S).bind (ifK f g E):=nr rfl
@[simp] theorem fD:CY fs E S=(evs fs E S).bind λr=>if r.1.length<=sizeLine then some (.tup r.1,r.2)else none:=nr rfl
@[simp] theorem gT{cf:Bool}:WB cf fs E S=(evs fs E S).bind λr=>if r.1.length<=sizeLine then fin cf (.own r.1) r.2 else none:=nr rfl
@[simp] theorem bw{F:Fn}:AM F fs E S=(evs fs E S).bind λr=>F r.1 r.2:=nr rfl
noncomputable def kU(op:Mo)(fs:List Ev)(E:En)(r:D×Sto):nB (D×Sto):=match r.1 with
 | .ref n=>(Ea r.2 n).bind λ_=>(evs fs E r.2).bind λp=>(Ea p.2 n).bind λds=>(op p.2 ds p.1).map λq=>(q.1,p.2.set n (.lst q.2))
 |_=>none
@[simp] theorem fG{op:Mo}{n:Nat}:kU op fs E (.ref n,S)=(Ea S n).bind λ_=>(evs fs E S).bind λp=>(Ea p.2 n).bind λds=>(op p.2 ds p.1).map λq=>(q.1,p.2.set n (.lst q.2)):=nr rfl
@[simp] theorem fS{op:Mo}:G7 op f fs E S=(f E S).bind (kU op fs E):=nr rfl
@[simp] theorem eX:Hx S r [d]=if r.length<sizeLine then some (.non,r++[d])else none:=nr rfl
@[simp] theorem fB:cS S r []=some (.non,[]):=nr rfl
variable{x y:Ex}
noncomputable def cB(y:Ex)(r:Fl×En×Sto):nB (Fl×En×Sto):=match r.1 with| .nx=>y r.2.1 r.2.2| .ret w=>Gc (.ret w,r.2)
noncomputable def jZ(x y:Ex)(E:En)(r:D×Sto):nB (Fl×En×Sto):=match r.1 with| .bl true=>x E r.2| .bl false=>y E r.2|_=>none
@[simp] theorem Jl:cB y (.nx,E,S)=y E S:=nr rfl
@[simp] theorem gM{w:D}:cB y (.ret w,E,S)=some (.ret w,E,S):=nr rfl
@[simp] theorem kN:jZ x y E (.bl true,S)=x E S:=nr rfl
@[simp] theorem kH:jZ x y E (.bl false,S)=y E S:=nr rfl
@[simp] theorem M9:Ag x y E S=(x E S).bind (cB y):=nr rfl
@[simp] theorem gR:Ed E S=some (.nx,E,S):=nr rfl
@[simp] theorem Pg:xIf c x y E S=(c E S).bind (jZ x y E):=nr rfl
@[simp] theorem gD:Bq f E S=(f E S).map λr=>(.ret r.1,E,r.2):=nr rfl
@[simp] theorem X3:CC i f E S=(f E S).map λr=>(.nx,E.set i (some r.1),r.2):=nr rfl
@[simp] theorem SI:Bp f E S=(f E S).map λr=>(.nx,E,r.2):=nr rfl
noncomputable def jn(d b:D)(E:En)(i:D×Sto):nB (Fl×En×Sto):=match b,i.1 with
 | .ref n,.int j=>(Ea i.2 n).bind λds=>(ixN ds.length j).map λm=>(.nx,E,i.2.set n (.lst (ds.set m d)))
 |_,_=>none
@[simp] theorem gB{n:Nat}{j:Int}:jn d (.ref n) E (.int j,S)=(Ea S n).bind λds=>(ixN ds.length j).map λm=>(.nx,E,S.set n (.lst (ds.set m d))):=nr rfl
@[simp] theorem ff{k o:Ev}:OB k f o E S=(k E S).bind λr=>(f E r.2).bind λb=>(o E b.2).bind (jn r.1 b.1 E):=nr rfl
@[simp] theorem gf{t:Tf}:P7 t f E S=(f E S).bind λr=>(t r.1 E r.2).map λE'=>(.nx,E',r.2):=nr rfl
@[simp] theorem gC{i j:Nat}:Nm i j f g E S=(f E S).bind λr=>(g E r.2).map λq=>(.nx,(E.set i (some r.1)).set j (some q.1),q.2):=by
  unfold Nm
  rw[C2]
  cases f E S with
  |none=>rfl
  |some r=>
   rw[A4,A4,C2]
   cases g E r.2 with
   |none=>rfl
   |some q=>rfl
@[simp] theorem ae:tNm i d E S=some (E.set i (some d)):=nr rfl
@[simp] theorem jR{ts:List Tf}{ds:List D}:tTp ts (.tup ds) E S=tMs ts ds E S:=nr rfl
@[simp] theorem iC{ts:List Tf}{ds:List D}:tTp ts (.lst ds) E S=tMs ts ds E S:=nr rfl
@[simp] theorem jI{ts:List Tf}{n:Nat}:tTp ts (.ref n) E S=(Ea S n).bind λds=>tMs ts ds E S:=nr rfl
@[simp] theorem jC:tMs [] [] E S=some E:=nr rfl
@[simp] theorem fg{t:Tf}{ts:List Tf}{ds:List D}:tMs (t::ts) (d::ds) E S=(t d E S).bind λE1=>tMs ts ds E1 S:=nr rfl
@[simp] theorem dE{N:Nat}{ds:List D}:BD (BH N x) ds S=(x (ds.map some++List.replicate (N-ds.length) none) S).map λr=>(flD r.1,r.2.2):=by rw[SN];rfl
@[simp] theorem j6:flD .nx=.non:=nr rfl
@[simp] theorem jY:flD (.ret d)=d:=nr rfl
@[simp] theorem gv{i j:Int}:Dt (.val (.int i)) (.val (.int j))=some (.val (.int (i+j))):=nr rfl
@[simp] theorem iI{xs ys:List D}:Dt (.val (.lst xs)) (.val (.lst ys))=if xs.length+ys.length<=sizeLine then some (.own (xs++ys))else none:=nr rfl
@[simp] theorem gL{i j:Int}:EZ (.val (.int i)) (.val (.int j))=if D5 i j=true then some (.val (.int (i*j)))else none:=nr rfl
@[simp] theorem fJ{k:Int}:EZ (.val (.tup r)) (.val (.int k))=if(!r.isEmpty && decide (k<=0) && decide (-(2^63)<=k))=true then some (.val (.tup []))else if(!r.isEmpty && decide (1<=k) && decide (r.length*k.toNat<=sizeLine))=true then some (.val (.tup (List.replicate k.toNat r).flatten))else none:=nr rfl
@[simp] theorem hJ:asS (.own r)=some r:=nr rfl
@[simp] theorem jV:asS (.val (.lst r))=some r:=nr rfl
@[simp] theorem hZ:asS (.val (.tup r))=some r:=nr rfl
@[simp] theorem jT{ns:List Int}:asS (.val (.scr ns))=some (ns.map .int):=nr rfl
@[simp] theorem jU{j:Int}:wIx w (.val (.int j))=(asS w).bind λds=>(atI ds j).map .val:=nr rfl
theorem CT{α:Type}{xs:List α}{n:Nat}{x:α}(h:xs[n]?=Gc x):atI xs (n:Int)=Gc x:=Y7 h
theorem Yu{α:Type}{xs:List α}{i:Int}(h0:0<=i)(h1:i<xs.length):atI xs i=Gc (xs[i.toNat]'(by lia)):=by
 have:atI xs ((i.toNat:Nat):Int)=Gc (xs[i.toNat]'(by lia)):=CT (nN (by lia))
 rwa [ox h0]at this
@[simp] theorem lx:atI (a::r) 0=some a:=CT (n:=0) rfl
@[simp] theorem lJ:atI (a::b::r) 1=some b:=CT (n:=1) rfl
@[simp] theorem lE:atI (a::b::e::r) 2=some e:=CT (n:=2) rfl
@[simp] theorem lD:atI (a::b::e::h::r) 3=some h:=CT (n:=3) rfl
@[simp] theorem mP{k:D}:atI (a::b::e::h::k::r) 4=some k:=CT (n:=4) rfl
theorem QH{n k:Nat}(h:k<n):ixN n (k:Int)=Gc k:=by
 unfold ixN
 simp
 lia
theorem Qt{n:Nat}{i:Int}(h0:0<=i)(h1:i<n):ixN n i=Gc i.toNat:=by
 have:=QH (n:=n) (k:=i.toNat) (by lia)
 rwa [ox h0]at this
@[simp] theorem lu{n:Nat}:ixN (n+1) 0=some 0:=Qt (by decide) (by lia)
@[simp] theorem ki{n:Nat}:ixN (n+2) 1=some 1:=Qt (by decide) (by lia)
@[simp] theorem lX{n:Nat}:ixN (n+3) 2=some 2:=Qt (by decide) (by lia)
@[simp] theorem ji{i j:Int}:deq (.int i) (.int j)=(i==j):=nr rfl
@[simp] theorem iB{i j:Int}:EB (.int i) (.int j)=true:=nr rfl
@[simp] theorem jd{w':Wv}:wEq w w'=if EB (fz w) (fz w')=true then some (.val (.bl (deq (fz w) (fz w'))))else none:=nr rfl
@[simp] theorem iX{w':Wv}:wNe w w'=if EB (fz w) (fz w')=true then some (.val (.bl (!deq (fz w) (fz w'))))else none:=nr rfl
@[simp] theorem gw{i j:Int}:wLt (.val (.int i)) (.val (.int j))=some (.val (.bl (decide (i<j)))):=nr rfl
@[simp] theorem gy{i j:Int}:wLe (.val (.int i)) (.val (.int j))=some (.val (.bl (decide (i<=j)))):=nr rfl
@[simp] theorem jA{i j:Int}:wGt (.val (.int i)) (.val (.int j))=some (.val (.bl (decide (j<i)))):=nr rfl
@[simp] theorem iy{i j:Int}:wGe (.val (.int i)) (.val (.int j))=some (.val (.bl (decide (j<=i)))):=nr rfl
@[simp] theorem gO{i j:Int}:R6 (.val (.int i)) (.val (.int j))=some (.val (.int (i-j))):=nr rfl
@[simp] theorem fL{i:Int}:R3 (.val (.int i))=some (.val (.int (-i))):=nr rfl
@[simp] theorem gI{i j:Int}:Pa (.val (.int i)) (.val (.int j))=(if 0<j then some (.val (.int (i % j)))else none):=by
  show x9 Wv.val (if 0<j then Gc (D.int (i % j))else none)=_
  split<;>rfl
@[simp] theorem bq{i j:Int}:OA (.val (.int i)) (.val (.int j))=(if(decide (0<j) && decide (j.natAbs<Fg))=true then some (.val (.int (i / j)))else none):=by
  show x9 Wv.val (if(decide (0<j) && decide (j.natAbs<Fg))=true then Gc (D.int (i / j))else none)=_
  split<;>rfl
@[simp] theorem fN{i j:Int}:fI (.val (.int i)) (.val (.int j))=if(decide (0<=j) && decide (j<=1000) && decide (i.natAbs<2^64))=true then some (.val (.int (i^j.toNat)))else none:=by
  show x9 Wv.val (if(decide (0<=j) && decide (j<=1000) && decide (i.natAbs<2^64))=true then Gc (D.int (i^j.toNat))else none)=_
  split<;>rfl
@[simp] theorem fZ{i:Int}:bB (.val (.int i))=some (.val (.int (i.natAbs:Int))):=by
  show Gc (Wv.val (D.int (if i<0 then-i else i)))=_
  congr 3
  split<;>lia
@[simp] theorem gZ:Gu (.own r)=some (.val (.int r.length)):=nr rfl
@[simp] theorem Vy:Gu (.val (.lst r))=some (.val (.int r.length)):=nr rfl
@[simp] theorem gJ:Gu (.val (.tup r))=some (.val (.int r.length)):=nr rfl
@[simp] theorem fV{ns:List Int}:Gu (.val (.scr ns))=some (.val (.int ns.length)):=by
  show Gc (Wv.val (D.int ((ns.map D.int).length:Nat)))=_
  rw[oG]
@[simp] theorem aw:Fd w=(asS w).map λds=>.val (.tup ds):=nr rfl
@[simp] theorem dG:Pm w=(asS w).map λds=>.own ds:=nr rfl
@[simp] theorem kT{b:Bool}:Zj (.val (.bl b))=some (.val (.int (if b then 1 else 0))):=nr rfl
@[simp] theorem gQ{i j:Int}:gP (.val (.int i)) (.val (.int j))=some (.val (.int (if j>i then j else i))):=nr rfl
@[simp] theorem gF{i j:Int}:az (.val (.int i)) (.val (.int j))=some (.val (.int (if j<i then j else i))):=nr rfl
@[simp] theorem fe{T:String}:br w (.val (.ty T))=if RL T=true then(kdW w).map λk=>.val (.bl (k.isA T))else none:=nr rfl
@[simp] theorem iw:RL "int"=true:=by decide
@[simp] theorem fY:RL "bool"=true:=by decide
theorem AQ{n:Nat}(h:n<=1000):n<=sizeLine:=nL h (by decide)
@[simp] theorem sz1:(1:Nat)<=sizeLine:=AQ (by decide)
@[simp] theorem sz2:(2:Nat)<=sizeLine:=AQ (by decide)
@[simp] theorem sz3:(3:Nat)<=sizeLine:=AQ (by decide)
@[simp] theorem sz4:(4:Nat)<=sizeLine:=AQ (by decide)
@[simp] theorem sz5:(5:Nat)<=sizeLine:=AQ (by decide)
@[simp] theorem sz6:(6:Nat)<=sizeLine:=AQ (by decide)
@[simp] theorem Ik:DM E S=some (.bl true,S):=nr rfl
@[simp] theorem eZ{s:Sr}{t:Tf}{b:Ex}:Kn s t b E S=(s E S).bind λr=>KR r.1.2 t b r.1.1 E r.2:=nr rfl
@[simp] theorem Ae:gOk [] S:=λ_ h=>(nomatch h)
theorem GX{gs:Gd}{t:Tf}{b:Ex}(h:gOk gs S):KR gs t b [] E S=Gc (.nx,E,S):=by
 unfold KR
 rw[nh h]
theorem Uo {gs : Gd} {t : Tf} {b : Ex} {ds : List D} (h : gOk gs S) : KR gs t b (d :: ds) E S = (t d E S).bind fun E1 => (b E1 S).bind fun r => match r.1 with
    | .nx => KR gs t b ds r.2.1 r.2.2
    | .ret w => Gc (.ret w, r.2) := by
  rw [KR, nh h]
  all_goals rfl
theorem D7{gs:Gd}{t:Tf}{b:Ex}{ds:List D}(h:gOk gs S):KR gs t b (d::ds) E S=(t d E S).bind λE1=>(b E1 S).bind (cB (KR gs t b ds)):=by
 rw[Uo h]
 rfl
@[simp] theorem gS:IP f E S=(f E S).bind λr=>(sqD r.2 r.1).map λp=>(p,r.2):=nr rfl
@[simp] theorem gj:sqD S (.tup r)=some (r,[]):=nr rfl
@[simp] theorem gu:sqD S (.lst r)=some (r,[]):=nr rfl
theorem HJ{n:Nat}(h:S[n]?=Gc (.lst r)):sqD S (.ref n)=Gc (r,[(n,r)]):=by
 show(Ea S n).map (λds=>(ds,[(n,ds)]))=_
 rw[AS h]
 rfl
@[simp] theorem fm:ax f E S=(f E S).bind λr=>(sqD r.2 r.1).map λp=>((N6 0 p.1,p.2),r.2):=nr rfl
@[simp] theorem gX:bA f g E S=(f E S).bind λr=>(g E r.2).bind λq=>(sqD q.2 r.1).bind λa=>(sqD q.2 q.1).map λb=>((OC a.1 b.1,a.2++b.2),q.2):=by
  unfold bA
  rw[C2]
  cases f E S with
  |none=>rfl
  |some r=>
   rw[A4,A4,C2]
   cases g E r.2 with
   |none=>rfl
   |some q=>rfl
noncomputable def Hy(j:Int):oO:=decide (-(2^62)<=j) && decide (j<2^62)
theorem Dp{j:Int}(h: -1000000<=j)(g:j<=1000000):Hy j=true:=by
 unfold Hy
 rw[nW]
 exact⟨pJ (by lia),pJ (by lia)⟩
noncomputable def j8(S:Sto):D->nB ((List D×Gd)×Sto)
 | .int j=>if Hy j=true then Gc ((KS 0 j.toNat,[]),S)else none
 |_=>none
@[simp] theorem eW{j:Int}:j8 S (.int j)=if Hy j=true then some ((KS 0 j.toNat,[]),S)else none:=nr rfl
@[simp] theorem gc:Ly [f] E S=(f E S).bind λr=>j8 r.2 r.1:=by
  unfold Ly
  rw[C2]
  cases f E S with
  |none=>rfl
  |some r=>
   obtain⟨d,S1⟩:=r
   rw[A4,Zk,jN,A4,A4]
   cases d<;>rfl
@[simp] theorem cE{cf:Bool}{cap:List Nat}{m:Nat}{s:Sr}{t:Tf}:MO cf cap m s t c f E S=(s E S).bind λr=>(CI r.1.2 t c f r.1.1 [] (bP cap m E) r.2).bind λq=>fin cf (.own q.1) q.2:=nr rfl
@[simp] theorem gH{cap:List Nat}{m:Nat}:bP cap m E=cap.map (at? E)++List.replicate m none:=nr rfl
@[simp] theorem Rn{i:Int}:Im (.int i::r)=(Im r).map λns=>i::ns:=by
  unfold Im
  rw[List.mapM_cons]
  show(do let r1<-Gc i;let rs<-List.mapM intD r;pure (r1::rs))=_
  cases List.mapM intD r<;>rfl
theorem GC:∀(ns:List Int),Im (ns.map D.int)=Gc ns
 | []=>rfl
 |n::ns=>by rw[nR,Rn,GC ns];rfl
@[simp] theorem fW:Yr (.own r)=(Im r).map λns=>.val (.int ns.sum):=nr rfl
@[simp] theorem fw:Yr (.val (.lst r))=(Im r).map λns=>.val (.int ns.sum):=nr rfl
@[simp] theorem kD:fQ true w (.val .non)=some (.val (.bl (!isN w))):=nr rfl
@[simp] theorem lF{i:Int}{w:Wv}:MQ true false [w,.val (.int i)]=wSl (some i) none w:=nr rfl
@[simp] theorem lN{i:Int}{w:Wv}:MQ false true [w,.val (.int i)]=wSl none (some i) w:=nr rfl
@[simp] theorem mK{i j:Int}{w:Wv}:MQ true true [w,.val (.int i),.val (.int j)]=wSl (some i) (some j) w:=nr rfl
@[simp] theorem iE{lo hi:Option Int}:wSl lo hi (.val (.tup r))=some (.val (.tup (MB r lo hi))):=nr rfl
end
structure Bu(A:List Nat)(S S':Sto):Prop where
 len:S.length<=S'.length
 keep:∀n,n<S.length->n∉A->S'[n]?=S[n]?
theorem Bu.refl{A:List Nat}{S:Sto}:Bu A S S:=⟨nG _,λ_ _ _=>rfl⟩
theorem Bu.trans{A:List Nat}{S S' S2:Sto}(h:Bu A S S')(g:Bu A S' S2):Bu A S S2:=⟨nL h.len g.len,λn hn ha=>(g.keep n (nE hn h.len) ha).trans (h.keep n hn ha)⟩
theorem Bu.mono{A B:List Nat}{S S':Sto}(h:Bu A S S')(s:∀n∈A,n∈B):Bu B S S':=⟨h.len,λn hn hb=>h.keep n hn λz=>hb (s n z)⟩
theorem Bu.get{A:List Nat}{S S':Sto}(h:Bu A S S'){n:Nat}{c:Cl}(e:S[n]?=Gc c)(ha:n∉A):S'[n]?=Gc c:=by
 rw[h.keep n (nP.mp e).1 ha];exact e
theorem Bu.app{A:List Nat}{S T:Sto}:Bu A S (S++T):=⟨by simp,λn hn _=>nF hn⟩
theorem Bu.set{A:List Nat}{S:Sto}{n:Nat}{c:Cl}(h:n∈A):Bu A S (S.set n c):=⟨by simp,λm hm ha=>nI (λz=>ha (by rw[<-z];exact h))⟩
theorem Bu.new{A:List Nat}{S S' S2:Sto}(h:Bu A S S')(g:Bu (A++B) S' S2)(hb:∀n∈B,S.length<=n):Bu A S S2:=⟨nL h.len g.len,λn hn ha=>(g.keep n (nE hn h.len) (λz=>by
 rcases oC.mp z with z|z
 .exact ha z
 .have:=hb n z;lia)).trans (h.keep n hn ha)⟩
theorem Aa{S:Sto}{n:Nat}{c:Cl}(h:S[n]?=Gc c):n<S.length:=(nP.mp h).1
section
variable{E:En}{S:Sto}{f g h k l m:Ev}{cf:oO}{F:Fn}
@[simp high] theorem fT{op:Op1}:Nc cf (o1 op) [f] E S=(f E S).bind λr=>(op (dr r.2 r.1)).bind λw=>fin cf w r.2:=by
  rw[Ur,C2];cases f E S<;>rfl
@[simp high] theorem Xy{op:Op2}:Nc cf (o2 op) [f,g] E S=(f E S).bind λr=>(g E r.2).bind λq=>(op (dr q.2 r.1) (dr q.2 q.1)).bind λw=>fin cf w q.2:=by
  rw[Ur,C2]
  cases f E S with
  |none=>rfl
  |some r=>rw[A4,A4,C2];cases g E r.2<;>rfl
theorem kP:evs [f] E S=(f E S).bind λr=>Gc ([r.1],r.2):=by rw[C2];cases f E S<;>rfl
theorem jx:evs [f,g] E S=(f E S).bind λr=>(g E r.2).bind λq=>Gc ([r.1,q.1],q.2):=by
 rw[C2];cases f E S with
 |none=>rfl
 |some r=>rw[A4,A4,kP];cases g E r.2<;>rfl
theorem js:evs [f,g,h] E S=(f E S).bind λr=>(g E r.2).bind λq=>(h E q.2).bind λu=>Gc ([r.1,q.1,u.1],u.2):=by
 rw[C2];cases f E S with
 |none=>rfl
 |some r=>rw[A4,A4,jx];cases g E r.2 with
  |none=>rfl
  |some q=>rw[A4,A4];cases h E q.2<;>rfl
theorem kq:evs [f,g,h,k] E S=(f E S).bind λr=>(g E r.2).bind λq=>(h E q.2).bind λu=>(k E u.2).bind λv=>Gc ([r.1,q.1,u.1,v.1],v.2):=by
 rw[C2];cases f E S with
 |none=>rfl
 |some r=>rw[A4,A4,js];cases g E r.2 with
  |none=>rfl
  |some q=>rw[A4,A4];cases h E q.2 with
   |none=>rfl
   |some u=>rw[A4,A4];cases k E u.2<;>rfl
@[simp high] theorem lZ:evs [f] E S=(f E S).bind λr=>some ([r.1],r.2):=kP
@[simp high] theorem ky:evs [f,g] E S=(f E S).bind λr=>(g E r.2).bind λq=>some ([r.1,q.1],q.2):=jx
@[simp high] theorem lT:evs [f,g,h] E S=(f E S).bind λr=>(g E r.2).bind λq=>(h E q.2).bind λu=>some ([r.1,q.1,u.1],u.2):=js
@[simp high] theorem lq:evs [f,g,h,k] E S=(f E S).bind λr=>(g E r.2).bind λq=>(h E q.2).bind λu=>(k E u.2).bind λv=>some ([r.1,q.1,u.1,v.1],v.2):=kq
@[simp high] theorem mR{d:D}:eV 0 (some d::E) S=some (d,S):=nr rfl
@[simp high] theorem mV{d:D}{o0:Option D}:eV 1 (o0::some d::E) S=some (d,S):=nr rfl
@[simp high] theorem mX{d:D}{o0 o1:Option D}:eV 2 (o0::o1::some d::E) S=some (d,S):=nr rfl
@[simp high] theorem mh{d:D}{o0 o1 o2:Option D}:eV 3 (o0::o1::o2::some d::E) S=some (d,S):=nr rfl
@[simp high] theorem mw{d:D}{o0 o1 o2 o3:Option D}:eV 4 (o0::o1::o2::o3::some d::E) S=some (d,S):=nr rfl
@[simp high] theorem mQ{d:D}{o0 o1 o2 o3 o4:Option D}:eV 5 (o0::o1::o2::o3::o4::some d::E) S=some (d,S):=nr rfl
@[simp high] theorem mS{d:D}{o0 o1 o2 o3 o4 o5:Option D}:eV 6 (o0::o1::o2::o3::o4::o5::some d::E) S=some (d,S):=nr rfl
@[simp high] theorem mY{d:D}{o0 o1 o2 o3 o4 o5 o6:Option D}:eV 7 (o0::o1::o2::o3::o4::o5::o6::some d::E) S=some (d,S):=nr rfl
@[simp high] theorem mT{d:D}{o0 o1 o2 o3 o4 o5 o6 o7:Option D}:eV 8 (o0::o1::o2::o3::o4::o5::o6::o7::some d::E) S=some (d,S):=nr rfl
@[simp high] theorem mq{d:D}{o0 o1 o2 o3 o4 o5 o6 o7 o8:Option D}:eV 9 (o0::o1::o2::o3::o4::o5::o6::o7::o8::some d::E) S=some (d,S):=nr rfl
@[simp high] theorem ku{d:D}{o0 o1 o2 o3 o4 o5 o6 o7 o8 o9:Option D}:eV 10 (o0::o1::o2::o3::o4::o5::o6::o7::o8::o9::some d::E) S=some (d,S):=nr rfl
@[simp high] theorem mN{d:D}{o0 o1 o2 o3 o4 o5 o6 o7 o8 o9 o10:Option D}:eV 11 (o0::o1::o2::o3::o4::o5::o6::o7::o8::o9::o10::some d::E) S=some (d,S):=nr rfl
@[simp high] theorem l8{d:D}{o0 o1 o2 o3 o4 o5 o6 o7 o8 o9 o10 o11:Option D}:eV 12 (o0::o1::o2::o3::o4::o5::o6::o7::o8::o9::o10::o11::some d::E) S=some (d,S):=nr rfl
@[simp high] theorem kx{d:D}{o0 o1 o2 o3 o4 o5 o6 o7 o8 o9 o10 o11 o12:Option D}:eV 13 (o0::o1::o2::o3::o4::o5::o6::o7::o8::o9::o10::o11::o12::some d::E) S=some (d,S):=nr rfl
@[simp 20000] theorem kW{op:Op2}{d:D}:Nc cf (o2 op) [f,eC d] E S=(f E S).bind λr=>(op (dr r.2 r.1) (dr r.2 d)).bind λw=>fin cf w r.2:=by
  rw[Xy];cases f E S<;>rfl
@[simp high] theorem fO{i:Nat}{y:Ex}:Ag (CC i f) y E S=(f E S).bind λr=>y (E.set i (some r.1)) r.2:=by
  rw[M9,X3];cases f E S<;>rfl
@[simp high] theorem fq{y:Ex}:Ag (Bp f) y E S=(f E S).bind λr=>y E r.2:=by
  rw[M9,SI];cases f E S<;>rfl
end
section
theorem mulL{i j:Int}(h: -18446744073709551616<i)(g:i<18446744073709551616):D5 i j=true:=by
 unfold D5
 rw[pq]
 exact .inl (pJ (by lia))
theorem mulR{i j:Int}(h: -18446744073709551616<j)(g:j<18446744073709551616):D5 i j=true:=by
 unfold D5
 rw[pq,pq]
 exact .inr (.inl (pJ (by lia)))
theorem FT{n k:Nat}(h:n<2^k)(hk:k<=8000):n<Fg:=nE h (qB (by decide) hk)
theorem EG{n:Int}(h0:0<n)(h1:n<1152921504606846976):n.natAbs<Fg:=FT (k:=60) (show n.natAbs<2^60 by lia) (by decide)
variable{S:Sto}
noncomputable def Pb(a b:Int):Int:=((uu a.natAbs b.natAbs:Nat):Int)
theorem Lg{c:Ev}{b:Ex}{k:Nat}{E:En}:G9 c b (k+1) E S=(c E S).bind λr=>match r.1 with
 | .bl true=>(b E r.2).bind λp=>match p.1 with
   | .nx=>G9 c b k p.2.1 p.2.2
   | .ret w=>Gc (.ret w,p.2)
 | .bl false=>Gc (.nx,E,r.2)
 |_=>none:=rfl
theorem Q0{c:Ev}{b:Ex}{k:Nat}{E E2:En}{S1 S2:Sto}(e1:c E S=Gc (.bl true,S1))(e2:b E S1=Gc (.nx,E2,S2)):G9 c b (k+1) E S=G9 c b k E2 S2:=by
 rw[Lg,e1]
 show(b E S1).bind _=_
 rw[e2]
 rfl
theorem QW{c:Ev}{b:Ex}{k:Nat}{E:En}{S1:Sto}(e1:c E S=Gc (.bl false,S1)):G9 c b (k+1) E S=Gc (.nx,E,S1):=by
 rw[Lg,e1]
 rfl
theorem Qn:∀(k:Nat) (x y:Nat),y<k->G9 (eOp (o2 wNe) [eV 1,eC (.int 0)]) (Nm 0 1 (eV 1) (eOp (o2 Pa) [eV 0,eV 1])) k [Gc (.int x),Gc (.int y)] S=Gc (.nx,[Gc (.int (uu x y:Nat)),Gc (.int 0)],S)
 |0,x,y,h=>absurd h (zw _)
 |k+1,x,y,h=>by
  by_cases hy:y=0
  .subst hy
   rw[QW (S1:=S) (by simp)]
   simp
  .have hy2:(((y:Nat):Int)==0)=false:=by simpa using hy
   have ih:=Qn k y (x % y) (by have:=yB x (sF hy);lia)
   rw[show((x % y:Nat):Int)=(x:Int) % (y:Int) by lia]at ih
   have hy4:0<y:=sF hy
   rw[Q0 (S1:=S) (S2:=S) (E2:=[Gc (.int y),Gc (.int ((x:Int) % (y:Int)))]) (by simp[hy2]) (by simp[hy4]),ih]
   rw[wL x y,Nat.gcd_rec y x,wL]
theorem eR(a b:Int):B4 [.int a,.int b] S=Gc (.int (Pb a b),S):=by
 have:=Qn (S:=S) (b.natAbs+2) a.natAbs b.natAbs (by lia)
 simp[B4,Eg,PV,Rz,this,Pb]
theorem Lb:∀(k:Nat) (x y:Nat),y<k->G9 (eOp (o2 wGt) [eV 1,eC (.int 0)]) (Nm 0 1 (eV 1) (eOp (o2 Pa) [eV 0,eV 1])) k [Gc (.int x),Gc (.int y)] S=Gc (.nx,[Gc (.int (uu x y:Nat)),Gc (.int 0)],S)
 |0,x,y,h=>absurd h (zw _)
 |k+1,x,y,h=>by
  by_cases hy:y=0
  .subst hy
   rw[QW (S1:=S) (by simp)]
   simp
  .have ih:=Lb k y (x % y) (by have:=yB x (sF hy);lia)
   rw[show((x % y:Nat):Int)=(x:Int) % (y:Int) by lia]at ih
   have hy4:0<y:=sF hy
   rw[Q0 (S1:=S) (S2:=S) (E2:=[Gc (.int y),Gc (.int ((x:Int) % (y:Int)))]) (by simp[hy4]) (by simp[hy4]),ih]
   rw[wL x y,Nat.gcd_rec y x,wL]
theorem UR(a b:Int)(ha:0<=a)(hb:0<=b):Fp [.int a,.int b] S=Gc (.int (Pb a b),S):=by
 have:=Lb (S:=S) (b.natAbs+2) a.natAbs b.natAbs (by lia)
 have e1:((a.natAbs:Nat):Int)=a:=by lia
 have e2:((b.natAbs:Nat):Int)=b:=by lia
 rw[e1,e2]at this
 simp[Fp,KH,PV,Rz,this,Pb]
noncomputable def lowP(t b:Int):Int×Int:=(t / Pb t b,b / Pb t b)
theorem RH{t b:Int}(h:0<b):0<Pb t b:=by
 unfold Pb
 have:0<uu t.natAbs b.natAbs:=Nat.gcd_pos_of_pos_right _ (by lia)
 lia
theorem VE{t b:Int}(h:0<b):(Pb t b).natAbs<=b.natAbs:=by
 unfold Pb
 have:uu t.natAbs b.natAbs<=b.natAbs:=Nat.gcd_le_right _ (by lia)
 lia
noncomputable def amD(p:Int×Int):D:=.tup [.int p.1,.int p.2]
theorem Sx{t b:Int}(h:0<b)(hb:b.natAbs<Fg):GG [.int t,.int b] S=Gc (amD (lowP t b),S):=by
 have h1:=RH (t:=t) h
 have h2:(Pb t b).natAbs<Fg:=pM (VE h) hb
 simp[GG,MZ,eR,h1,h2,amD,lowP]
theorem XI{t b:Int}:Pb (t.natAbs:Int) b=Pb t b:=by
 unfold Pb
 rw[qU]
theorem Pk{t b:Int}(h:0<b)(hb:b.natAbs<Fg):BL [.int t,.int b] S=Gc (amD (lowP t b),S):=by
 have h1:=RH (t:=t) h
 have h2:(Pb t b).natAbs<Fg:=pM (VE h) hb
 have h3:=UR (S:=S) (t.natAbs:Int) b (by lia) (by lia)
 rw[XI]at h3
 simp[BL,Mp,h3,h1,h2,amD,lowP]
noncomputable def aD(q:Rat):D:=.tup [.int q.num,.int q.den]
def Sz(k:Nat)(q:Rat):Prop:=q.num.natAbs<2^k/\q.den<2^k
theorem EA(q:Rat):(q.num:Rat) / (q.den:Rat)=q:=by
 rw[<-zS,Rat.mkRat_self]
theorem JQ(q:Rat):(q.den:Rat)≠0:=by
 have:=q.den_nz
 exact_mod_cast this
theorem Lp(t:Int)(n:Nat)(h:0<n):((t:Rat) / (n:Rat)).num=t / (uu t.natAbs n:Nat)/\((t:Rat) / (n:Rat)).den=n / uu t.natAbs n:=by
 have e:(t:Rat) / (n:Rat)=mkRat t n:=by rw[zS]
 rw[e,Rat.mkRat_def,dif_neg (by lia),Rat.normalize_eq]
 exact⟨rfl,rfl⟩
theorem NH{t b:Int}(h:0<b):amD (lowP t b)=aD ((t:Rat) / (b:Rat)):=by
 obtain⟨n,rfl⟩:∃n:Nat,b=n:=⟨b.natAbs,by lia⟩
 obtain⟨h1,h2⟩:=Lp t n (by lia)
 unfold amD aD lowP Pb
 rw[show(((n:Nat):Int):Rat)=((n:Nat):Rat)from rfl,h1,h2]
 simp
theorem Kv{t b:Int}{k:Nat}(h:0<b)(ht:t.natAbs<2^k)(hb:b.natAbs<2^k):Sz k ((t:Rat) / (b:Rat)):=by
 obtain⟨n,rfl⟩:∃n:Nat,b=n:=⟨b.natAbs,by lia⟩
 obtain⟨h1,h2⟩:=Lp t n (by lia)
 unfold Sz
 rw[show(((n:Nat):Int):Rat)=((n:Nat):Rat)from rfl,h1,h2]
 exact⟨pM (Int.natAbs_ediv_le_natAbs _ _) ht,pM (zx _ _) (by simpa using hb)⟩
theorem Et{a b j k:Nat}(ha:a<2^j)(hb:b<2^k):a*b<2^(j+k):=by
 rw[Nat.pow_add]
 exact Nat.mul_lt_mul'' ha hb
theorem GW{i j:Int}{k m:Nat}(hi:i.natAbs<2^k)(hj:j.natAbs<2^m)(h:k<=60000)(g:m<=60000):D5 i j=true:=by
 unfold D5
 rw[pq,pq,nW]
 exact .inr (.inr ⟨pJ (nE hi (qB (by decide) h)),pJ (nE hj (qB (by decide) g))⟩)
theorem den_pos(q:Rat):0<(q.den:Int):=by have:=q.den_pos;lia
theorem bU{x:Int}{n m:Nat}(h:x.natAbs<2^n)(g:n<=m):x.natAbs<2^m:=nE h (qB (by decide) g)
section
variable{p q:Rat}{j k:Nat}
theorem F1(hp:Sz j p)(hq:Sz k q):(p.num*q.den+q.num*p.den).natAbs<2^(j+k+1)/\((p.den:Int)*q.den).natAbs<2^(j+k)/\(p.num*q.den-q.num*p.den).natAbs<2^(j+k+1):=by
 have a1:=Et hp.1 hq.2
 have a2:=Et hq.1 hp.2
 have a3:=Et hp.2 hq.2
 rw[wD k j]at a2
 have e:2^(j+k+1)=2^(j+k)+2^(j+k):=by rw[yu];lia
 refine⟨?_,?_,?_⟩
 .refine pM (yv _ _) ?_
  rw[rY,rY,qU,qU,e]
  lia
 .rw[rY,qU,qU];exact a3
 .refine pM (Int.natAbs_sub_le _ _) ?_
  rw[rY,rY,qU,qU,e]
  lia
theorem Q1:(((p.num*q.den+q.num*p.den:Int):Rat) / (((p.den:Int)*q.den:Int):Rat))=p+q:=by
 have h1:=EA p;have h2:=EA q
 have d1:=JQ p;have d2:=JQ q
 push_cast
 grind
theorem V1:(((p.num*q.den-q.num*p.den:Int):Rat) / (((p.den:Int)*q.den:Int):Rat))=p-q:=by
 have h1:=EA p;have h2:=EA q
 have d1:=JQ p;have d2:=JQ q
 push_cast
 grind
theorem O2:(((p.num*q.num:Int):Rat) / (((p.den:Int)*q.den:Int):Rat))=p*q:=by
 have h1:=EA p;have h2:=EA q
 have d1:=JQ p;have d2:=JQ q
 push_cast
 grind
theorem YS(hp:Sz j p)(hq:Sz k q):Sz (j+k+1) (p+q):=by
 rw[<-Q1]
 have:=F1 hp hq
 exact Kv (qX (den_pos _) (den_pos _)) this.1 (bU this.2.1 (by lia))
theorem cZ(hp:Sz j p)(hq:Sz k q):Sz (j+k+1) (p-q):=by
 rw[<-V1]
 have:=F1 hp hq
 exact Kv (qX (den_pos _) (den_pos _)) this.2.2 (bU this.2.1 (by lia))
theorem LJ(hp:Sz j p)(hq:Sz k q):Sz (j+k) (p*q):=by
 rw[<-O2]
 have:=F1 hp hq
 exact Kv (qX (den_pos _) (den_pos _)) (by rw[rY];exact Et hp.1 hq.1) this.2.1
end
section
variable{p q:Rat}{j k:Nat}
theorem Sl(hp:Sz j p)(hq:Sz k q)(hj:j+k<=7990):D5 p.num q.den=true/\D5 q.num p.den=true/\D5 p.den q.den=true/\D5 p.num q.num=true:=by
 refine⟨GW hp.1 (by simpa using hq.2) (by lia) (by lia),GW hq.1 (by simpa using hp.2) (by lia) (by lia),GW (by simpa using hp.2) (by simpa using hq.2) (by lia) (by lia),GW hp.1 hq.1 (by lia) (by lia)⟩
theorem MD(hp:Sz j p)(hq:Sz k q)(hj:j+k<=7990):BM [aD p,aD q] S=Gc ((aD (p+q)),S):=by
 obtain⟨m1,m2,m3,m4⟩:=Sl hp hq (by lia)
 have b:=F1 hp hq
 have l:=Pk (S:=S) (t:=p.num*q.den+q.num*p.den) (b:=p.den*q.den) (qX (den_pos _) (den_pos _)) (FT b.2.1 (by lia))
 rw[NH (qX (den_pos _) (den_pos _)),Q1]at l
 simp only[aD]at l⊢
 simp[BM,Mq,m1,m2,m3,l]
theorem Gg(hp:Sz j p)(hq:Sz k q)(hj:j+k<=7990):Ac [aD p,aD q] S=Gc ((aD (p*q)),S):=by
 obtain⟨m1,m2,m3,m4⟩:=Sl hp hq (by lia)
 have b:=F1 hp hq
 have l:=Pk (S:=S) (t:=p.num*q.num) (b:=p.den*q.den) (qX (den_pos _) (den_pos _)) (FT b.2.1 (by lia))
 rw[NH (qX (den_pos _) (den_pos _)),O2]at l
 simp only[aD]at l⊢
 simp[Ac,LC,m3,m4,l]
theorem bY:aD (-q)=.tup [.int (0-q.num),.int q.den]:=by
 unfold aD
 rw[show(-q).num=0-q.num by simp,show(-q).den=q.den by simp]
theorem dz(hq:Sz k q):Sz k (-q):=by
 unfold Sz
 rw[show(-q).num= -q.num by simp,show(-q).den=q.den by simp,Int.natAbs_neg]
 exact hq
theorem Yb(hp:Sz j p)(hq:Sz k q)(hj:j+k<=7990):DC [aD p,aD q] S=Gc ((aD (p-q)),S):=by
 have l:=MD (S:=S) hp (dz hq) hj
 rw[bY]at l
 rw[Rat.sub_eq_add_neg]
 simp only[aD]at l⊢
 simp at l
 simp[DC,MW,l]
end
theorem aA{t b:Int}(h:0<b)(hb:b.natAbs<Fg):GG [.int t,.int b] S=Gc ((aD (t / b)),S):=by
 rw[Sx h hb,NH h]
theorem U5{t b:Int}(h:0<b)(hb:b.natAbs<Fg):BL [.int t,.int b] S=Gc ((aD (t / b)),S):=by
 rw[Pk h hb,NH h]
theorem GQ{a b:Int}{k:Nat}(ha:a.natAbs<2^k)(hb:b.natAbs<2^k):(a+b).natAbs<2^(k+1):=by
 have e:2^(k+1)=2^k+2^k:=by rw[yu];lia
 have:=yv a b
 lia
theorem JJ{a b:Int}{j k:Nat}(ha:a.natAbs<2^j)(hb:b.natAbs<2^k):(a*b).natAbs<2^(j+k):=by
 rw[rY];exact Et ha hb
theorem U9{p q:Rat}{w m:Int}(h:0<w+m):((p.num*q.den*w+q.num*p.den*m:Int):Rat) / (((p.den:Int)*q.den*(w+m):Int):Rat)=(p*w+q*m) / (w+m):=by
 have h1:=EA p;have h2:=EA q
 have d1:=JQ p;have d2:=JQ q
 have d3:((w:Rat)+(m:Rat))≠0:=by
  intro e
  have:((w+m:Int):Rat)=0:=by push_cast;exact e
  have:=qY.mp this
  lia
 push_cast
 grind
section
variable{p q:Rat}{w m:Int}{j k n:Nat}
theorem Vw(hp:Sz j p)(hq:Sz k q)(hw:w.natAbs<2^n)(hm:m.natAbs<2^n):(p.num*q.den*w+q.num*p.den*m).natAbs<2^(j+k+n+1)/\((p.den:Int)*q.den*(w+m)).natAbs<2^(j+k+(n+1)):=by
 have d1:((p.den:Int)).natAbs<2^j:=by simpa using hp.2
 have d2:((q.den:Int)).natAbs<2^k:=by simpa using hq.2
 refine⟨GQ (JJ (JJ hp.1 d2) hw) ?_,JJ (JJ d1 d2) (GQ hw hm)⟩
 have:=JJ (JJ hq.1 d1) hm
 rwa [wD k j]at this
theorem dP(hp:Sz j p)(hq:Sz k q)(hw:w.natAbs<2^n)(hm:m.natAbs<2^n)(h:0<w+m)(hj:j+k+n+1<=7990):Ha [aD p,.int w,aD q,.int m] S=Gc ((aD ((p*w+q*m) / (w+m))),S):=by
 obtain⟨m1,m2,m3,m4⟩:=Sl hp hq (by lia)
 have d1:((p.den:Int)).natAbs<2^j:=by simpa using hp.2
 have d2:((q.den:Int)).natAbs<2^k:=by simpa using hq.2
 have b:=Vw hp hq hw hm
 have m5:D5 (p.num*q.den) w=true:=GW (JJ hp.1 d2) hw (by lia) (by lia)
 have m6:D5 (q.num*p.den) m=true:=GW (JJ hq.1 d1) hm (by lia) (by lia)
 have m7:D5 ((p.den:Int)*q.den) (w+m)=true:=GW (JJ d1 d2) (GQ hw hm) (by lia) (by lia)
 have l:=aA (S:=S) (t:=p.num*q.den*w+q.num*p.den*m) (b:=p.den*q.den*(w+m)) (qX (qX (den_pos _) (den_pos _)) h) (FT b.2 (by lia))
 rw[U9 h]at l
 simp only[aD]at l⊢
 simp[Ha,OE,m1,m2,m3,m5,m6,m7,l]
end
end
section
variable{S:Sto}{p:Nat}
theorem Yg{r:List D}(h:p<S.length):dr (S.set p (.lst r)) (.ref p)=.own r:=Ah (nU h)
def Pen(ds:List D):Prop:=∃a b c d:Int,ds=[.int a,.int b,.int c,.int d]/\0<=d/\d<1000000007
def Ec(p:Nat)(S:Sto):Prop:=∃ds,S[p]?=Gc (.lst ds)/\Pen ds
structure Pn(p:Nat)(S S':Sto):Prop where
 same:Bu [p] S S'
 pen:Ec p S'
theorem Pn.trans{S S' S2:Sto}(h:Pn p S S')(g:Pn p S' S2):Pn p S S2:=⟨h.same.trans g.same,g.pen⟩
theorem Pn.get{S S':Sto}(h:Pn p S S'){n:Nat}{c:Cl}(e:S[n]?=Gc c)(ha:n≠p):S'[n]?=Gc c:=h.same.get e (by simpa using ha)
theorem Pn.refl(h:Ec p S):Pn p S S:=⟨.refl,h⟩
theorem Ec.lt(h:Ec p S):p<S.length:=by obtain⟨ds,e,_⟩:=h;exact Aa e
theorem Ec.app(h:Ec p S)(T:Sto):Ec p (S++T):=by obtain⟨ds,e,hp⟩:=h;exact⟨ds,by rw[nF (Aa e)];exact e,hp⟩
theorem Aw(h:Ec p S){n:Int}(h0:0<n)(h1:n<1152921504606846976):∃r S',AK [.ref p,.int n] S=Gc (.int r,S')/\0<=r/\r<n/\Pn p S S':=by
 obtain⟨ds,hp,a,b,c,d,rfl,hd0,hd1⟩:=h
 have hl:=Aa hp
 have hs:=EG h0 h1
 have hr:=Ah hp
 have hc:=AS hp
 by_cases hb:b=1/\0<a
 .obtain⟨rfl,ha⟩:=hb
  refine⟨a % n,S.set p (.lst [.int (a / n),.int 1,.int c,.int d]),?_,q9 _ (by lia),sG _ h0,.set (by simp),_,nU hl,_,_,_,_,rfl,hd0,hd1⟩
  simp[AK,Hu,ha,h0,hs,hr,hc]
 .have m1:D5 (d+17) (69621+2*(c+1))=true:=mulL (by lia) (by lia)
  have m2:D5 2 (c+1)=true:=mulL (by decide) (by decide)
  generalize ht:(d+17)*(69621+2*(c+1)) % 2147483647=t at*
  have t0:0<=t:=by rw[<-ht];exact q9 _ (by decide)
  have t1:t<2147483647:=by rw[<-ht];exact sG _ (by decide)
  have m3:D5 t t=true:=mulL (by lia) (by lia)
  have m4:D5 40503 (c+1)=true:=mulL (by decide) (by decide)
  generalize hu:(t*t+40503*(c+1)+5) % 2147483629=u at*
  have u0:0<=u:=by rw[<-hu];exact q9 _ (by decide)
  have u1:u<2147483629:=by rw[<-hu];exact sG _ (by decide)
  have m5:D5 u 48271=true:=mulL (by lia) (by lia)
  have d32:(32:Int).natAbs<Fg:=EG (by decide) (by decide)
  have d32':(32:Nat)<Fg:=d32
  refine⟨u*48271 % 2147483647 / 32 % n,S.set p (.lst [.int a,.int b,.int (c+1),.int d]),?_,q9 _ (by lia),sG _ h0,.set (by simp),_,nU hl,_,_,_,_,rfl,hd0,hd1⟩
  by_cases hb1:b=1
  .subst hb1
   have ha:¬0<a:=λz=>hb ⟨rfl,z⟩
   simp[AK,Hu,ha,h0,hs,hr,hc,Yg,hl,m1,m2,m3,m4,m5,ht,hu,d32']
  .have hb2:(b==1)=false:=by simpa using hb1
   simp[AK,Hu,hb2,h0,hs,hr,hc,Yg,hl,m1,m2,m3,m4,m5,ht,hu,d32']
theorem cU(c:Int):∃p S',HP [.int c] S=Gc (.ref p,S')/\Ec p S'/\Bu [] S S'/\S.length<=p:=by
 refine⟨S.length,S++[.lst [.int c,.int (if(10:Int)^18<=c then 1 else 0),.int 0,.int (c % 1000000007)]],?_,⟨_,nY,_,_,_,_,rfl,q9 _ (by decide),sG _ (by decide)⟩,.app,nG _⟩
 simp[HP,OI]
theorem EY{gs:Gd}{t:Tf}{c f:Ev}{acc:List D}{E:En}(h:gOk gs S):CI gs t c f [] acc E S=Gc (acc,S):=by
 unfold CI
 rw[nh h]
theorem MX {gs : Gd} {t : Tf} {c f : Ev} {d : D} {ds acc : List D} {E : En} (h : gOk gs S) (hz : acc.length < sizeLine) : CI gs t c f (d :: ds) acc E S = (t d E S).bind fun E1 => (c E1 S).bind fun r => match r.1 with
      | .bl true => (f E1 r.2).bind fun p => CI gs t c f ds (acc ++ [p.1]) E1 p.2
      | .bl false => CI gs t c f ds acc E1 r.2
      | _ => none := by
  rw [CI, nh h, nh hz]
  all_goals rfl
theorem Hh{gs:Gd}{t:Tf}{c f:Ev}{d:D}{ds acc:List D}{E E1:En}{S1:Sto}(h:gOk gs S)(hz:acc.length<sizeLine)(e1:t d E S=Gc E1)(e2:c E1 S=Gc (.bl true,S1)):CI gs t c f (d::ds) acc E S=(f E1 S1).bind λp=>CI gs t c f ds (acc++[p.1]) E1 p.2:=by
 rw[MX h hz,e1]
 show(c E1 S).bind _=_
 rw[e2]
 rfl
theorem Hg{gs:Gd}{t:Tf}{c f:Ev}{d:D}{ds acc:List D}{E E1:En}{S1:Sto}(h:gOk gs S)(hz:acc.length<sizeLine)(e1:t d E S=Gc E1)(e2:c E1 S=Gc (.bl false,S1)):CI gs t c f (d::ds) acc E S=CI gs t c f ds acc E1 S1:=by
 rw[MX h hz,e1]
 show(c E1 S).bind _=_
 rw[e2]
 rfl
theorem Np{gs:Gd}{t:Tf}{f:Ev}{C:En}{m:Nat}{I:Sto->Prop}{R:D->D->Prop}(hg:∀S,I S->gOk gs S):∀{ds acc:List D} {os:En} {S:Sto},os.length=m->I S->acc.length+ds.length<=sizeLine->(∀d∈ds,∀os S,os.length=m->I S->∃us y S',us.length=m/\t d (C++os) S=Gc (C++us)/\f (C++us) S=Gc (y,S')/\I S'/\R d y)->∃ys S',CI gs t DM f ds acc (C++os) S=Gc (acc++ys,S')/\I S'/\ys.length=ds.length/\Paired R ds ys
 | [],acc,os,S,ho,hI,hz,h=>⟨[],S,by rw[EY (hg S hI)];simp,hI,rfl,.nil⟩
 |d::ds,acc,os,S,ho,hI,hz,h=>by
  obtain⟨us,y,S1,hu,e1,e2,I1,r1⟩:=h d nO os S ho hI
  obtain⟨ys,S2,e3,I2,l2,r2⟩:=Np hg (ds:=ds) (acc:=acc++[y]) (os:=us) (S:=S1) hu I1 (by simp at hz ⊢; lia) λd' hd=>h d' (nC _ hd)
  refine⟨y::ys,S2,?_,I2,by simp[l2],.cons r1 r2⟩
  rw[Hh (hg S hI) (by simp at hz;lia) e1 Ik,e2,A4,e3]
  simp
theorem comp_map{gs:Gd}{t:Tf}{f:Ev}{C:En}{m:Nat}{g:D->D}{S:Sto}(hg:gOk gs S):∀{ds acc:List D} {os:En},os.length=m->acc.length+ds.length<=sizeLine->(∀d∈ds,∀os,os.length=m->∃us,us.length=m/\t d (C++os) S=Gc (C++us)/\f (C++us) S=Gc (g d,S))->CI gs t DM f ds acc (C++os) S=Gc (acc++ds.map g,S)
 | [],acc,os,ho,hz,h=>by rw[EY hg];simp
 |d::ds,acc,os,ho,hz,h=>by
  obtain⟨us,hu,e1,e2⟩:=h d nO os ho
  rw[Hh hg (by simp at hz;lia) e1 Ik,e2,A4]
  rw[comp_map hg hu (by simp at hz ⊢; lia) λd' hd=>h d' (nC _ hd)]
  simp
theorem HF{gs:Gd}{t:Tf}{b:Ex}{I:List D->En->Sto->Prop}(hg:∀ds E S,I ds E S->gOk gs S):∀{ds:List D} {E:En} {S:Sto},I ds E S->(∀d ds E S,I (d::ds) E S->∃E1 E2 S2,t d E S=Gc E1/\b E1 S=Gc (.nx,E2,S2)/\I ds E2 S2)->∃E' S',KR gs t b ds E S=Gc (.nx,E',S')/\I [] E' S'
 | [],E,S,hI,h=>⟨E,S,GX (hg _ _ _ hI),hI⟩
 |d::ds,E,S,hI,h=>by
  obtain⟨E1,E2,S2,e1,e2,I2⟩:=h d ds E S hI
  obtain⟨E',S',e3,I3⟩:=HF hg I2 h
  exact⟨E',S',by rw[D7 (hg _ _ _ hI),e1];simp[e2,e3],I3⟩
theorem pick{xs:List D}{r:Int}(h0:0<=r)(h1:r<xs.length):∃x,atI xs r=Gc x/\x∈xs:=⟨_,Yu h0 h1,qT _⟩
theorem Jh{α β:Type}{P:β->Prop}:∀{xs:List α} {ys:List β},Paired (λ_ y=>P y) xs ys->∀y∈ys,P y
 |_,_,.nil,y,h=>by cases h
 |_,_,.cons r t,y,h=>by
  rcases nK.mp h with h|h
  .rw[h];exact r
  .exact Jh t y h
theorem Hr{lo:Int}{n:Nat}:(KS lo n).length=n:=by simp[KS]
end
def Ok(G B:Nat)(r:Rat):Prop:=∃z:Nat,r*(G:Rat)=(z:Rat)/\z<=B
theorem Mr{n:Nat}(h:0<n):(n:Rat)≠0:=by
 have:n≠0:=by lia
 exact_mod_cast this
theorem Ok.sz{G B k:Nat}{r:Rat}(h:Ok G B r)(hG:0<G)(g:G<2^k)(b:B<2^k):Sz k r:=by
 obtain⟨z,e,hz⟩:=h
 have e2:r=((z:Int):Rat) / ((G:Int):Rat):=by
  have:=Mr hG
  rw[show(((z:Nat):Int):Rat)=(z:Rat)from rfl,show(((G:Nat):Int):Rat)=(G:Rat)from rfl,<-e]
  grind
 rw[e2]
 exact Kv (by lia) (by simpa using pM hz b) (by simpa using g)
theorem Ok.up{G B t B':Nat}{r:Rat}(h:Ok G B r)(hB:B*t<=B'):Ok (G*t) B' r:=by
 obtain⟨z,e,hz⟩:=h
 refine⟨z*t,?_,nL (pK t hz) hB⟩
 push_cast
 rw[<-e]
 grind
theorem Ok.zero{G B:Nat}:Ok G B 0:=⟨0,by simp,pY _⟩
theorem Ok.one{G B:Nat}(h:G<=B):Ok G B 1:=⟨G,by simp,h⟩
theorem Ok.mix{G B a b t:Nat}{r o:Rat}(hr:Ok G B r)(ho:Ok G B o)(ht:a+b=t)(h0:0<t):Ok (G*t) (B*t) ((r*(a:Rat)+o*(b:Rat)) / (t:Rat)):=by
 obtain⟨z,e1,h1⟩:=hr
 obtain⟨y,e2,h2⟩:=ho
 refine⟨z*a+y*b,?_,?_⟩
 .have:=Mr h0
  push_cast
  rw[<-e1,<-e2]
  grind
 .rw[<-ht,Nat.mul_add]
  exact Nat.add_le_add (pK a h1) (pK b h2)
structure Tr where
 p:Nat
 k:Nat
 b:Nat
 ho:List Rat
 h:Int
 l:Int
structure Ld where
 k:Nat
 n:Int
 ow:List Rat
structure Stt where
 AE:List Ld
 hold:List Rat
 nums:List Int
inductive AW where
 |D6 (p k:Nat) (n:Int)
 |Fz (a b:Nat)
 |swap (l:Nat) (g:Int) (k:Nat) (n:Int)
 |Df (t:Int) (l:Nat) (g:Int) (k:Nat) (n:Int)
 |FZ (l:Nat) (n:Int)
 |thr (l:Nat) (n:Int) (ws:List Int)
 |Ii (p q:Nat) (s:Rat)
noncomputable def shD(rs:List Rat):D:=.tup (rs.map aD)
noncomputable def Tr.d(t:Tr):D:=.tup [.int t.p,.int t.k,.int t.b,shD t.ho,.int t.h,.int t.l]
noncomputable def Ld.d(l:Ld):D:=.tup [.int l.k,.int l.n,shD l.ow]
noncomputable def AW.d:AW->D
 | .D6 p k n=>.tup [.str "bring",.int p,.int k,.int n]
 | .Fz a b=>.tup [.str "pool",.int a,.int b]
 | .swap l g k n=>.tup [.str "swap",.int l,.int g,.int k,.int n]
 | .Df t l g k n=>.tup [.str "trade",.int t,.int l,.int g,.int k,.int n]
 | .FZ l n=>.tup [.str "spoil",.int l,.int n]
 | .thr l n ws=>.tup [.str "throw",.int l,.int n,.tup (ws.map .int)]
 | .Ii p q s=>.tup [.str "sell",.int p,.int q,aD s]
noncomputable def Iw(x:Rat)(os ss:List Rat):List Rat:=uM (λs o=>s*(1-x)+o*x) ss os
noncomputable def HV(p q:Nat)(s:Rat)(ss:List Rat):List Rat:=(ss.set p (ss.getD p 0-ss.getD p 0*s)).set q (ss.getD q 0+ss.getD p 0*s)
noncomputable def As(n m:Int)(ss os:List Rat):List Rat:=uM (λs o=>(s*n+o*m) / (n+m:Int)) ss os
noncomputable def FH(t:Tr)(ls:List Ld)(ws:List Int):Int:=(ls.map λl=>l.n*ws.getD l.k 0).sum+t.b*ws.getD t.k 0
noncomputable def MC(t:Tr)(ls:List Ld)(l:Nat)(n:Int)(ws:List Int):Rat:=((n*ws.getD ((ls[l]?.map (·.k)).getD 0) 0:Int):Rat) / (FH t ls ws:Rat)
noncomputable def AN(ls:List Ld)(l:Nat):Ld:=ls.getD l ⟨0,0,[]⟩
noncomputable def less(ls:List Ld)(l:Nat)(n:Int):List Ld:=ls.set l {AN ls l with n:=(AN ls l).n-n}
noncomputable def Jz(p i:Nat):List Rat:=(oF p).map λj=>if j=i then 1 else 0
noncomputable def step(t:Tr)(s:Stt):AW->Stt
 | .D6 p k n=>{s with AE:=s.AE++[⟨k,n,Jz t.p p⟩]}
 | .Fz a b=>{s with AE:=less (less s.AE a (AN s.AE a).n) b (AN s.AE b).n++[⟨(AN s.AE a).k,(AN s.AE a).n+(AN s.AE b).n,As (AN s.AE a).n (AN s.AE b).n (AN s.AE a).ow (AN s.AE b).ow⟩]}
 | .swap l g k n=>{s with AE:=less s.AE l g++[⟨k,n,(AN s.AE l).ow⟩]}
 | .Df u l g k n=>{s with AE:=less s.AE l g++[⟨k,n,(AN s.AE l).ow⟩],nums:=s.nums++[u]}
 | .FZ l n=>{s with AE:=less s.AE l n}
 | .thr l n ws=>{s with AE:=(less s.AE l n).map λx=>{x with ow:=Iw (MC t s.AE l n ws) (AN s.AE l).ow x.ow},hold:=Iw (MC t s.AE l n ws) (AN s.AE l).ow s.hold}
 | .Ii p q x=>{s with AE:=s.AE.map λy=>{y with ow:=HV p q x y.ow},hold:=HV p q x s.hold}
def KY(t:Tr):Prop:=1<=t.p/\t.p<=4/\1<=t.k/\t.k<=5/\1<=t.b/\t.b<=20
def Can(t:Tr)(s:Stt):AW->Prop
 | .D6 p k n=>p<t.p/\k<t.k/\1<=n/\n<2^131
 | .Fz a b=>a≠b/\a<s.AE.length/\b<s.AE.length/\0<(AN s.AE a).n/\0<(AN s.AE b).n/\(AN s.AE a).k=(AN s.AE b).k
 | .swap l g k n=>l<s.AE.length/\1<=g/\g<=(AN s.AE l).n/\k<t.k/\k≠(AN s.AE l).k/\1<=n/\n<2^131
 | .Df u l g k n=>l<s.AE.length/\1<=g/\g<=(AN s.AE l).n/\k<t.k/\k≠(AN s.AE l).k/\1<=n/\n<2^131/\u∉s.nums/\0<=u/\u<=9
 | .FZ l n=>l<s.AE.length/\1<=n/\n<=(AN s.AE l).n
 | .thr l n ws=>l<s.AE.length/\1<=n/\n<=(AN s.AE l).n/\ws.length=t.k+1/\∀w∈ws,1<=w/\w<=99
 | .Ii p q x=>p≠q/\p<t.p/\q<t.p/\0<x.num/\x.num<=x.den/\x.den<=12
structure Ds(t:Tr)(k:Nat)(s:Stt):Prop where
 len:s.AE.length<=4+k
 kind:∀l∈s.AE,l.k<t.k
 pcs:∀l∈s.AE,0<=l.n/\l.n<2^(131+k)
 own:∀l∈s.AE,l.ow.length=t.p
 hold:s.hold.length=t.p
 nm:s.nums.length<=k
 gb:∃G B:Nat,0<G/\G<=B/\B<2^(30+170*k)/\(∀l∈s.AE,∀r∈l.ow,Ok G B r)/\∀r∈s.hold,Ok G B r
theorem Ds.sz{t:Tr}{k:Nat}{s:Stt}(h:Ds t k s):(∀l∈s.AE,∀r∈l.ow,Sz (30+170*k) r)/\∀r∈s.hold,Sz (30+170*k) r:=by
 obtain⟨G,B,g0,gb,b,h1,h2⟩:=h.gb
 exact⟨λl hl r hr=>(h1 l hl r hr).sz g0 (pM gb b) b,λr hr=>(h2 r hr).sz g0 (pM gb b) b⟩
theorem AR{ls:List Ld}{l:Nat}(h:l<ls.length):AN ls l∈ls:=by
 unfold AN
 rw[nJ,nN h]
 exact qT h
theorem Cq{ls:List Ld}{l:Nat}(h:l<ls.length):ls[l]?=Gc (AN ls l):=by
 unfold AN
 rw[nJ,nN h]
 rfl
theorem JL{ls:List Ld}{l:Nat}{n:Int}{x:Ld}(h:x∈less ls l n)(hl:l<ls.length):x∈ls\/x={AN ls l with n:=(AN ls l).n-n}:=by
 unfold less at h
 rcases q5 h with h|h
 .exact .inl h
 .exact .inr h
theorem Ap{ls:List Ld}{l:Nat}{n:Int}:(less ls l n).length=ls.length:=by simp[less]
section
variable{S:Sto}{p:Nat}
theorem Pc{P:Int->Prop}:∀{ys:List D},(∀y∈ys,∃i:Int,y=.int i/\P i)->∃ns:List Int,ys=ns.map D.int/\∀n∈ns,P n
 | [],_=>⟨[],rfl,λn h=>by cases h⟩
 |y::ys,h=>by
  obtain⟨i,rfl,hi⟩:=h y nO
  obtain⟨ns,rfl,hn⟩:=Pc (P:=P) (ys:=ys) λz hz=>h z (nC _ hz)
  exact⟨i::ns,rfl,λn hn'=>by
   rcases nK.mp hn' with e|e
   .rw[e];exact hi
   .exact hn n e⟩
theorem PM{ns:List Int}(h:∀n∈ns,0<=n/\n<=8):0<=ns.sum/\ns.sum<=8*ns.length/\∀n∈ns,n<=ns.sum:=by
 induction ns with
 |nil=>simp
 |cons a l ih=>
  have h1:=h a nO
  obtain⟨i1,i2,i3⟩:=ih λn hn=>h n (nC _ hn)
  rw[pB,oT]
  refine⟨by lia,by push_cast;lia,λn hn=>?_⟩
  rcases nK.mp hn with e|e
  .lia
  .have:=i3 n e;lia
theorem RW (h : Ec p S) {n : Nat} (hn : n ≤ 20) : ∃ (ns : List Int) (S' : Sto), CI [] (tNm 1) DM (eOp (o2 wIx) [(G8 [(eC (.int 0)), (eC (.int 1)), (AM AK [(eV 0), (eC (.int 4))]), (AM AK [(eV 0), (eC (.int 9))])]), (AM AK [(eV 0), (eC (.int 4))])]) (KS 0 n) [] [Gc (.ref p), none] S = Gc (ns.map D.int, S') /\ Pn p S S' /\ ns.length = n /\ ∀ i ∈ ns, 0 ≤ i /\ i ≤ 8 := by
  obtain ⟨ys, S', e, hI, l, r⟩ := Np (gs := []) (t := tNm 1) (f := eOp (o2 wIx) [(G8 [(eC (.int 0)), (eC (.int 1)), (AM AK [(eV 0), (eC (.int 4))]), (AM AK [(eV 0), (eC (.int 9))])]), (AM AK [(eV 0), (eC (.int 4))])]) (C := [Gc (.ref p)]) (m := 1) (I := Pn p S) (R := fun _ y => ∃ i : Int, y = .int i /\ 0 ≤ i /\ i ≤ 8)
    (fun _ _ => Ae) (ds := KS 0 n) (acc := []) (os := [none]) rfl (Pn.refl h) (by rw [Hr]; simp; exact AQ (by lia)) fun d _ os S0 ho I0 => by
      obtain ⟨o, rfl⟩ := R4 ho
      obtain ⟨r1, S1, e1, a1, b1, p1⟩ := Aw I0.pen (n := 4) (by decide) (by decide)
      obtain ⟨r2, S2, e2, a2, b2, p2⟩ := Aw p1.pen (n := 9) (by decide) (by decide)
      obtain ⟨r3, S3, e3, a3, b3, p3⟩ := Aw p2.pen (n := 4) (by decide) (by decide)
      obtain ⟨x, ex, hx⟩ := pick (xs := [.int 0, .int 1, .int r1, .int r2]) (r := r3) a3 (by simpa using b3)
      refine ⟨[Gc d], x, S3, rfl, by simp, by simp [e1, e2, e3, ex], ((I0.trans p1).trans p2).trans p3, ?_⟩
      simp only [nK, oD, qA] at hx
      rcases hx with rfl | rfl | rfl | rfl
      · exact ⟨0, rfl, by decide, by decide⟩
      · exact ⟨1, rfl, by decide, by decide⟩
      · exact ⟨r1, rfl, by lia, by lia⟩
      · exact ⟨r2, rfl, by lia, by lia⟩
  obtain ⟨ns, rfl, hns⟩ := Pc (Jh r)
  exact ⟨ns, S', by simpa using e, hI, by simpa [Hr] using l, hns⟩
noncomputable def IF(ns:List Int):List Rat:=ns.map λ(n:Int)=>(n:Rat) / (ns.sum:Rat)
theorem Lm{ns:List Int}(h:∀n∈ns,0<=n/\n<=8)(hs:0<ns.sum):∀r∈IF ns,Ok ns.sum.toNat ns.sum.toNat r:=by
 intro r hr
 obtain⟨n,hn,rfl⟩:=oR.mp hr
 have h1:=h n hn
 have h2:=(PM h).2.2 n hn
 refine⟨n.toNat,?_,by lia⟩
 have e1:((ns.sum.toNat:Nat):Rat)=(ns.sum:Rat):=by
  have:((ns.sum.toNat:Nat):Int)=ns.sum:=by lia
  exact congrArg (λz:Int=>(z:Rat)) this
 have e2:((n.toNat:Nat):Rat)=(n:Rat):=by
  have:((n.toNat:Nat):Int)=n:=by lia
  exact congrArg (λz:Int=>(z:Rat)) this
 rw[e1,e2]
 have:(ns.sum:Rat)≠0:=by
  intro z
  have:=qY.mp z
  lia
 grind
theorem SQ{s:Rat}:∀{ns:List Int},(ns.map λ(n:Int)=>(n:Rat) / s).sum=(ns.sum:Rat) / s
 | []=>by simp;grind
 |n::ns=>by
  rw[nR,pB,pB,SQ (ns:=ns)]
  push_cast
  grind
theorem OK{ns:List Int}(hs:0<ns.sum):(IF ns).sum=1:=by
 unfold IF
 rw[SQ]
 have:(ns.sum:Rat)≠0:=by
  intro z
  have:=qY.mp z
  lia
 grind
theorem Qe{ns:List Int}{q:Nat}(hq:S[q]?=Gc (.lst (ns.map D.int)))(hl:ns.length<=20)(hn:∀n∈ns,0<=n/\n<=8)(hs:0<ns.sum):CI [(q,ns.map D.int)] (tNm 1) DM (AM BL [eV 1,eOp (o1 Yr) [eV 0]]) (ns.map D.int) [] [Gc (.ref q),none] S=Gc ((IF ns).map aD,S):=by
 obtain⟨s1,s2,s3⟩:=PM hn
 have:=comp_map (gs:=[(q,ns.map D.int)]) (t:=tNm 1) (f:=AM BL [eV 1,eOp (o1 Yr) [eV 0]]) (C:=[Gc (.ref q)]) (m:=1) (g:=λd=>match d with| .int n=>aD ((n:Rat) / (ns.sum:Rat))|d=>d) (S:=S) (λg hg=>by rw[oK.mp hg];exact AS hq) (ds:=ns.map D.int) (acc:=[]) (os:=[none]) rfl (by simp;exact AQ (by lia)) λd hd os ho=>by
  obtain⟨o,rfl⟩:=R4 ho
  obtain⟨i,hi,rfl⟩:=oR.mp hd
  have m:=U5 (S:=S) (t:=i) hs (EG (by lia) (by lia))
  exact⟨[Gc (.int i)],rfl,by simp,by simp[Ah hq,GC,m]⟩
 have e2:(ns.map D.int).map (λd=>match d with| .int n=>aD ((n:Rat) / (ns.sum:Rat))|d=>d)=(IF ns).map aD:=by
  unfold IF
  rw[oS,oS]
  rfl
 rw[e2]at this
 simpa using this
theorem RB(h:Ec p S){n:Nat}(h1:1<=n)(h2:n<=4):∃rs S',C6 [.ref p,.int n] S=Gc (shD rs,S')/\Pn p S S'/\(rs.length=n/\rs.sum=1)/\∃G:Nat,0<G/\G<=32/\∀r∈rs,Ok G G r:=by
 obtain⟨ns,S1,e1,p1,l1,i1⟩:=RW (n:=n) h (by lia)
 obtain⟨s1,s2,s3⟩:=PM i1
 have hq:(S1++[Cl.lst (ns.map D.int)])[S1.length]?=Gc (.lst (ns.map D.int)):=nY
 have pp:Ec p (S1++[Cl.lst (ns.map D.int)]):=p1.pen.app _
 have hlt:=p1.pen.lt
 have r1:Hy (n:Int)=true:=Dp (by lia) (by lia)
 by_cases hz:ns.sum=0
 .obtain⟨r,S2,e2,a2,b2,p2⟩:=Aw pp (n:=n) (by lia) (by lia)
  have hq2:S2[S1.length]?=Gc (.lst (ns.map D.int)):=p2.get hq (by lia)
  have hn':∀x∈ns.set r.toNat 1,0<=x/\x<=8:=λx hx=>by
   rcases q5 hx with hx|rfl
   .exact i1 x hx
   .exact⟨by decide,by decide⟩
  have hs':0<(ns.set r.toNat 1).sum:=by
   have:=(PM hn').2.2 1 (List.mem_set (by lia) 1)
   lia
  have hq3:(S2.set S1.length (.lst ((ns.set r.toNat 1).map D.int)))[S1.length]?=Gc (.lst ((ns.set r.toNat 1).map D.int)):=nU (Aa hq2)
  have e3:=Qe hq3 (by simp;lia) hn' hs'
  have ix:ixN ns.length r=Gc r.toNat:=Qt a2 (by lia)
  refine⟨IF (ns.set r.toNat 1),S2.set S1.length (.lst ((ns.set r.toNat 1).map D.int)),?_,⟨?_,?_⟩,⟨by simp[IF,l1],OK hs'⟩,_,(show 0<(ns.set r.toNat 1).sum.toNat by lia),?_,Lm hn' hs'⟩
  .have sq3:=HJ hq3
   rw[uN]at e3 sq3 hq3
   simp[C6,IX,r1,e1,Ah hq,GC,hz,e2,AS hq2,ix,sq3,e3,shD]
  .have g:Bu [p] S (S1++[Cl.lst (ns.map D.int)]):=p1.same.trans .app
   refine⟨nL (g.trans p2.same).len (by simp),λm hm hmp=>?_⟩
   rw[nI (by have:=p1.same.len;lia)]
   exact(g.trans p2.same).keep m hm hmp
  .obtain⟨ds,ed,hd⟩:=p2.pen
   exact⟨ds,by rw[nI (by lia)];exact ed,hd⟩
  .have:=(PM hn').2.1
   rw[qZ]at this
   lia
 .have hz':(ns.sum==0)=false:=by simpa using hz
  have e3:=Qe hq (by lia) i1 (by lia)
  refine⟨IF ns,S1++[Cl.lst (ns.map D.int)],?_,⟨p1.same.trans .app,pp⟩,⟨by simp[IF,l1],OK (by lia)⟩,_,(show 0<ns.sum.toNat by lia),by lia,Lm i1 (by lia)⟩
  have sq3:=HJ hq
  simp[C6,IX,r1,e1,Ah hq,GC,hz',sq3,e3,shD]
end
section
variable{S:Sto}{p:Nat}
theorem aG:(2:Nat)<Fg:=EG (n:=2) (by decide) (by decide)
theorem JT(h:Ec p S):∃n S',BG [.ref p] S=Gc (.int n,S')/\Pn p S S'/\1<=n/\n<2^131:=by
 obtain⟨r1,S1,e1,a1,b1,p1⟩:=Aw h (n:=99) (by decide) (by decide)
 obtain⟨r2,S2,e2,a2,b2,p2⟩:=Aw p1.pen (n:=4) (by decide) (by decide)
 obtain⟨r3,S3,e3,a3,b3,p3⟩:=Aw p2.pen (n:=40) (by decide) (by decide)
 obtain⟨r4,S4,e4,a4,b4,p4⟩:=Aw p3.pen (n:=999) (by decide) (by decide)
 obtain⟨r5,S5,e5,a5,b5,p5⟩:=Aw p4.pen (n:=7) (by decide) (by decide)
 have pp:=(((p1.trans p2).trans p3).trans p4).trans p5
 have d2:=aG
 have go:∀g:Int,1<=g->g<2^131->∃n:Int,atI [D.int (1+r2),.int (1+r3),.int (1+r4),.int g] (r5 / 2)=Gc (.int n)/\1<=n/\n<2^131:=λg g1 g2=>by
  obtain⟨x,ex,hx⟩:=pick (xs:=[D.int (1+r2),.int (1+r3),.int (1+r4),.int g]) (r:=r5 / 2) (by lia) (by simp;lia)
  simp only[nK,oD,qA]at hx
  rcases hx with rfl|rfl|rfl|rfl
  .exact⟨_,ex,by lia,by lia⟩
  .exact⟨_,ex,by lia,by lia⟩
  .exact⟨_,ex,by lia,by lia⟩
  .exact⟨_,ex,g1,g2⟩
 first
  |(obtain⟨n,en,n1,n2⟩:=go (10^39+r1) (by lia) (by lia)
    exact⟨n,S5,by simp[BG,Hf,e1,e2,e3,e4,e5,d2]at en ⊢; simp[en],pp,n1,n2⟩)
  |(obtain⟨n,en,n1,n2⟩:=go (10^30+r1) (by lia) (by lia)
    exact⟨n,S5,by simp[BG,Hf,e1,e2,e3,e4,e5,d2]at en ⊢; simp[en],pp,n1,n2⟩)
theorem HC{r:Int}(h:0<=r):∃m:Nat,r=m:=⟨r.toNat,by lia⟩
theorem V3(h:Ec p S):∃t S',Gp [.ref p] S=Gc (Tr.d t,S')/\Pn p S S'/\KY t/\(t.ho.length=t.p/\t.ho.sum=1)/\∃G:Nat,0<G/\G<=32/\∀r∈t.ho,Ok G G r:=by
 obtain⟨r1,S1,e1,a1,b1,p1⟩:=Aw h (n:=4) (by decide) (by decide)
 obtain⟨r2,S2,e2,a2,b2,p2⟩:=Aw p1.pen (n:=5) (by decide) (by decide)
 obtain⟨r3,S3,e3,a3,b3,p3⟩:=Aw p2.pen (n:=3) (by decide) (by decide)
 obtain⟨r4,S4,e4,a4,b4,p4⟩:=Aw p3.pen (n:=20) (by decide) (by decide)
 obtain⟨r5,S5,e5,a5,b5,p5⟩:=Aw p4.pen (n:=2) (by decide) (by decide)
 obtain⟨m1,rfl⟩:=HC a1
 obtain⟨m2,rfl⟩:=HC a2
 obtain⟨b,eb,hb1,hb2⟩:∃b:Nat,atI [D.int (1+r3),.int (1+r4)] r5=Gc (.int b)/\1<=b/\b<=20:=by
  obtain⟨x,ex,hx⟩:=pick (xs:=[D.int (1+r3),.int (1+r4)]) (r:=r5) a5 (by simpa using b5)
  obtain⟨m3,rfl⟩:=HC a3
  obtain⟨m4,rfl⟩:=HC a4
  simp only[nK,oD,qA]at hx
  rcases hx with rfl|rfl
  .exact⟨1+m3,by rw[ex];simp,by lia,by lia⟩
  .exact⟨1+m4,by rw[ex];simp,by lia,by lia⟩
 obtain⟨rs,S6,e6,p6,l6,G,g0,g1,g2⟩:=RB p5.pen (n:=1+m1) (by lia) (by lia)
 obtain⟨r7,S7,e7,a7,b7,p7⟩:=Aw p6.pen (n:=10) (by decide) (by decide)
 obtain⟨r8,S8,e8,a8,b8,p8⟩:=Aw p7.pen (n:=10) (by decide) (by decide)
 rw[show((1+m1:Nat):Int)=1+(m1:Int) by lia]at e6
 refine⟨⟨1+m1,1+m2,b,rs,r7,r8⟩,S8,?_,((((((p1.trans p2).trans p3).trans p4).trans p5).trans p6).trans p7).trans p8,⟨by simp,by simp;lia,by simp,by simp;lia,hb1,hb2⟩,l6,G,g0,g1,g2⟩
 simp[Gp,K8,e1,e2,e3,e4,e5,eb,e6,e7,e8,Tr.d]
theorem WL(h:Ec p S):∃x S',FF [.ref p] S=Gc (aD x,S')/\Pn p S S'/\0<x.num/\x.num<=x.den/\x.den<=12:=by
 obtain⟨r1,S1,e1,a1,b1,p1⟩:=Aw h (n:=12) (by decide) (by decide)
 obtain⟨r2,S2,e2,a2,b2,p2⟩:=Aw p1.pen (n:=1+r1) (by lia) (by lia)
 have m:=U5 (S:=S2) (t:=1+r2) (b:=1+r1) (by lia) (EG (by lia) (by lia))
 obtain⟨m1,rfl⟩:=HC a1
 obtain⟨m2,rfl⟩:=HC a2
 have rp:=Lp (1+(m2:Int)) (1+m1) (by lia)
 have eb:(((1+(m1:Int):Int)):Rat)=(((1+m1:Nat)):Rat):=by
  have:(1+(m1:Int))=((1+m1:Nat):Int):=by lia
  rw[this];rfl
 have en:(1+(m2:Int)).natAbs=1+m2:=by lia
 have gp:0<uu (1+m2) (1+m1):=Nat.gcd_pos_of_pos_left _ (by lia)
 obtain⟨q,hq⟩:=Nat.gcd_dvd_left (1+m2) (1+m1)
 obtain⟨q',hq'⟩:=Nat.gcd_dvd_right (1+m2) (1+m1)
 refine⟨((1+(m2:Int):Int):Rat) / ((1+(m1:Int):Int):Rat),S2,?_,p1.trans p2,?_,?_,?_⟩
 .simp[FF,K4,e1,e2,m]
 .rw[eb,rp.1,en]
  generalize uu (1+m2) (1+m1)=g at*
  have:(1+(m2:Int))=((g*q:Nat):Int):=by lia
  rw[this,wX,vb _ (by lia)]
  have:q≠0:=λz=>by subst z;lia
  lia
 .rw[eb,rp.1,rp.2,en]
  generalize uu (1+m2) (1+m1)=g at*
  have t1:(1+(m2:Int))=((g*q:Nat):Int):=by lia
  rw[t1,wX,vb _ (by lia),hq',Nat.mul_div_cancel_left _ gp]
  have:q<=q':=by
   have:g*q<=g*q':=by lia
   exact Nat.le_of_mul_le_mul_left this gp
  lia
 .rw[eb,rp.2]
  exact nL (zx _ _) (by lia)
theorem Ta (h : Ec p S) {n : Nat} (hn : n ≤ 6) : ∃ (ws : List Int) (S' : Sto), DH [.ref p, .int n] S = Gc (.tup (ws.map .int), S') /\ Pn p S S' /\ ws.length = n /\ ∀ w ∈ ws, 1 ≤ w /\ w ≤ 99 := by
  obtain ⟨ys, S', e, hI, l, r⟩ := Np (gs := []) (t := tNm 1) (f := (eOp (o2 Dt) [(eC (.int 1)), (eOp (o2 wIx) [(G8 [(AM AK [(eV 0), (eC (.int 3))]), (AM AK [(eV 0), (eC (.int 99))])]), (AM AK [(eV 0), (eC (.int 2))])])])) (C := [Gc (.ref p)]) (m := 1) (I := Pn p S) (R := fun _ y => ∃ i : Int, y = .int i /\ 1 ≤ i /\ i ≤ 99)
    (fun _ _ => Ae) (ds := KS 0 n) (acc := []) (os := [none]) rfl (Pn.refl h) (by rw [Hr]; simp; exact AQ (by lia)) fun d _ os S0 ho I0 => by
      obtain ⟨o, rfl⟩ := R4 ho
      obtain ⟨r1, S1, e1, a1, b1, p1⟩ := Aw I0.pen (n := 3) (by decide) (by decide)
      obtain ⟨r2, S2, e2, a2, b2, p2⟩ := Aw p1.pen (n := 99) (by decide) (by decide)
      obtain ⟨r3, S3, e3, a3, b3, p3⟩ := Aw p2.pen (n := 2) (by decide) (by decide)
      obtain ⟨x, ex, hx⟩ := pick (xs := [.int r1, .int r2]) (r := r3) a3 (by simpa using b3)
      simp only [nK, oD, qA] at hx
      rcases hx with rfl | rfl
      · exact ⟨[Gc d], .int (1 + r1), S3, rfl, by simp, by simp [e1, e2, e3, ex], ((I0.trans p1).trans p2).trans p3, _, rfl, by lia, by lia⟩
      · exact ⟨[Gc d], .int (1 + r2), S3, rfl, by simp, by simp [e1, e2, e3, ex], ((I0.trans p1).trans p2).trans p3, _, rfl, by lia, by lia⟩
  obtain ⟨ns, rfl, hns⟩ := Pc (Jh r)
  have r1 : Hy (n : Int) = true := Dp (by lia) (by lia)
  have e' : CI [] (tNm 1) DM (eOp (o2 Dt) [(eC (.int 1)), (eOp (o2 wIx) [(G8 [(AM AK [(eV 0), (eC (.int 3))]), (AM AK [(eV 0), (eC (.int 99))])]), (AM AK [(eV 0), (eC (.int 2))])])]) (KS 0 n) [] [Gc (.ref p), none] S = Gc (ns.map D.int, S') := by simpa using e
  exact ⟨ns, S', by simp [DH, J8, r1, e'], hI, by simpa [Hr] using l, hns⟩
def Ga(t:Tr)(ls:List Ld):Prop:=(∀l∈ls,l.k<t.k/\1<=l.n/\l.n<2^131/\l.ow.length=t.p/\l.ow.sum=1)/\∃G:Nat,0<G/\G<=32^ls.length/\∀l∈ls,∀r∈l.ow,Ok G G r
theorem Ga.snoc{t:Tr}{ls:List Ld}{l:Ld}(h:Ga t ls)(h1:l.k<t.k/\1<=l.n/\l.n<2^131/\l.ow.length=t.p/\l.ow.sum=1){g:Nat}(g0:0<g)(g1:g<=32)(g2:∀r∈l.ow,Ok g g r):Ga t (ls++[l]):=by
 obtain⟨ha,G,G0,G1,G2⟩:=h
 refine⟨λx hx=>?_,G*g,uc G0 g0,?_,λx hx r hr=>?_⟩
 .rcases oC.mp hx with hx|hx
  .exact ha x hx
  .rw[oK.mp hx];exact h1
 .rw[pF,wg,yu]
  exact xO G1 g1
 .rcases oC.mp hx with hx|hx
  .exact(G2 x hx r hr).up (nG _)
  .rw[oK.mp hx]at hr
   have:=(g2 r hr).up (t:=G) (B':=G*g) (by rw[rm];exact nG _)
   rwa [rm g G]at this
end
section
variable{S:Sto}{p:Nat}
theorem Ga.nil{t:Tr}:Ga t []:=⟨λl hl=>(nomatch hl),1,by decide,by simp,λl hl=>(nomatch hl)⟩
theorem Xa(h:Ec p S){t:Tr}(ht:KY t):∃(ls:List Ld) (S':Sto),Gk [.ref p,t.d] S=Gc (.tup (ls.map Ld.d),S')/\Pn p S S'/\Ga t ls/\ls.length<=4:=by
 obtain⟨t1,t2,t3,t4,t5,t6⟩:=ht
 have hlt:=h.lt
 have hq:(S++[Cl.lst []])[S.length]?=Gc (.lst []):=nY
 obtain⟨r1,S1,e1,a1,b1,p1⟩:=Aw (h.app [Cl.lst []]) (n:=5) (by decide) (by decide)
 obtain⟨r2,S2,e2,a2,b2,p2⟩:=Aw p1.pen (n:=3) (by decide) (by decide)
 obtain⟨n,en,hn⟩:∃n:Nat,atI [D.int 0,.int 1,.int r1] r2=Gc (.int n)/\n<=4:=by
  obtain⟨x,ex,hx⟩:=pick (xs:=[D.int 0,.int 1,.int r1]) (r:=r2) a2 (by simpa using b2)
  simp only[nK,oD,qA]at hx
  rcases hx with rfl|rfl|rfl
  .exact⟨0,ex,by decide⟩
  .exact⟨1,ex,by decide⟩
  .exact⟨r1.toNat,by rw[ex,ox a1],by lia⟩
 have q2:S2[S.length]?=Gc (.lst []):=(p1.trans p2).get hq (by lia)
 have rn:Hy (n:Int)=true:=Dp (by lia) (by lia)
 obtain⟨E',S',ef,ls,o,rfl,f1,f2,f3,f4,f5⟩:=HF (gs:=[]) (t:=tNm 3) (b:=Bp (G7 Hx (eV 2) [CY [AM AK [eV 0,eOp (o2 wIx) [eV 1,eC (.int 1)]],AM BG [eV 0],AM C6 [eV 0,eOp (o2 wIx) [eV 1,eC (.int 0)]]]]))
  (I:=λds E S'=>∃(ls:List Ld) (o:nB D),E=[Gc (.ref p),Gc t.d,Gc (.ref S.length),o]/\S'[S.length]?=Gc (.lst (ls.map Ld.d))/\Ec p S'/\Bu [p] S S'/\Ga t ls/\ls.length+ds.length<=4)
  (λ_ _ _ _=>Ae) (ds:=KS 0 n) (E:=[Gc (.ref p),Gc t.d,Gc (.ref S.length),none]) (S:=S2)
  ⟨[],none,rfl,q2,p2.pen,Bu.app.trans (p1.trans p2).same,Ga.nil,by simp[Hr];exact hn⟩ (by
    rintro d ds E S0 ⟨ls,o,rfl,i1,i2,i3,i4,i5⟩
    obtain⟨x1,T1,g1,c1,d1,k1⟩:=Aw i2 (n:=t.k) (by lia) (by lia)
    obtain⟨x2,T2,g2,k2,c2,d2⟩:=JT k1.pen
    obtain⟨rs,T3,g3,k3,l3,G,G0,G1,G2⟩:=RB k2.pen (n:=t.p) t1 t2
    obtain⟨m1,rfl⟩:=HC c1
    have kk:=(k1.trans k2).trans k3
    have j1:T3[S.length]?=Gc (.lst (ls.map Ld.d)):=kk.get i1 (by lia)
    have hz:ls.length<sizeLine:=nE (show ls.length<5 by lia) (AQ (by decide))
    refine⟨[Gc (.ref p),Gc t.d,Gc (.ref S.length),Gc d],[Gc (.ref p),Gc t.d,Gc (.ref S.length),Gc d],T3.set S.length (.lst ((ls++[Ld.mk m1 x2 rs]).map Ld.d)),by simp,?_,ls++[Ld.mk m1 x2 rs],Gc d,rfl,nU (Aa j1),?_,?_,i4.snoc (l:=Ld.mk m1 x2 rs) ⟨show m1<t.k by lia,c2,d2,l3⟩ G0 G1 G2,by simp at i5 ⊢; lia⟩
    .have e3:atI [D.int t.p,.int t.k,.int t.b,shD t.ho,.int t.h,.int t.l] 1=Gc (.int t.k):=by simp
     simp[Tr.d,g1,g2,g3,AS i1,AS j1,hz,Ld.d]
    .obtain⟨ds',ed,hd⟩:=kk.pen
     exact⟨ds',by rw[nI (by lia)];exact ed,hd⟩
    .refine⟨nL (i3.trans kk.same).len (by simp),λm hm hmp=>?_⟩
     rw[nI (by lia)]
     exact(i3.trans kk.same).keep m hm hmp)
 refine⟨ls,S',?_,⟨f3,f2⟩,f4,by simpa using f5⟩
 simp[Gk,LF,e1,e2,en,rn,ef,Ah f1]
noncomputable def B9(x:Ld):Cl:=.lst [.int x.k,.int x.n,shD x.ow]
structure SAt(S:Sto)(s l m:Nat)(as:List Nat)(st:Stt):Prop where
 root:S[s]?=Gc (.lst [.ref l,shD st.hold,.ref m])
 lo:S[l]?=Gc (.lst (as.map .ref))
 nu:S[m]?=Gc (.lst (st.nums.map .int))
 ld:∀(i a:Nat) (x:Ld),as[i]?=Gc a->st.AE[i]?=Gc x->S[a]?=Gc (B9 x)
 len:as.length=st.AE.length
 nd:(s::l::m::as).Nodup
theorem YK:∀{ls:List Ld} {acc:List D} {o:nB D} {S:Sto},acc.length+ls.length<=100->CI [] (tNm 0) DM (cN (o1 Pm) [eV 0]) (ls.map Ld.d) acc [o] S=Gc (acc++(zb S.length ls.length).map D.ref,S++ls.map B9)
 | [],acc,o,S,h=>by rw[oy,EY Ae];simp
 |x::ls,acc,o,S,h=>by
  rw[nR,Hh (E1:=[Gc x.d]) Ae (nE (show acc.length<101 by simp at h;lia) (AQ (by decide))) (by simp) Ik]
  have:cN (o1 Pm) [eV 0] [Gc x.d] S=Gc (.ref S.length,S++[B9 x]):=by simp[Ld.d,B9]
  rw[this,A4,YK (by simp at h ⊢; lia)]
  simp[List.range'_succ]
theorem getElem?_at{α:Type}{xs:List α}{x:α}{n:Nat}(h:n=xs.length):(xs++[x])[n]?=Gc x:=by subst h;exact nY
theorem RC{t:Tr}{ls:List Ld}{x:D}(hl:ls.length<=20):∃s l m as S',D9 [.tup [t.d,.tup (ls.map Ld.d),x]] S=Gc (.ref s,S')/\SAt S' s l m as ⟨ls,t.ho,[]⟩/\Bu [] S S'/\(∀n∈s::l::m::as,S.length<=n):=by
 have e:=YK (ls:=ls) (acc:=[]) (o:=none) (S:=S) (by simp;lia)
 refine⟨S.length+ls.length+2,S.length+ls.length,S.length+ls.length+1,zb S.length ls.length,S++ls.map B9++[.lst ((zb S.length ls.length).map D.ref)]++[.lst []]++[.lst [.ref (S.length+ls.length),shD t.ho,.ref (S.length+ls.length+1)]],?_,⟨?_,?_,?_,?_,?_,?_⟩,?_,?_⟩
 .simp[D9,LG,Tr.d,e,shD]
  lia
 .exact getElem?_at (by simp;lia)
 .rw[nF (by simp),nF (by simp)]
  exact getElem?_at (by simp)
 .rw[nF (by simp;lia)]
  exact getElem?_at (by simp;lia)
 .intro i a y ha hy
  have hi:i<ls.length:=(nP.mp hy).1
  have:a=S.length+i:=by
   rw[List.getElem?_range' hi]at ha
   simp at ha;lia
  subst this
  rw[nF (by simp;lia),nF (by simp;lia),nF (by simp;lia),oP (by lia)]
  have hy':ls[i]?=Gc y:=hy
  simp[hy']
 .simp
 .rw[qN,qN,qN]
  refine⟨?_,?_,?_,List.nodup_range'⟩
  .simp only[nK,uO];lia
  .simp only[nK,uO];lia
  .simp only[uO];lia
 .rw[sU,sU,sU]
  exact .app
 .intro n hn
  simp only[nK,uO]at hn
  lia
end
section
variable{S:Sto}{p:Nat}
@[simp] theorem lY{rs:List Rat}{S:Sto}:sqD S (shD rs)=some (rs.map aD,[]):=nr rfl
@[simp] theorem ja{S:Sto}{r:List D}:dr (S++[.lst r]) (.ref S.length)=.own r:=Ah List.getElem?_concat_length
@[simp] theorem av{S:Sto}{r:List D}:Ea (S++[.lst r]) S.length=some r:=AS List.getElem?_concat_length
theorem set_same{S:Sto}{q:Nat}{c:Cl}(h:S[q]?=Gc c):S.set q c=S:=by
 apply vX
 intro i
 by_cases e:q=i
 .subst e;rw[nU (Aa h),h]
 .rw[nI e]
theorem QS{gs:Gd}{t:Tf}{b:Ex}{C:En}{m q:Nat}{h:D->D}{I:Sto->Prop}(hg:∀S,I S->gOk gs S)(hI:∀S c,I S->I (S.set q c)):∀{ds acc:List D} {os:En} {S:Sto},os.length=m->I S->S[q]?=Gc (.lst acc)->acc.length+ds.length<=1000->(∀d∈ds,∀os S acc,os.length=m->I S->S[q]?=Gc (.lst acc)->acc.length<sizeLine->∃us us',t d (C++os) S=Gc (C++us)/\b (C++us) S=Gc (.nx,C++us',S.set q (.lst (acc++[h d])))/\us'.length=m)->∃os',os'.length=m/\KR gs t b ds (C++os) S=Gc (.nx,C++os',S.set q (.lst (acc++ds.map h)))
 | [],acc,os,S,ho,hS,hq,hz,H=>⟨os,ho,by
     rw[GX (hg S hS)]
     have:S.set q (.lst (acc++List.map h []))=S:=by
      rw[oy,uh]
      exact set_same hq
     rw[this]⟩
 |d::ds,acc,os,S,ho,hS,hq,hz,H=>by
  have hl:=Aa hq
  obtain⟨us,us',e1,e2,hu⟩:=H d nO os S acc ho hS hq (nE (show acc.length<1001 by simp at hz;lia) (nL (by decide) (show 1001<=sizeLine by decide)))
  obtain⟨os',ho',e3⟩:=QS hg hI (ds:=ds) (acc:=acc++[h d]) (os:=us') (S:=S.set q (.lst (acc++[h d]))) hu (hI S _ hS) (nU hl) (by simp at hz ⊢; lia) λd' hd=>H d' (nC _ hd)
  refine⟨os',ho',?_⟩
  rw[D7 (hg S hS),e1,A4,e2,A4,Jl,e3,List.set_set]
  simp
noncomputable def un:D->Rat
 | .tup [.int n,.int d]=>(n:Rat) / (d:Rat)
 |_=>0
theorem Z8(r:Rat):un (aD r)=r:=EA r
noncomputable def Po(f:Rat->Rat->Rat):D->D
 | .tup [a,b]=>aD (f (un a) (un b))
 |d=>d
theorem NG{f:Rat->Rat->Rat}:∀{ss os:List Rat},(OC (ss.map aD) (os.map aD)).map (Po f)=(uM f ss os).map aD
 | [],os=>by simp[OC]
 |s::ss,[]=>by simp[OC]
 |s::ss,o::os=>by
  have ih:=NG (f:=f) (ss:=ss) (os:=os)
  unfold OC at ih⊢
  simp only[nR,vH,wM]at ih⊢
  rw[ih]
  simp[Po,Z8]
theorem UB{ss os:List Rat}{d:D}(h:d∈OC (ss.map aD) (os.map aD)):∃s∈ss,∃o∈os,d=.tup [aD s,aD o]:=by
 unfold OC at h
 obtain⟨⟨a,b⟩,h1,rfl⟩:=oR.mp h
 have h2:=sJ h1
 obtain⟨s,hs,rfl⟩:=oR.mp h2.1
 obtain⟨o,ho,rfl⟩:=oR.mp h2.2
 exact⟨s,hs,o,ho,rfl⟩
theorem Tq:aD 1=.tup [.int 1,.int 1]:=rfl
theorem Yq(n:Int):aD (n:Rat)=.tup [.int n,.int 1]:=by
 unfold aD
 simp
theorem RE{n:Int}{k:Nat}(h:n.natAbs<2^k)(hk:1<=k):Sz k (n:Rat):=by
 unfold Sz
 have:1<2^k:=vI (by lia)
 simp[h,this]
theorem YE{k:Nat}(hk:1<=k):Sz k (1:Rat):=by
 have:1<2^k:=vI (by lia)
 exact⟨by simpa using this,by simpa using this⟩
theorem Qg{x:Rat}{ss os:List Rat}{j i:Nat}(hs:∀r∈ss,Sz j r)(ho:∀r∈os,Sz j r)(hx:Sz i x)(hj:2*j+2*i<=7900)(hl:ss.length<=10):∃S',D8 [shD ss,aD x,shD os] S=Gc (shD (Iw x os ss),S')/\Bu [] S S':=by
 have hq:(S++[Cl.lst []])[S.length]?=Gc (.lst []):=nY
 obtain⟨os',ho',e⟩:=QS (gs:=[]) (t:=tTp [tNm 4,tNm 5]) (b:=Bp (G7 Hx (eV 3) [AM BM [AM Ac [eV 4,AM DC [CY [eC (.int 1),eC (.int 1)],eV 1]],AM Ac [eV 5,eV 1]]])) (C:=[Gc (shD ss),Gc (aD x),Gc (shD os),Gc (.ref S.length)]) (m:=2) (q:=S.length) (h:=Po λs o=>s*(1-x)+o*x) (I:=λ_=>z6) (λ_ _=>Ae) (λ_ _ _=>trivial)
  (ds:=OC (ss.map aD) (os.map aD)) (acc:=[]) (os:=[none,none]) (S:=S++[Cl.lst []]) rfl trivial hq (by simp[Kf];lia) (by
    intro d hd os0 S0 acc h0 _ hq0 hz
    obtain⟨o1,o2,rfl⟩:=aa h0
    obtain⟨s,hs',o,ho',rfl⟩:=UB hd
    have l1:=Yb (S:=S0) (YE (k:=1) (by decide)) hx (by lia)
    have s1:=(cZ (YE (k:=1) (by decide)) hx)
    have l2:=Gg (S:=S0) (hs s hs') s1 (by lia)
    have l3:=Gg (S:=S0) (ho o ho') hx (by lia)
    have l4:=MD (S:=S0) (LJ (hs s hs') s1) (LJ (ho o ho') hx) (by lia)
    rw[Tq]at l1
    refine⟨[Gc (aD s),Gc (aD o)],[Gc (aD s),Gc (aD o)],by simp,?_,rfl⟩
    simp[l1,l2,l3,l4,AS hq0,hz,Po,Z8])
 rw[NG]at e
 refine⟨(S++[Cl.lst []]).set S.length (.lst ((Iw x os ss).map aD)),?_,?_⟩
 .have e':KR [] (tTp [tNm 4,tNm 5]) (Bp (G7 Hx (eV 3) [AM BM [AM Ac [eV 4,AM DC [CY [eC (.int 1),eC (.int 1)],eV 1]],AM Ac [eV 5,eV 1]]])) (OC (ss.map aD) (os.map aD)) [Gc (shD ss),Gc (aD x),Gc (shD os),Gc (.ref S.length),none,none] (S++[Cl.lst []])=Gc (.nx,[Gc (shD ss),Gc (aD x),Gc (shD os),Gc (.ref S.length)]++os',(S++[Cl.lst []]).set S.length (.lst ((Iw x os ss).map aD))):=by simpa[Iw]using e
  simp[D8,Kx,e']
  rfl
 .refine⟨by simp,λn hn _=>?_⟩
  rw[nI (by lia),nF hn]
end
section
variable{S:Sto}{p:Nat}
theorem getD_get{α:Type}{xs:List α}{n:Nat}{d:α}(h:n<xs.length):xs[n]?=Gc (xs.getD n d):=by
 rw[nJ,nN h]
 rfl
theorem getD_mem{α:Type}{xs:List α}{n:Nat}{d:α}(h:n<xs.length):xs.getD n d∈xs:=nZ (getD_get h)
theorem cn{ss:List Rat}{n:Nat}(h:n<ss.length):atI (ss.map aD) (n:Int)=Gc (aD (ss.getD n 0)):=CT (by rw[ng,getD_get h];rfl)
theorem ba{ss:List Rat}{n:Nat}(h:n<ss.length):ixN (ss.map aD).length (n:Int)=Gc n:=QH (by simpa using h)
theorem Sy{p q:Nat}{x:Rat}{ss:List Rat}{j i:Nat}(hs:∀r∈ss,Sz j r)(hx:Sz i x)(hj:2*j+i<=7900)(hp:p<ss.length)(hq:q<ss.length)(hpq:p≠q):∃S',Em [shD ss,(AW.Ii p q x).d] S=Gc (shD (HV p q x ss),S')/\Bu [] S S':=by
 have sp:=hs _ (getD_mem (d:=0) hp)
 have sq:=hs _ (getD_mem (d:=0) hq)
 have l1:∀S,Ac [aD (ss.getD p 0),aD x] S=Gc (aD (ss.getD p 0*x),S):=λS=>Gg sp hx (by lia)
 have s1:=LJ sp hx
 have l2:∀S,DC [aD (ss.getD p 0),aD (ss.getD p 0*x)] S=Gc (aD (ss.getD p 0-ss.getD p 0*x),S):=λS=>Yb sp s1 (by lia)
 have l3:∀S,BM [aD (ss.getD q 0),aD (ss.getD p 0*x)] S=Gc (aD (ss.getD q 0+ss.getD p 0*x),S):=λS=>MD sq s1 (by lia)
 have a1:=cn hp
 have i1:=ba hp
 have i2:ixN (((ss.map aD).set p (aD (ss.getD p 0-ss.getD p 0*x))).length) (q:Int)=Gc q:=QH (by simpa using hq)
 have a2:atI ((ss.map aD).set p (aD (ss.getD p 0-ss.getD p 0*x))) (q:Int)=Gc (aD (ss.getD q 0)):=CT (by
  rw[nI hpq,ng,getD_get hq];rfl)
 refine⟨S++[.lst ((HV p q x ss).map aD)],?_,.app⟩
 simp only[qZ,oG]at i1 i2
 have em:(HV p q x ss).map aD=((ss.map aD).set p (aD (ss.getD p 0-ss.getD p 0*x))).set q (aD (ss.getD q 0+ss.getD p 0*x)):=by rw[HV,uN,uN]
 unfold shD
 rw[em]
 generalize aD (ss.getD p 0-ss.getD p 0*x)=d1 at*
 generalize aD (ss.getD q 0+ss.getD p 0*x)=d2 at*
 generalize aD (ss.getD p 0*x)=d3 at*
 generalize aD (ss.getD p 0)=d4 at*
 generalize aD (ss.getD q 0)=d5 at*
 simp[Em,MN,AW.d,a1,l1,l2,l3,i1,i2,a2]
theorem SD{x y:Ld}{a b:Nat}{j i:Nat}(ha:S[a]?=Gc (B9 x))(hb:S[b]?=Gc (B9 y))(hs:∀r∈x.ow,Sz j r)(ho:∀r∈y.ow,Sz j r)(hx:x.n.natAbs<2^i)(hy:y.n.natAbs<2^i)(h0:0<x.n+y.n)(h1:1<=i)(hj:2*j+4*i<=7900)(hl:x.ow.length<=10):∃S',Fm [.ref a,.ref b] S=Gc (shD (As x.n y.n x.ow y.ow),S')/\Bu [] S S':=by
 have la:=Aa ha
 have lb:=Aa hb
 have hq:(S++[Cl.lst []])[S.length]?=Gc (.lst []):=nY
 have ha':(S++[Cl.lst []])[a]?=Gc (B9 x):=by rw[nF la];exact ha
 have hb':(S++[Cl.lst []])[b]?=Gc (B9 y):=by rw[nF lb];exact hb
 obtain⟨os',ho',e⟩:=QS (gs:=[]) (t:=tTp [tNm 3,tNm 4]) (b:=Ag (CC 5 (AM BM [AM Ac [CY [eOp (o2 wIx) [eV 0,eC (.int 1)],eC (.int 1)],eV 3],AM Ac [CY [eOp (o2 wIx) [eV 1,eC (.int 1)],eC (.int 1)],eV 4]]))
  (Bp (G7 Hx (eV 2) [AM Ac [eV 5,AM BL [eC (.int 1),eOp (o2 Dt) [eOp (o2 wIx) [eV 0,eC (.int 1)],eOp (o2 wIx) [eV 1,eC (.int 1)]]]]]))) (C:=[Gc (.ref a),Gc (.ref b),Gc (.ref S.length)]) (m:=3) (q:=S.length) (h:=Po λs o=>(s*x.n+o*y.n) / (x.n+y.n:Int)) (I:=λS'=>S'[a]?=Gc (B9 x)/\S'[b]?=Gc (B9 y)) (λ_ _=>Ae) (λS' c h=>⟨by rw[nI (by lia)];exact h.1,by rw[nI (by lia)];exact h.2⟩)
  (ds:=OC (x.ow.map aD) (y.ow.map aD)) (acc:=[]) (os:=[none,none,none]) (S:=S++[Cl.lst []]) rfl ⟨ha',hb'⟩ hq (by simp[Kf];lia) (by
    intro d hd os0 S0 acc h0' hI hq0 hz
    obtain⟨o1,o2,o3,rfl⟩:=jJ h0'
    obtain⟨s,hs',o,ho',rfl⟩:=UB hd
    have d1:=Ah hI.1
    have d2:=Ah hI.2
    have z1:=RE hx h1
    have z2:=RE hy h1
    have l1:=Gg (S:=S0) z1 (hs s hs') (by lia)
    have l2:=Gg (S:=S0) z2 (ho o ho') (by lia)
    have s1:=LJ z1 (hs s hs')
    have s2:=LJ z2 (ho o ho')
    have l3:=MD (S:=S0) s1 s2 (by lia)
    have b1:=GQ hx hy
    have l4:=U5 (S:=S0) (t:=1) h0 (FT b1 (by lia))
    have s4:Sz (i+1) (((1:Int):Rat) / ((x.n+y.n:Int):Rat)):=Kv h0 (show(1:Int).natAbs<2^(i+1)from vI (by lia)) b1
    have l5:=Gg (S:=S0) (YS s1 s2) s4 (by lia)
    rw[Yq]at l1 l2
    refine⟨[Gc (aD s),Gc (aD o),o3],[Gc (aD s),Gc (aD o),Gc (aD (x.n*s+y.n*o))],by simp,?_,rfl⟩
    have ev:(((x.n:Rat)*s+(y.n:Rat)*o)*(((1:Int):Rat) / ((x.n+y.n:Int):Rat)))=(s*x.n+o*y.n) / (x.n+y.n:Int):=by
     push_cast
     grind
    rw[ev]at l5
    have lf:(Po λs o=>(s*x.n+o*y.n) / (x.n+y.n:Int)) (.tup [aD s,aD o])=aD ((s*x.n+o*y.n) / (x.n+y.n:Int)):=by simp only[Po,Z8]
    rw[lf]
    generalize aD ((s*x.n+o*y.n) / (x.n+y.n:Int))=e5 at*
    generalize aD (((1:Int):Rat) / ((x.n+y.n:Int):Rat))=e4 at*
    generalize aD (x.n*s+y.n*o)=e3 at*
    simp[d1,d2,B9,l1,l2,l3,l4,l5,AS hq0,hz])
 rw[NG]at e
 refine⟨(S++[Cl.lst []]).set S.length (.lst ((As x.n y.n x.ow y.ow).map aD)),?_,?_⟩
 .have e':=e
  simp only[pC,oM]at e'
  have d1:=Ah ha'
  have d2:=Ah hb'
  change KR _ _ _ _ _ _=Gc (_,_,List.set _ _ (Cl.lst (List.map aD (As x.n y.n x.ow y.ow))))at e'
  generalize As x.n y.n x.ow y.ow=rs at*
  simp[Fm,J1,d1,d2,e',shD]
 .refine⟨by simp,λn hn _=>?_⟩
  rw[nI (by lia),nF hn]
end
section
variable{S:Sto}{p:Nat}
theorem Eh{α:Type}{gs:Gd}{t:Tf}{f:Ev}{C:En}{m:Nat}{e g:α->D}{S:Sto}(hg:gOk gs S):∀{xs:List α} {acc:List D} {os:En},os.length=m->acc.length+xs.length<=sizeLine->(∀x∈xs,∀os,os.length=m->∃us,us.length=m/\t (e x) (C++os) S=Gc (C++us)/\f (C++us) S=Gc (g x,S))->CI gs t DM f (xs.map e) acc (C++os) S=Gc (acc++xs.map g,S)
 | [],acc,os,ho,hz,h=>by rw[oy,EY hg];simp
 |x::xs,acc,os,ho,hz,h=>by
  obtain⟨us,hu,e1,e2⟩:=h x nO os ho
  rw[nR,Hh hg (by simp at hz;lia) e1 Ik,e2,A4]
  rw[Eh hg hu (by simp at hz ⊢; lia) λx' hx=>h x' (nC _ hx)]
  simp
theorem Dd{α:Type}{gs:Gd}{t:Tf}{c f:Ev}{C:En}{m:Nat}{e g:α->D}{b:α->oO}{S:Sto}(hg:gOk gs S):∀{xs:List α} {acc:List D} {os:En},os.length=m->acc.length+xs.length<=sizeLine->(∀x∈xs,∀os,os.length=m->∃us,us.length=m/\t (e x) (C++os) S=Gc (C++us)/\c (C++us) S=Gc (.bl (b x),S)/\f (C++us) S=Gc (g x,S))->CI gs t c f (xs.map e) acc (C++os) S=Gc (acc++(xs.filter b).map g,S)
 | [],acc,os,ho,hz,h=>by rw[oy,EY hg];simp
 |x::xs,acc,os,ho,hz,h=>by
  obtain⟨us,hu,e1,e2,e3⟩:=h x nO os ho
  cases hb:b x with
  |true=>
   rw[hb]at e2
   rw[nR,Hh hg (by simp at hz;lia) e1 e2,e3,A4,Dd hg hu (by simp at hz ⊢; lia) λd' hd=>h d' (nC _ hd)]
   simp[hb]
  |false=>
   rw[hb]at e2
   rw[nR,Hg hg (by simp at hz;lia) e1 e2,Dd hg hu (by simp at hz ⊢; lia) λd' hd=>h d' (nC _ hd)]
   simp[hb]
theorem WZ{as:List Nat}{ls:List Ld}(h:as.length=ls.length):as.map D.ref=(as.zip ls).map λz=>D.ref z.1:=by
 have:as=(as.zip ls).map Prod.fst:=(v7 (by lia)).symm
 conv=>lhs;rw[this]
 rw[oS];rfl
theorem Yy{β:Type}{as:List Nat}{ls:List Ld}(h:as.length=ls.length)(g:Ld->β):ls.map g=(as.zip ls).map λz=>g z.2:=by
 have:ls=(as.zip ls).map Prod.snd:=(zP (by lia)).symm
 conv=>lhs;rw[this]
 rw[oS];rfl
section
variable{s l m:Nat}{as:List Nat}{st:Stt}
theorem SAt.k8(h:SAt S s l m as st){z:Nat×Ld}(hz:z∈as.zip st.AE):S[z.1]?=Gc (B9 z.2):=by
 obtain⟨i,hi⟩:=sR.mp hz
 have:=vK.mp hi
 exact h.ld i z.1 z.2 this.1 this.2
theorem SAt.at(h:SAt S s l m as st){i:Nat}(hi:i<st.AE.length):∃a,as[i]?=Gc a/\S[a]?=Gc (B9 (AN st.AE i))/\atI (as.map D.ref) (i:Int)=Gc (.ref a):=by
 have h1:i<as.length:=by rw[h.len];exact hi
 refine⟨as[i],nN h1,h.ld i _ _ (nN h1) (Cq hi),CT (by rw[ng,nN h1];rfl)⟩
theorem SAt.guard(h:SAt S s l m as st):gOk [(l,as.map D.ref)] S:=by
 intro g hg
 simp only[nK,oD,qA]at hg
 subst hg
 exact AS h.lo
end
theorem TC{M:Int}(hM:0<=M):∀{xs:List Int},(∀x∈xs,0<=x/\x<=M)->0<=xs.sum/\xs.sum<=xs.length*M
 | [],_=>by simp
 |x::xs,h=>by
  have h1:=h x nO
  have h2:=TC hM λy hy=>h y (nC _ hy)
  simp only[pB,oT]
  refine⟨by lia,?_⟩
  have:((xs.length+1:Nat):Int)*M=xs.length*M+M:=by push_cast;grind
  lia
theorem Mh:∀{xs:List Int} {y:Int},(∀x∈xs,0<=x)->y∈xs->y<=xs.sum
 |x::xs,y,h,hy=>by
  have h1:=h x nO
  have h2:0<=xs.sum:=by
   clear hy
   induction xs with
   |nil=>simp
   |cons z zs ih=>
    have:=h z (by simp)
    have:=ih λw hw=>h w (by simp at hw ⊢; rcases hw with hw|hw<;>simp[hw])
    simp only[pB];lia
  simp only[pB]
  rcases nK.mp hy with e|e
  .lia
  .have:=Mh (λz hz=>h z (nC _ hz)) e
   lia
section
variable{t:Tr}{k:Nat}{st:Stt}{ws:List Int}{n:Int}{l:Nat}
theorem Oy{i:Nat}(hw:∀w∈ws,1<=w/\w<=99)(hi:i<ws.length):1<=ws.getD i 0/\ws.getD i 0<=99:=hw _ (getD_mem hi)
theorem YZ{i:Nat}(hi:i<ws.length):atI (ws.map D.int) (i:Int)=Gc (.int (ws.getD i 0)):=CT (by rw[ng,getD_get hi];rfl)
theorem RG(hi:ws.length=k+1):atI (ws.map D.int) (-1:Int)=Gc (.int (ws.getD k 0)):=by
 have ix:ixN (ws.map D.int).length (-1)=Gc k:=by
  rw[oG,hi]
  unfold ixN
  simp
  lia
 unfold atI
 rw[ix]
 show(ws.map D.int)[k]?=_
 rw[ng,getD_get (d:=(0:Int)) (by lia)]
 rfl
theorem Ki(ht:KY t)(h:Ds t k st)(hk:k<=20)(hl:ws.length=t.k+1)(hw:∀w∈ws,1<=w/\w<=99):0<FH t st.AE ws/\FH t st.AE ws<2^(145+k):=by
 obtain⟨t1,t2,t3,t4,t5,t6⟩:=ht
 have hP:(0:Int)<=2^(131+k):=Int.le_of_lt (Int.pow_pos (by decide))
 have hs:=TC (M:=2^(131+k)*99) (by lia) (xs:=st.AE.map λl=>l.n*ws.getD l.k 0) (by
  intro x hx
  obtain⟨y,hy,rfl⟩:=oR.mp hx
  have h1:=h.pcs y hy
  have h2:=Oy hw (i:=y.k) (by have:=h.kind y hy;lia)
  refine⟨Int.mul_nonneg h1.1 (by lia),Int.mul_le_mul (by lia) h2.2 (by lia) hP⟩)
 have hb:=Oy hw (i:=t.k) (by lia)
 have hlen:=h.len
 rw[oG]at hs
 have h3:(st.AE.length:Int)*(2^(131+k)*99)<=24*(2^(131+k)*99):=uV (by lia) (by lia)
 have h4:(1:Int)<=t.b*ws.getD t.k 0:=by
  have:0<(t.b:Int)*ws.getD t.k 0:=qX (by lia) (by lia)
  lia
 have h5:t.b*ws.getD t.k 0<=20*99:=Int.mul_le_mul (by lia) hb.2 (by lia) (by decide)
 have h6:(2:Int)^(145+k)=2^(131+k)*16384:=by rw[show 145+k=(131+k)+14 by lia,Int.pow_add];rfl
 have h7:(1:Int)<=2^(131+k):=by have:(0:Int)<2^(131+k):=Int.pow_pos (by decide);lia
 have h7':(2:Int)^11<=2^(131+k):=by
  have:(2^11:Nat)<=2^(131+k):=qB (by decide) (by lia)
  exact_mod_cast this
 unfold FH
 rw[h6]
 generalize (2:Int)^(131+k)=P at*
 lia
theorem SJ(ht:KY t)(h:Ds t k st)(hl:ws.length=t.k+1)(hw:∀w∈ws,1<=w/\w<=99)(hi:l<st.AE.length)(h1:1<=n)(h2:n<=(AN st.AE l).n):0<n*ws.getD (AN st.AE l).k 0/\n*ws.getD (AN st.AE l).k 0<FH t st.AE ws:=by
 obtain⟨t1,t2,t3,t4,t5,t6⟩:=ht
 have hw1:=Oy hw (i:=(AN st.AE l).k) (by have:=h.kind _ (AR hi);lia)
 have hb:=Oy hw (i:=t.k) (by lia)
 have h4:(1:Int)<=t.b*ws.getD t.k 0:=by
  have:0<(t.b:Int)*ws.getD t.k 0:=qX (by lia) (by lia)
  lia
 have h5:=Mh (xs:=st.AE.map λl=>l.n*ws.getD l.k 0) (y:=(AN st.AE l).n*ws.getD (AN st.AE l).k 0) (by
  intro x hx
  obtain⟨y,hy,rfl⟩:=oR.mp hx
  have h1:=h.pcs y hy
  have h2:=Oy hw (i:=y.k) (by have:=h.kind y hy;lia)
  exact Int.mul_nonneg h1.1 (by lia)) (oR.mpr ⟨_,AR hi,rfl⟩)
 have h6:n*ws.getD (AN st.AE l).k 0<=(AN st.AE l).n*ws.getD (AN st.AE l).k 0:=uV h2 (by lia)
 refine⟨qX (by lia) (by lia),?_⟩
 unfold FH
 lia
theorem Nj(hi:l<st.AE.length):MC t st.AE l n ws=((n*ws.getD (AN st.AE l).k 0:Int):Rat) / (FH t st.AE ws:Rat):=by
 unfold MC
 rw[Cq hi]
 rfl
theorem Fx{x:Int}{j:Nat}(h0:0<=x)(h1:x<2^j):x.natAbs<2^j:=by
 have:((x.natAbs:Nat):Int)<((2^j:Nat):Int):=by
  rw[Int.natAbs_of_nonneg h0];push_cast;exact h1
 exact_mod_cast this
theorem ZA(ht:KY t)(h:Ds t k st)(hk:k<=20)(hl:ws.length=t.k+1)(hw:∀w∈ws,1<=w/\w<=99)(hi:l<st.AE.length)(h1:1<=n)(h2:n<=(AN st.AE l).n):Sz (145+k) (MC t st.AE l n ws):=by
 have a:=Ki ht h hk hl hw
 have b:=SJ ht h hl hw hi h1 h2
 rw[Nj hi]
 exact Kv a.1 (Fx (by lia) (by lia)) (Fx (by lia) a.2)
theorem ao{s r m:Nat}{as:List Nat}(hS:SAt S s r m as st)(ht:KY t)(h:Ds t k st)(hk:k<=20)(hl:ws.length=t.k+1)(hw:∀w∈ws,1<=w/\w<=99)(hi:l<st.AE.length)(h1:1<=n)(h2:n<=(AN st.AE l).n):Hv [t.d,.ref r,(AW.thr l n ws).d] S=Gc (aD (MC t st.AE l n ws),S):=by
 have a:=Ki ht h hk hl hw
 obtain⟨x,x1,x2,x3⟩:=hS.at hi
 have hlen:=h.len
 have e:=Eh (gs:=[(r,as.map D.ref)]) (t:=tTp [tNm 1,tNm 2,tNm 3]) (f:=eOp (o2 EZ) [eV 2,eOp (o2 wIx) [eV 0,eV 1]]) (C:=[Gc (.tup (ws.map D.int))]) (m:=3) (e:=λz:Nat×Ld=>D.ref z.1) (g:=λz=>D.int (z.2.n*ws.getD z.2.k 0)) hS.guard (xs:=as.zip st.AE) (acc:=[]) (os:=[none,none,none]) rfl (nL (show _<=24 by simp;lia) (AQ (by decide))) (by
  intro z hz os ho
  obtain⟨q1,q2,q3,rfl⟩:=jJ ho
  have c1:=hS.k8 hz
  have hm:z.2∈st.AE:=(sJ (a:=z.1) (b:=z.2) hz).2
  have hk:=h.kind _ hm
  have w1:=YZ (ws:=ws) (i:=z.2.k) (by lia)
  have w2:=Oy hw (i:=z.2.k) (by lia)
  have m1:D5 z.2.n (ws.getD z.2.k 0)=true:=mulR (by lia) (by lia)
  generalize ws.getD z.2.k 0=wz at*
  refine⟨[Gc (.int z.2.k),Gc (.int z.2.n),Gc (shD z.2.ow)],rfl,?_,?_⟩
  .simp[AS c1,B9]
  .simp[w1,m1])
 rw[<-WZ hS.len,<-Yy hS.len (λx=>D.int (x.n*ws.getD x.k 0))]at e
 have e':=e
 simp only[pC,oM]at e'
 rw[Nj hi]
 have es:Im (st.AE.map λx=>D.int (x.n*ws.getD x.k 0))=Gc (st.AE.map λx=>x.n*ws.getD x.k 0):=by
  have:=GC (st.AE.map λx=>x.n*ws.getD x.k 0)
  rwa [oS]at this
 have w1:=YZ (ws:=ws) (i:=(AN st.AE l).k) (by have:=h.kind _ (AR hi);lia)
 have w3:=Oy hw (i:=(AN st.AE l).k) (by have:=h.kind _ (AR hi);lia)
 have w2:=RG hl
 have w4:=Oy hw (i:=t.k) (by lia)
 have m1:D5 n (ws.getD (AN st.AE l).k 0)=true:=mulR (by lia) (by lia)
 have m2:D5 (t.b:Int) (ws.getD t.k 0)=true:=mulR (by lia) (by lia)
 have l1:=U5 (S:=S) (t:=n*ws.getD (AN st.AE l).k 0) a.1 (FT (Fx (by lia) a.2) (by lia))
 have e2:FH t st.AE ws=(st.AE.map λx=>x.n*ws.getD x.k 0).sum+t.b*ws.getD t.k 0:=rfl
 rw[e2]at l1⊢
 generalize aD (((n*ws.getD (AN st.AE l).k 0:Int):Rat) / (((st.AE.map λx=>x.n*ws.getD x.k 0).sum+t.b*ws.getD t.k 0:Int):Rat))=R at*
 generalize (st.AE.map λx=>x.n*ws.getD x.k 0)=es' at*
 generalize (st.AE.map λx=>D.int (x.n*ws.getD x.k 0))=es2 at*
 generalize ws.getD (AN st.AE l).k 0=wa at*
 generalize ws.getD t.k 0=wb at*
 have dx:=Ah x2
 have dl:=Ah hS.lo
 simp[Hv,MU,AW.d,Tr.d,HJ hS.lo,e',es,w2,m2,dl,x3,dx,B9,w1,m1,l1]
theorem Tc{G B:Nat}(ht:KY t)(h:Ds t k st)(hk:k<=20)(hl:ws.length=t.k+1)(hw:∀w∈ws,1<=w/\w<=99)(hi:l<st.AE.length)(h1:1<=n)(h2:n<=(AN st.AE l).n){os ss:List Rat}(ho:∀r∈os,Ok G B r)(hs:∀r∈ss,Ok G B r):∀r∈Iw (MC t st.AE l n ws) os ss,Ok (G*(FH t st.AE ws).toNat) (B*(FH t st.AE ws).toNat) r:=by
 have a:=Ki ht h hk hl hw
 have b:=SJ ht h hl hw hi h1 h2
 intro r hr
 unfold Iw at hr
 rw[sR]at hr
 obtain⟨i,hi'⟩:=hr
 rw[ue]at hi'
 obtain⟨x,y,hx,hy,rfl⟩:=hi'
 rw[Nj hi]
 generalize n*ws.getD (AN st.AE l).k 0=c at*
 generalize FH t st.AE ws=W at*
 have:=Ok.mix (a:=(W-c).toNat) (b:=c.toNat) (t:=W.toNat) (hs x (nZ hx)) (ho y (nZ hy)) (by lia) (by lia)
 have e1:(((W-c).toNat:Nat):Rat)=(W:Rat)-(c:Rat):=by
  have:(((W-c).toNat:Nat):Int)=W-c:=ox (by lia)
  have:((((W-c).toNat:Nat):Int):Rat)=((W-c:Int):Rat):=by rw[this]
  push_cast at this
  exact this
 have e2:((c.toNat:Nat):Rat)=(c:Rat):=by
  have:((c.toNat:Nat):Int)=c:=ox (by lia)
  have:(((c.toNat:Nat):Int):Rat)=(c:Rat):=by rw[this]
  exact this
 have e3:((W.toNat:Nat):Rat)=(W:Rat):=by
  have:((W.toNat:Nat):Int)=W:=ox (by lia)
  have:(((W.toNat:Nat):Int):Rat)=(W:Rat):=by rw[this]
  exact this
 rw[e1,e2,e3]at this
 have ne:(W:Rat)≠0:=by
  intro z
  have:=qY.mp z
  lia
 have ev:(x*((W:Rat)-(c:Rat))+y*(c:Rat)) / (W:Rat)=x*(1-(c:Rat) / (W:Rat))+y*((c:Rat) / (W:Rat)):=by grind
 rw[ev]at this
 exact this
end
end
section
variable{S:Sto}
theorem Aq{x y:Str}(h:qG x=true)(g:qG y=true):EB (.str x) (.str y)=true:=by
 unfold EB
 show(qG x && qG y && _)=true
 rw[h,g]
 rfl
theorem Cz:qG (pR "bring")=true:=by decide+kernel
theorem Ez:qG (pR "pool")=true:=by decide+kernel
theorem E9:qG (pR "swap")=true:=by decide+kernel
theorem C1:qG (pR "trade")=true:=by decide+kernel
theorem Ej:qG (pR "spoil")=true:=by decide+kernel
theorem Cn:qG (pR "throw")=true:=by decide+kernel
theorem Jc:qG (pR "sell")=true:=by decide+kernel
@[simp] theorem VU:EB (.str (Str.ofString "bring")) (.str (Str.ofString "bring"))=true:=Aq Cz Cz
@[simp] theorem VP:deq (.str (Str.ofString "bring")) (.str (Str.ofString "bring"))=true:=nr rfl
@[simp] theorem XH:EB (.str (Str.ofString "bring")) (.str (Str.ofString "pool"))=true:=Aq Cz Ez
@[simp] theorem Vu:deq (.str (Str.ofString "bring")) (.str (Str.ofString "pool"))=false:=nr rfl
@[simp] theorem Wh:EB (.str (Str.ofString "bring")) (.str (Str.ofString "swap"))=true:=Aq Cz E9
@[simp] theorem W6:deq (.str (Str.ofString "bring")) (.str (Str.ofString "swap"))=false:=nr rfl
@[simp] theorem Va:EB (.str (Str.ofString "bring")) (.str (Str.ofString "trade"))=true:=Aq Cz C1
@[simp] theorem VL:deq (.str (Str.ofString "bring")) (.str (Str.ofString "trade"))=false:=nr rfl
@[simp] theorem VG:EB (.str (Str.ofString "bring")) (.str (Str.ofString "throw"))=true:=Aq Cz Cn
@[simp] theorem Vi:deq (.str (Str.ofString "bring")) (.str (Str.ofString "throw"))=false:=nr rfl
@[simp] theorem Yl:wIn false (.val (.str "bring")) (.val (.tup [.str "swap",.str "trade"]))=some (.val (.bl false)):=nr rfl
@[simp] theorem XT:wIn false (.val (.str "bring")) (.val (.tup [.str "spoil",.str "throw"]))=some (.val (.bl false)):=nr rfl
@[simp] theorem jB:wIn false (.val (.str "bring")) (.val BP)=some (.val (.bl true)):=nr rfl
@[simp] theorem XR:EB (.str (Str.ofString "pool")) (.str (Str.ofString "bring"))=true:=Aq Ez Cz
@[simp] theorem WT:deq (.str (Str.ofString "pool")) (.str (Str.ofString "bring"))=false:=nr rfl
@[simp] theorem YW:EB (.str (Str.ofString "pool")) (.str (Str.ofString "pool"))=true:=Aq Ez Ez
@[simp] theorem YI:deq (.str (Str.ofString "pool")) (.str (Str.ofString "pool"))=true:=nr rfl
@[simp] theorem Ww:EB (.str (Str.ofString "pool")) (.str (Str.ofString "trade"))=true:=Aq Ez C1
@[simp] theorem XS:deq (.str (Str.ofString "pool")) (.str (Str.ofString "trade"))=false:=nr rfl
@[simp] theorem Xp:EB (.str (Str.ofString "pool")) (.str (Str.ofString "throw"))=true:=Aq Ez Cn
@[simp] theorem W3:deq (.str (Str.ofString "pool")) (.str (Str.ofString "throw"))=false:=nr rfl
@[simp] theorem kC:wIn false (.val (.str "pool")) (.val BP)=some (.val (.bl true)):=nr rfl
@[simp] theorem WA:EB (.str (Str.ofString "swap")) (.str (Str.ofString "bring"))=true:=Aq E9 Cz
@[simp] theorem X2:deq (.str (Str.ofString "swap")) (.str (Str.ofString "bring"))=false:=nr rfl
@[simp] theorem YC:EB (.str (Str.ofString "swap")) (.str (Str.ofString "pool"))=true:=Aq E9 Ez
@[simp] theorem YQ:deq (.str (Str.ofString "swap")) (.str (Str.ofString "pool"))=false:=nr rfl
@[simp] theorem YB:EB (.str (Str.ofString "swap")) (.str (Str.ofString "swap"))=true:=Aq E9 E9
@[simp] theorem YY:deq (.str (Str.ofString "swap")) (.str (Str.ofString "swap"))=true:=nr rfl
@[simp] theorem Xk:EB (.str (Str.ofString "swap")) (.str (Str.ofString "trade"))=true:=Aq E9 C1
@[simp] theorem W2:deq (.str (Str.ofString "swap")) (.str (Str.ofString "trade"))=false:=nr rfl
@[simp] theorem Vz:EB (.str (Str.ofString "swap")) (.str (Str.ofString "throw"))=true:=Aq E9 Cn
@[simp] theorem XX:deq (.str (Str.ofString "swap")) (.str (Str.ofString "throw"))=false:=nr rfl
@[simp] theorem aH:wIn false (.val (.str "swap")) (.val (.tup [.str "swap",.str "trade"]))=some (.val (.bl true)):=nr rfl
@[simp] theorem kR:wIn false (.val (.str "swap")) (.val BP)=some (.val (.bl true)):=nr rfl
@[simp] theorem Vj:EB (.str (Str.ofString "trade")) (.str (Str.ofString "bring"))=true:=Aq C1 Cz
@[simp] theorem VI:deq (.str (Str.ofString "trade")) (.str (Str.ofString "bring"))=false:=nr rfl
@[simp] theorem XD:EB (.str (Str.ofString "trade")) (.str (Str.ofString "pool"))=true:=Aq C1 Ez
@[simp] theorem Wm:deq (.str (Str.ofString "trade")) (.str (Str.ofString "pool"))=false:=nr rfl
@[simp] theorem Wr:EB (.str (Str.ofString "trade")) (.str (Str.ofString "swap"))=true:=Aq C1 E9
@[simp] theorem Wj:deq (.str (Str.ofString "trade")) (.str (Str.ofString "swap"))=false:=nr rfl
@[simp] theorem Vd:EB (.str (Str.ofString "trade")) (.str (Str.ofString "trade"))=true:=Aq C1 C1
@[simp] theorem VO:deq (.str (Str.ofString "trade")) (.str (Str.ofString "trade"))=true:=nr rfl
@[simp] theorem Vm:EB (.str (Str.ofString "trade")) (.str (Str.ofString "throw"))=true:=Aq C1 Cn
@[simp] theorem VS:deq (.str (Str.ofString "trade")) (.str (Str.ofString "throw"))=false:=nr rfl
@[simp] theorem YA:wIn false (.val (.str "trade")) (.val (.tup [.str "swap",.str "trade"]))=some (.val (.bl true)):=nr rfl
@[simp] theorem iG:wIn false (.val (.str "trade")) (.val BP)=some (.val (.bl true)):=nr rfl
@[simp] theorem VW:EB (.str (Str.ofString "spoil")) (.str (Str.ofString "bring"))=true:=Aq Ej Cz
@[simp] theorem VQ:deq (.str (Str.ofString "spoil")) (.str (Str.ofString "bring"))=false:=nr rfl
@[simp] theorem WS:EB (.str (Str.ofString "spoil")) (.str (Str.ofString "pool"))=true:=Aq Ej Ez
@[simp] theorem Vv:deq (.str (Str.ofString "spoil")) (.str (Str.ofString "pool"))=false:=nr rfl
@[simp] theorem XJ:EB (.str (Str.ofString "spoil")) (.str (Str.ofString "swap"))=true:=Aq Ej E9
@[simp] theorem Wb:deq (.str (Str.ofString "spoil")) (.str (Str.ofString "swap"))=false:=nr rfl
@[simp] theorem Vg:EB (.str (Str.ofString "spoil")) (.str (Str.ofString "trade"))=true:=Aq Ej C1
@[simp] theorem VY:deq (.str (Str.ofString "spoil")) (.str (Str.ofString "trade"))=false:=nr rfl
@[simp] theorem VN:EB (.str (Str.ofString "spoil")) (.str (Str.ofString "spoil"))=true:=Aq Ej Ej
@[simp] theorem VH:deq (.str (Str.ofString "spoil")) (.str (Str.ofString "spoil"))=true:=nr rfl
@[simp] theorem Vf:EB (.str (Str.ofString "spoil")) (.str (Str.ofString "throw"))=true:=Aq Ej Cn
@[simp] theorem VZ:deq (.str (Str.ofString "spoil")) (.str (Str.ofString "throw"))=false:=nr rfl
@[simp] theorem YU:wIn false (.val (.str "spoil")) (.val (.tup [.str "swap",.str "trade"]))=some (.val (.bl false)):=nr rfl
@[simp] theorem V5:wIn false (.val (.str "spoil")) (.val (.tup [.str "spoil",.str "throw"]))=some (.val (.bl true)):=nr rfl
@[simp] theorem iO:wIn false (.val (.str "spoil")) (.val BP)=some (.val (.bl false)):=nr rfl
@[simp] theorem VT:EB (.str (Str.ofString "throw")) (.str (Str.ofString "bring"))=true:=Aq Cn Cz
@[simp] theorem VJ:deq (.str (Str.ofString "throw")) (.str (Str.ofString "bring"))=false:=nr rfl
@[simp] theorem XG:EB (.str (Str.ofString "throw")) (.str (Str.ofString "pool"))=true:=Aq Cn Ez
@[simp] theorem Wn:deq (.str (Str.ofString "throw")) (.str (Str.ofString "pool"))=false:=nr rfl
@[simp] theorem X1:EB (.str (Str.ofString "throw")) (.str (Str.ofString "swap"))=true:=Aq Cn E9
@[simp] theorem Vr:deq (.str (Str.ofString "throw")) (.str (Str.ofString "swap"))=false:=nr rfl
@[simp] theorem Vc:EB (.str (Str.ofString "throw")) (.str (Str.ofString "trade"))=true:=Aq Cn C1
@[simp] theorem VR:deq (.str (Str.ofString "throw")) (.str (Str.ofString "trade"))=false:=nr rfl
@[simp] theorem Vh:EB (.str (Str.ofString "throw")) (.str (Str.ofString "spoil"))=true:=Aq Cn Ej
@[simp] theorem Vk:deq (.str (Str.ofString "throw")) (.str (Str.ofString "spoil"))=false:=nr rfl
@[simp] theorem Vl:EB (.str (Str.ofString "throw")) (.str (Str.ofString "throw"))=true:=Aq Cn Cn
@[simp] theorem VX:deq (.str (Str.ofString "throw")) (.str (Str.ofString "throw"))=true:=nr rfl
@[simp] theorem YL:wIn false (.val (.str "throw")) (.val (.tup [.str "swap",.str "trade"]))=some (.val (.bl false)):=nr rfl
@[simp] theorem XW:wIn false (.val (.str "throw")) (.val (.tup [.str "spoil",.str "throw"]))=some (.val (.bl true)):=nr rfl
@[simp] theorem gg:wIn false (.val (.str "throw")) (.val BP)=some (.val (.bl false)):=nr rfl
@[simp] theorem X0:EB (.str (Str.ofString "sell")) (.str (Str.ofString "bring"))=true:=Aq Jc Cz
@[simp] theorem Xs:deq (.str (Str.ofString "sell")) (.str (Str.ofString "bring"))=false:=nr rfl
@[simp] theorem Ye:EB (.str (Str.ofString "sell")) (.str (Str.ofString "pool"))=true:=Aq Jc Ez
@[simp] theorem Yd:deq (.str (Str.ofString "sell")) (.str (Str.ofString "pool"))=false:=nr rfl
@[simp] theorem Yn:EB (.str (Str.ofString "sell")) (.str (Str.ofString "swap"))=true:=Aq Jc E9
@[simp] theorem Yt:deq (.str (Str.ofString "sell")) (.str (Str.ofString "swap"))=false:=nr rfl
@[simp] theorem WU:EB (.str (Str.ofString "sell")) (.str (Str.ofString "trade"))=true:=Aq Jc C1
@[simp] theorem Xn:deq (.str (Str.ofString "sell")) (.str (Str.ofString "trade"))=false:=nr rfl
@[simp] theorem W5:EB (.str (Str.ofString "sell")) (.str (Str.ofString "spoil"))=true:=Aq Jc Ej
@[simp] theorem Wz:deq (.str (Str.ofString "sell")) (.str (Str.ofString "spoil"))=false:=nr rfl
@[simp] theorem XA:EB (.str (Str.ofString "sell")) (.str (Str.ofString "throw"))=true:=Aq Jc Cn
@[simp] theorem WN:deq (.str (Str.ofString "sell")) (.str (Str.ofString "throw"))=false:=nr rfl
@[simp] theorem aF:wIn false (.val (.str "sell")) (.val (.tup [.str "swap",.str "trade"]))=some (.val (.bl false)):=nr rfl
@[simp] theorem Yp:wIn false (.val (.str "sell")) (.val (.tup [.str "spoil",.str "throw"]))=some (.val (.bl false)):=nr rfl
@[simp] theorem kE:wIn false (.val (.str "sell")) (.val BP)=some (.val (.bl false)):=nr rfl
@[simp] theorem eO:dr S BP=.val BP:=nr rfl
section
variable{a b c d e f:D}{r:List D}
@[simp] theorem fP:MB [a,b,c,d,e] (some (-4)) none=[b,c,d,e]:=nr rfl
@[simp] theorem fo:MB [a,b,c,d,e,f] (some (-4)) none=[c,d,e,f]:=nr rfl
@[simp] theorem fR:MB [a,b,c,d,e] (some 1) (some 2)=[b]:=nr rfl
@[simp] theorem fH:MB [a,b,c,d,e,f] (some 1) (some 2)=[b]:=nr rfl
@[simp] theorem gW{ds zs:List D}:gA S ds [.tup zs]=if ds.length+zs.length<=sizeLine then some (.non,ds++zs)else none:=nr rfl
end
end
section
variable{S S':Sto}{s l m:Nat}{as:List Nat}{st:Stt}
theorem SAt.same(h:SAt S s l m as st)(g:Bu A S S')(hA:∀n∈A,n∉s::l::m::as):SAt S' s l m as st where
 root:=g.get h.root λz=>hA _ z (by simp)
 lo:=g.get h.lo λz=>hA _ z (by simp)
 nu:=g.get h.nu λz=>hA _ z (by simp)
 ld:=λi a x ha hx=>g.get (h.ld i a x ha hx) λz=>hA _ z (by simp[nZ ha])
 len:=h.len
 nd:=h.nd
theorem SAt.Ri(h:SAt S s l m as st)(g:Bu [] S S'):SAt S' s l m as st:=h.same g λ_ z=>(nomatch z)
theorem SAt.ne(h:SAt S s l m as st):s≠l/\s≠m/\l≠m/\s∉as/\l∉as/\m∉as/\as.Nodup:=by
 have:=h.nd
 simp only[qN,nK,wG]at this
 obtain⟨⟨a,b,c⟩,⟨d,e⟩,f,g⟩:=this
 exact⟨a,b,d,c,e,f,g⟩
theorem SAt.QI(h:SAt S s l m as st){i a:Nat}{y:Ld}(ha:as[i]?=Gc a):SAt (S.set a (B9 y)) s l m as {st with AE:=st.AE.set i y}:=by
 obtain⟨n1,n2,n3,n4,n5,n6,n7⟩:=h.ne
 have ma:=nZ ha
 have q1:a≠s:=λe=>n4 (e▸ma)
 have q2:a≠l:=λe=>n5 (e▸ma)
 have q3:a≠m:=λe=>n6 (e▸ma)
 have hi:i<as.length:=(nP.mp ha).1
 have hi':i<st.AE.length:=by rw[<-h.len];exact hi
 refine⟨by rw[nI q1];exact h.root,by rw[nI q2];exact h.lo,by rw[nI q3];exact h.nu,?_,by simp[h.len],h.nd⟩
 intro j b x hb hx
 by_cases e:i=j
 .subst e
  rw[ha]at hb
  cases hb
  have hx':(st.AE.set i y)[i]?=Gc x:=hx
  rw[nU hi']at hx'
  cases hx'
  have hl:a<S.length:=Aa (h.ld i a _ ha (nN hi'))
  exact nU hl
 .have hx':(st.AE.set i y)[j]?=Gc x:=hx
  rw[nI e]at hx'
  have:a≠b:=by
   intro z
   subst z
   exact e ((uC hi n7).mp (ha.trans hb.symm))
  rw[nI this]
  exact h.ld j b x hb hx'
theorem SAt.lts(h:SAt S s l m as st):∀n∈s::l::m::as,n<S.length:=by
 intro n hn
 simp only[nK]at hn
 rcases hn with rfl|rfl|rfl|hn
 .exact Aa h.root
 .exact Aa h.lo
 .exact Aa h.nu
 .obtain⟨i,hi⟩:=sR.mp hn
  have:i<st.AE.length:=by rw[<-h.len];exact(nP.mp hi).1
  exact Aa (h.ld i n _ hi (nN this))
theorem SAt.app(h:SAt S s l m as st)(y:Ld):SAt ((S++[B9 y]).set l (.lst (as.map D.ref++[.ref S.length]))) s l m (as++[S.length]) {st with AE:=st.AE++[y]}:=by
 obtain⟨n1,n2,n3,n4,n5,n6,n7⟩:=h.ne
 have lt:=h.lts
 have ls:=lt s (by simp);have ll:=lt l (by simp);have lm:=lt m (by simp)
 have la:∀a∈as,a<S.length:=λa ha=>lt a (by simp[ha])
 refine⟨?_,?_,?_,?_,by simp[h.len],?_⟩
 .rw[nI (pV n1),nF ls];exact h.root
 .rw[nU (by simp;lia)];simp
 .rw[nI n3,nF lm];exact h.nu
 .intro i a x ha hx
  by_cases e:i<as.length
  .rw[nF e]at ha
   have hx':(st.AE++[y])[i]?=Gc x:=hx
   rw[nF (by rw[<-h.len];exact e)]at hx'
   have ma:=nZ ha
   rw[nI (show l≠a by rintro rfl;exact n5 ma),nF (la a ma)]
   exact h.ld i a x ha hx'
  .have hx':(st.AE++[y])[i]?=Gc x:=hx
   have:i=as.length:=by
    have:=(nP.mp ha).1
    simp at this;lia
   subst this
   rw[nY]at ha
   cases ha
   rw[h.len,nY]at hx'
   cases hx'
   rw[nI (by lia),nY]
 .have:(s::l::m::(as++[S.length]))=(s::l::m::as)++[S.length]:=by simp
  rw[this,sW]
  refine⟨h.nd,by simp,?_⟩
  intro a ha b hb e
  simp only[nK,oD,qA]at hb
  have:=lt a ha
  lia
theorem SAt.hold(h:SAt S s l m as st)(rs:List Rat):SAt (S.set s (.lst [.ref l,shD rs,.ref m])) s l m as {st with hold:=rs}:=by
 obtain⟨n1,n2,n3,n4,n5,n6,n7⟩:=h.ne
 refine⟨nU (h.lts s (by simp)),by rw[nI n1];exact h.lo,by rw[nI n2];exact h.nu,?_,h.len,h.nd⟩
 intro i a x ha hx
 rw[nI (show s≠a by rintro rfl;exact n4 (nZ ha))]
 exact h.ld i a x ha hx
theorem SAt.nums(h:SAt S s l m as st)(us:List Int):SAt (S.set m (.lst (us.map D.int))) s l m as {st with nums:=us}:=by
 obtain⟨n1,n2,n3,n4,n5,n6,n7⟩:=h.ne
 refine⟨by rw[nI (pV n2)];exact h.root,by rw[nI (pV n3)];exact h.lo,nU (h.lts m (by simp)),?_,h.len,h.nd⟩
 intro i a x ha hx
 rw[nI (show m≠a by rintro rfl;exact n6 (nZ ha))]
 exact h.ld i a x ha hx
theorem Ox{f:Ld->Ld}{body:Ex}{C:En}{i8:Nat}{o0:nB D}(h:SAt S s l m as st)(hi:C.length=i8)(hb:∀(S':Sto) (a:Nat) (x:Ld),x∈st.AE->S'[a]?=Gc (B9 x)->∃S2,body (C++[Gc (.ref a)]) S'=Gc (.nx,C++[Gc (.ref a)],S2.set a (B9 (f x)))/\Bu [] S' S2):∃o S',KR [(l,as.map D.ref)] (tNm i8) body (as.map D.ref) (C++[o0]) S=Gc (.nx,C++[o],S')/\SAt S' s l m as {st with AE:=st.AE.map f}/\Bu as S S':=by
 obtain⟨E',S',e,i,o,i1,i2,rfl,i3,i4⟩:=HF (gs:=[(l,as.map D.ref)]) (t:=tNm i8) (b:=body)
  (I:=λds E S'=>∃(i:Nat) (o:nB D),ds=(as.drop i).map D.ref/\i<=as.length/\E=C++[o]/\SAt S' s l m as {st with AE:=(st.AE.take i).map f++st.AE.drop i}/\Bu as S S')
  (λds E S' hI=>by obtain⟨i,o,_,_,_,h1,_⟩:=hI;exact h1.guard) (ds:=as.map D.ref) (E:=C++[o0]) (S:=S)
  ⟨0,o0,by simp,pY _,rfl,by simpa using h,.refl⟩ (by
    rintro d ds E S1 ⟨i,o,i1,i2,rfl,i3,i4⟩
    have hlt:i<as.length:=by
     rcases wN i as.length with w|w
     .exact w
     .rw[uE w]at i1;cases i1
    rw[qP hlt,nR]at i1
    injection i1 with e1 e2
    subst e1 e2
    have hl2:i<st.AE.length:=by rw[<-h.len];exact hlt
    have ha:=nN hlt
    have hx:((st.AE.take i).map f++st.AE.drop i)[i]?=Gc st.AE[i]:=by
     rw[oP (by simp;lia)]
     simp[Nat.min_eq_left (qJ hl2)]
    obtain⟨S2,e3,g3⟩:=hb S1 as[i] st.AE[i] (qT hl2) (i3.ld i _ _ ha hx)
    have k:=(i3.Ri g3).QI (y:=f st.AE[i]) ha
    refine⟨C++[Gc (.ref as[i])],C++[Gc (.ref as[i])],S2.set as[i] (B9 (f st.AE[i])),?_,e3,i+1,Gc (.ref as[i]),rfl,hlt,rfl,?_,?_⟩
    .rw[ae]
     congr 1
     subst hi
     rw[wo _ _ (nG _)]
     simp
    .have:((st.AE.take i).map f++st.AE.drop i).set i (f st.AE[i])=(st.AE.take (i+1)).map f++st.AE.drop (i+1):=by
      rw[wo _ _ (by simp;lia)]
      have e0:i-((st.AE.take i).map f).length=0:=by simp;lia
      rw[e0,qP hl2,yD,List.take_succ_eq_append_getElem hl2,qa]
      simp
     rw[<-this]
     exact k
    .exact(i4.trans (g3.mono λ_ z=>(nomatch z))).trans (.set (qT hlt)))
 refine⟨o,S',e,?_,i4⟩
 have hz:i=as.length:=by
  have:=congrArg zV i1
  simp at this
  lia
 have:(st.AE.take i).map f++st.AE.drop i=st.AE.map f:=by
  rw[hz,h.len];simp
 rw[this]at i3
 exact i3
end
section
variable{S S':Sto}{s l m:Nat}{as:List Nat}{st:Stt}{t:Tr}{k:Nat}
theorem ZW{i:Nat}{n:Int}{j:Nat}(hi:i<st.AE.length)(h:∀x∈st.AE,∀r∈x.ow,Sz j r):∀x∈less st.AE i n,∀r∈x.ow,Sz j r:=by
 intro x hx
 rcases JL hx hi with h1|h1
 .exact h x h1
 .rw[h1];exact h (AN st.AE i) (AR hi)
theorem Ux{i:Nat}{n:Int}{j:Nat}(hi:i<st.AE.length)(h:∀x∈st.AE,x.ow.length=j):∀x∈less st.AE i n,x.ow.length=j:=by
 intro x hx
 rcases JL hx hi with h1|h1
 .exact h x h1
 .rw[h1];exact h (AN st.AE i) (AR hi)
theorem Xd(hS:SAt S s l m as st)(ht:KY t)(h:Ds t k st)(hk:k<=16){i:Nat}{n:Int}{ws:List Int}(hc:Can t st (.thr i n ws)):∃S',El [t.d,.ref s,(AW.thr i n ws).d] S=Gc (.non,S')/\SAt S' s l m as (step t st (.thr i n ws))/\Bu (s::l::m::as) S S':=by
 obtain⟨hi,h1,h2,hl,hw⟩:=hc
 have cO:=ao hS ht h (by lia) hl hw hi h1 h2
 have cz:=ZA ht h (by lia) hl hw hi h1 h2
 have sz:=h.sz
 obtain⟨a,a1,a2,a3⟩:=hS.at hi
 have hS1:=hS.QI (y:=⟨(AN st.AE i).k,(AN st.AE i).n-n,(AN st.AE i).ow⟩) a1
 have o1:=sz.1 _ (AR hi)
 have tp:=ht.2.1
 have hdef:step t st (.thr i n ws)={st with AE:=(less st.AE i n).map λx=>{x with ow:=Iw (MC t st.AE i n ws) (AN st.AE i).ow x.ow},hold:=Iw (MC t st.AE i n ws) (AN st.AE i).ow st.hold}:=rfl
 rw[hdef]
 generalize hX:MC t st.AE i n ws=X at*
 obtain⟨o,S2,f1,f2,f3⟩:=Ox (f:=λx=>{x with ow:=Iw X (AN st.AE i).ow x.ow}) (body:=OB (AM D8 [eOp (o2 wIx) [eV 8,eC (.int 2)],eV 6,eV 7]) (eV 8) (eC (.int 2))) (C:=[Gc t.d,Gc (.ref s),Gc (AW.thr i n ws).d,Gc (.ref l),Gc (shD st.hold),Gc (.ref m),Gc (aD X),Gc (shD (AN st.AE i).ow)]) (i8:=8) (o0:=none) hS1 rfl (by
  intro S' b x hx hb
  obtain⟨S2,e2,g2⟩:=Qg (S:=S') (x:=X) (ss:=x.ow) (os:=(AN st.AE i).ow) (j:=30+170*k) (i:=145+k) (ZW (n:=n) hi sz.1 x hx) o1 cz (by lia) (by rw[Ux (n:=n) hi h.own x hx];lia)
  have hb2:=g2.get hb (by simp)
  refine⟨S2,?_,g2⟩
  simp[Ah hb,B9,e2,AS hb2])
 obtain⟨S3,e3,g3⟩:=Qg (S:=S2) (x:=X) (ss:=st.hold) (os:=(AN st.AE i).ow) (j:=30+170*k) (i:=145+k) sz.2 o1 cz (by lia) (by rw[h.hold];lia)
 have f4:=(f2.Ri g3)
 have rt:=f4.root
 refine⟨S3.set s (.lst [.ref l,shD (Iw X (AN st.AE i).ow st.hold),.ref m]),?_,f4.hold _,?_⟩
 .have f1':=f1
  simp only[pC,oM]at f1'
  have rt':Ea S3 s=Gc [.ref l,shD st.hold,.ref m]:=AS rt
  have r0:=AS hS.root
  have lo:=Ah hS.lo
  have xx:=Ah a2
  have c2:=AS a2
  have sq1:=HJ hS1.lo
  simp only[B9]at f1' sq1 c2 xx
  simp only[AW.d]at f1' cO⊢
  simp[El,Jo,r0,cO,lo,a3,xx,c2,sq1,f1',e3,rt']
 .have q1:Bu (s::l::m::as) S (S.set a (B9 ⟨(AN st.AE i).k,(AN st.AE i).n-n,(AN st.AE i).ow⟩)):=.set (by simp[nZ a1])
  exact((q1.trans (f3.mono λn hn=>by simp[hn])).trans (g3.mono λ_ z=>(nomatch z))).trans (.set (by simp))
theorem Ua(hS:SAt S s l m as st)(ht:KY t)(h:Ds t k st)(hk:k<=16){p q:Nat}{x:Rat}(hc:Can t st (.Ii p q x)):∃S',El [t.d,.ref s,(AW.Ii p q x).d] S=Gc (.non,S')/\SAt S' s l m as (step t st (.Ii p q x))/\Bu (s::l::m::as) S S':=by
 obtain⟨hpq,hp,hq,x1,x2,x3⟩:=hc
 have sz:=h.sz
 have hx:Sz 4 x:=by
  refine⟨?_,by lia⟩
  show x.num.natAbs<16
  lia
 have hdef:step t st (.Ii p q x)={st with AE:=st.AE.map λy=>{y with ow:=HV p q x y.ow},hold:=HV p q x st.hold}:=rfl
 rw[hdef]
 obtain⟨o,S2,f1,f2,f3⟩:=Ox (f:=λy=>{y with ow:=HV p q x y.ow}) (body:=OB (AM Em [eOp (o2 wIx) [eV 8,eC (.int 2)],eV 2]) (eV 8) (eC (.int 2))) (C:=[Gc t.d,Gc (.ref s),Gc (AW.Ii p q x).d,Gc (.ref l),Gc (shD st.hold),Gc (.ref m),none,none]) (i8:=8) (o0:=none) hS rfl (by
  intro S' b y hy hb
  obtain⟨S2,e2,g2⟩:=Sy (S:=S') (p:=p) (q:=q) (x:=x) (ss:=y.ow) (j:=30+170*k) (i:=4) (sz.1 y hy) hx (by lia) (by rw[h.own y hy];exact hp) (by rw[h.own y hy];exact hq) hpq
  have hb2:=g2.get hb (by simp)
  refine⟨S2,?_,g2⟩
  simp[Ah hb,B9,e2,AS hb2])
 obtain⟨S3,e3,g3⟩:=Sy (S:=S2) (p:=p) (q:=q) (x:=x) (ss:=st.hold) (j:=30+170*k) (i:=4) sz.2 hx (by lia) (by rw[h.hold];exact hp) (by rw[h.hold];exact hq) hpq
 have f4:=(f2.Ri g3)
 have rt:=f4.root
 refine⟨S3.set s (.lst [.ref l,shD (HV p q x st.hold),.ref m]),?_,f4.hold _,?_⟩
 .have f1':=f1
  simp only[pC,oM]at f1'
  have rt':Ea S3 s=Gc [.ref l,shD st.hold,.ref m]:=AS rt
  have r0:=AS hS.root
  have sq1:=HJ hS.lo
  simp only[AW.d]at f1' e3⊢
  simp[El,Jo,r0,sq1,f1',e3,rt']
 .exact((f3.mono λn hn=>by simp[hn]).trans (g3.mono λ_ z=>(nomatch z))).trans (.set (by simp))
end
section
variable{S S':Sto}{s l m:Nat}{as:List Nat}{st:Stt}{t:Tr}{k:Nat}
theorem TU{ls:List Ld}{l:Nat}{n:Int}:less ls l n=ls.set l ⟨(AN ls l).k,(AN ls l).n-n,(AN ls l).ow⟩:=rfl
theorem Qx{P p:Nat}{cond:Int}{C:En}{dd:D}{f:Ev}(hP:P<=50)(hf:∀(i:Nat),f [Gc dd,Gc (.int i)] S=Gc (aD (if i=p then 1 else 0),S)):CI [] (tNm 1) DM f (KS 0 P) [] [Gc dd,none] S=Gc ((Jz P p).map aD,S):=by
 have:=Eh (gs:=[]) (t:=tNm 1) (f:=f) (C:=[Gc dd]) (m:=1) (e:=λi:Nat=>D.int (0+(i:Int))) (g:=λi=>aD (if i=p then 1 else 0)) (S:=S) Ae (xs:=oF P) (acc:=[]) (os:=[none]) rfl (nL (show _<=50 by simp;lia) (AQ (by decide))) (by
  intro i _ os ho
  obtain⟨o,rfl⟩:=R4 ho
  refine⟨[Gc (.int i)],rfl,by simp,hf i⟩)
 simp only[pC,oM]at this
 rw[Jz,oS]
 exact this
theorem W4(hS:SAt S s l m as st)(ht:KY t)(h:Ds t k st)(hk:k<=16){p kd:Nat}{n:Int}(hc:Can t st (.D6 p kd n)):∃S' as',BX [t.d,.ref s,(AW.D6 p kd n).d] S=Gc (.non,S')/\SAt S' s l m as' (step t st (.D6 p kd n))/\Bu (s::l::m::as) S S'/\∀n∈as',n∈as\/S.length<=n:=by
 have tp:=ht.2.1
 have e:=Qx (S:=S) (P:=t.p) (p:=p) (cond:=0) (C:=[]) (dd:=(AW.D6 p kd n).d) (f:=CY [eOp (o1 Zj) [eOp (o2 wEq) [eV 1,eOp (o2 wIx) [eV 0,eC (.int 1)]]],eC (.int 1)]) (by lia) (by
  intro i
  by_cases hi:i=p
  .subst hi;simp[AW.d];rfl
  .have:((i:Int)==(p:Int))=false:=by simp;lia
   simp[AW.d,this,hi];rfl)
 have rn:Hy (t.p:Int)=true:=Dp (by lia) (by lia)
 have hz:as.length<sizeLine:=nE (show as.length<50 by rw[hS.len];have:=h.len;lia) (AQ (by decide))
 refine⟨_,_,?_,hS.app ⟨kd,n,Jz t.p p⟩,?_,?_⟩
 .have r0:=AS hS.root
  have c0:=AS hS.lo
  have c1:Ea (S++[B9 ⟨kd,n,Jz t.p p⟩]) l=Gc (as.map D.ref):=AS (by rw[nF (Aa hS.lo)];exact hS.lo)
  simp only[B9]at c1⊢
  simp only[AW.d]at e⊢
  simp[BX,Fe,r0,Tr.d,rn,e,c0,shD]at c1⊢
  simp[c1,hz]
 .exact Bu.app.trans (.set (by simp))
 .intro n hn
  rcases oC.mp hn with w|w
  .exact .inl w
  .simp at w;exact .inr (by lia)
theorem Xr(hS:SAt S s l m as st)(ht:KY t)(h:Ds t k st)(hk:k<=16){i:Nat}{n:Int}(hc:Can t st (.FZ i n)):∃S' as',BX [t.d,.ref s,(AW.FZ i n).d] S=Gc (.non,S')/\SAt S' s l m as' (step t st (.FZ i n))/\Bu (s::l::m::as) S S'/\∀n∈as',n∈as\/S.length<=n:=by
 obtain⟨hi,h1,h2⟩:=hc
 obtain⟨a,a1,a2,a3⟩:=hS.at hi
 refine⟨_,as,?_,hS.QI (y:=⟨(AN st.AE i).k,(AN st.AE i).n-n,(AN st.AE i).ow⟩) a1,.set (by simp[nZ a1]),λn hn=>.inl hn⟩
 have r0:=AS hS.root
 have lo:=Ah hS.lo
 have xx:=Ah a2
 have c2:=AS a2
 simp only[B9]at c2 xx⊢
 simp[BX,Fe,AW.d,r0,lo,a3,xx,c2]
theorem dW(hS:SAt S s l m as st)(ht:KY t)(h:Ds t k st)(hk:k<=16){i:Nat}{n:Int}{ws:List Int}(hc:Can t st (.thr i n ws)):∃S' as',BX [t.d,.ref s,(AW.thr i n ws).d] S=Gc (.non,S')/\SAt S' s l m as' (step t st (.thr i n ws))/\Bu (s::l::m::as) S S'/\∀n∈as',n∈as\/S.length<=n:=by
 obtain⟨S',e,g1,g2⟩:=Xd hS ht h hk hc
 refine⟨S',as,?_,g1,g2,λn hn=>.inl hn⟩
 have r0:=AS hS.root
 simp only[AW.d]at e⊢
 simp[BX,Fe,r0,e]
theorem Ze(hS:SAt S s l m as st)(ht:KY t)(h:Ds t k st)(hk:k<=16){p q:Nat}{x:Rat}(hc:Can t st (.Ii p q x)):∃S' as',BX [t.d,.ref s,(AW.Ii p q x).d] S=Gc (.non,S')/\SAt S' s l m as' (step t st (.Ii p q x))/\Bu (s::l::m::as) S S'/\∀n∈as',n∈as\/S.length<=n:=by
 obtain⟨S',e,g1,g2⟩:=Ua hS ht h hk hc
 refine⟨S',as,?_,g1,g2,λn hn=>.inl hn⟩
 have r0:=AS hS.root
 simp only[AW.d]at e⊢
 simp[BX,Fe,r0,e]
theorem ZR(hS:SAt S s l m as st)(ht:KY t)(h:Ds t k st)(hk:k<=16){i kd:Nat}{g n:Int}(hc:Can t st (.swap i g kd n)):∃S' as',BX [t.d,.ref s,(AW.swap i g kd n).d] S=Gc (.non,S')/\SAt S' s l m as' (step t st (.swap i g kd n))/\Bu (s::l::m::as) S S'/\∀n∈as',n∈as\/S.length<=n:=by
 obtain⟨hi,h1,h2,h3,h4,h5,h6⟩:=hc
 obtain⟨a,a1,a2,a3⟩:=hS.at hi
 have hS1:=hS.QI (y:=⟨(AN st.AE i).k,(AN st.AE i).n-g,(AN st.AE i).ow⟩) a1
 have hS2:=hS1.app ⟨kd,n,(AN st.AE i).ow⟩
 have hz:as.length<sizeLine:=nE (show as.length<50 by rw[hS.len];have:=h.len;lia) (AQ (by decide))
 have hz2:st.nums.length<=sizeLine:=nL (show _<=20 by have:=h.nm;lia) (AQ (by decide))
 refine⟨_,_,?_,hS2,?_,?_⟩
 .have r0:=AS hS.root
  have lo:=Ah hS.lo
  have xx:=Ah a2
  have c2:=AS a2
  have lo1:=Ah hS1.lo
  have co1:=AS hS1.lo
  have x1:=Ah (nU (a:=B9 ⟨(AN st.AE i).k,(AN st.AE i).n-g,(AN st.AE i).ow⟩) (Aa a2))
  have c4:Ea ((S.set a (B9 ⟨(AN st.AE i).k,(AN st.AE i).n-g,(AN st.AE i).ow⟩))++[B9 ⟨kd,n,(AN st.AE i).ow⟩]) l=Gc (as.map D.ref):=AS (by rw[nF (Aa hS1.lo)];exact hS1.lo)
  have nu:=hS2.nu
  have c5:=AS nu
  have st5:∀{T:Sto},T[m]?=Gc (.lst (st.nums.map D.int))->T.set m (.lst (st.nums.map D.int))=T:=λh=>set_same h
  have st6:=st5 nu
  simp only[B9]at c2 xx lo1 co1 x1 c4 c5 st6⊢
  have hz':(as.map D.ref).length<sizeLine:=by simpa using hz
  generalize (as.map D.ref)=refs at*
  simp[BX,Fe,AW.d,r0,lo,a3,xx,c2,lo1,x1,co1]at c4 c5 st6⊢
  simp[c4,hz',c5,hz2,st6]
 .exact((Bu.set (by simp[nZ a1])).trans .app).trans (.set (by simp))
 .intro n hn
  rcases oC.mp hn with w|w
  .exact .inl w
  .simp at w;exact .inr (by lia)
theorem W0(hS:SAt S s l m as st)(ht:KY t)(h:Ds t k st)(hk:k<=16){i kd:Nat}{u g n:Int}(hc:Can t st (.Df u i g kd n)):∃S' as',BX [t.d,.ref s,(AW.Df u i g kd n).d] S=Gc (.non,S')/\SAt S' s l m as' (step t st (.Df u i g kd n))/\Bu (s::l::m::as) S S'/\∀n∈as',n∈as\/S.length<=n:=by
 obtain⟨hi,h1,h2,h3,h4,h5,h6,h7,h8⟩:=hc
 obtain⟨a,a1,a2,a3⟩:=hS.at hi
 have hS1:=hS.QI (y:=⟨(AN st.AE i).k,(AN st.AE i).n-g,(AN st.AE i).ow⟩) a1
 have hS2:=hS1.app ⟨kd,n,(AN st.AE i).ow⟩
 have hz:as.length<sizeLine:=nE (show as.length<50 by rw[hS.len];have:=h.len;lia) (AQ (by decide))
 have hz2:st.nums.length+1<=sizeLine:=nL (show _<=20 by have:=h.nm;lia) (AQ (by decide))
 refine⟨_,_,?_,hS2.nums (st.nums++[u]),?_,?_⟩
 .have r0:=AS hS.root
  have lo:=Ah hS.lo
  have xx:=Ah a2
  have c2:=AS a2
  have lo1:=Ah hS1.lo
  have co1:=AS hS1.lo
  have x1:=Ah (nU (a:=B9 ⟨(AN st.AE i).k,(AN st.AE i).n-g,(AN st.AE i).ow⟩) (Aa a2))
  have c4:Ea ((S.set a (B9 ⟨(AN st.AE i).k,(AN st.AE i).n-g,(AN st.AE i).ow⟩))++[B9 ⟨kd,n,(AN st.AE i).ow⟩]) l=Gc (as.map D.ref):=AS (by rw[nF (Aa hS1.lo)];exact hS1.lo)
  have nu:=hS2.nu
  have c5:=AS nu
  simp only[B9]at c2 xx lo1 co1 x1 c4 c5⊢
  have hz':(as.map D.ref).length<sizeLine:=by simpa using hz
  generalize (as.map D.ref)=refs at*
  simp[BX,Fe,AW.d,r0,lo,a3,xx,c2,lo1,x1,co1]at c4 c5⊢
  simp[c4,hz',c5,hz2]
 .exact(((Bu.set (by simp[nZ a1])).trans .app).trans (.set (by simp))).trans (.set (by simp))
 .intro n hn
  rcases oC.mp hn with w|w
  .exact .inl w
  .simp at w;exact .inr (by lia)
theorem Zv(hS:SAt S s l m as st)(ht:KY t)(h:Ds t k st)(hk:k<=16){i j:Nat}(hc:Can t st (.Fz i j)):∃S' as',BX [t.d,.ref s,(AW.Fz i j).d] S=Gc (.non,S')/\SAt S' s l m as' (step t st (.Fz i j))/\Bu (s::l::m::as) S S'/\∀n∈as',n∈as\/S.length<=n:=by
 obtain⟨hij,hi,hj,h1,h2,h3⟩:=hc
 obtain⟨a,a1,a2,a3⟩:=hS.at hi
 obtain⟨b,b1,b2,b3⟩:=hS.at hj
 have sz:=h.sz
 have pi:=h.pcs _ (AR hi)
 have pj:=h.pcs _ (AR hj)
 obtain⟨S1,e1,g1⟩:=SD (S:=S) (x:=AN st.AE i) (y:=AN st.AE j) (j:=30+170*k) (i:=131+k) a2 b2 (sz.1 _ (AR hi)) (sz.1 _ (AR hj)) (Fx pi.1 pi.2) (Fx pj.1 pj.2) (by lia) (by lia) (by lia) (by rw[h.own _ (AR hi)];have:=ht.2.1;lia)
 have hS1:=hS.Ri g1
 have hab:a≠b:=by
  rintro rfl
  exact hij ((uC (nP.mp a1).1 hS.ne.2.2.2.2.2.2).mp (a1.trans b1.symm))
 have hS2:=hS1.app ⟨(AN st.AE i).k,(AN st.AE i).n+(AN st.AE j).n,As (AN st.AE i).n (AN st.AE j).n (AN st.AE i).ow (AN st.AE j).ow⟩
 have ai:i<as.length:=(nP.mp a1).1
 have bj:j<as.length:=(nP.mp b1).1
 have a1':(as++[S1.length])[i]?=Gc a:=by rw[nF ai];exact a1
 have b1':(as++[S1.length])[j]?=Gc b:=by rw[nF bj];exact b1
 have hS3:=hS2.QI (y:=⟨(AN st.AE i).k,0,(AN st.AE i).ow⟩) a1'
 have hS4:=hS3.QI (y:=⟨(AN st.AE j).k,0,(AN st.AE j).ow⟩) b1'
 have hz:as.length<sizeLine:=nE (show as.length<50 by rw[hS.len];have:=h.len;lia) (AQ (by decide))
 have est:step t st (.Fz i j)={st with AE:=((st.AE++[Ld.mk (AN st.AE i).k ((AN st.AE i).n+(AN st.AE j).n) (As (AN st.AE i).n (AN st.AE j).n (AN st.AE i).ow (AN st.AE j).ow)]).set i ⟨(AN st.AE i).k,0,(AN st.AE i).ow⟩).set j ⟨(AN st.AE j).k,0,(AN st.AE j).ow⟩}:=by
  have e0:AN (less st.AE i (AN st.AE i).n) j=AN st.AE j:=by
   unfold AN less
   rw[nJ,nI hij,<-nJ]
  have e1:less st.AE i (AN st.AE i).n=st.AE.set i ⟨(AN st.AE i).k,0,(AN st.AE i).ow⟩:=by
   unfold less
   rw[Int.sub_self]
  have e2:less (less st.AE i (AN st.AE i).n) j (AN st.AE j).n=(st.AE.set i ⟨(AN st.AE i).k,0,(AN st.AE i).ow⟩).set j ⟨(AN st.AE j).k,0,(AN st.AE j).ow⟩:=by
   rw[TU (ls:=less st.AE i (AN st.AE i).n),e0,Int.sub_self,e1]
  show{st with AE:=less (less st.AE i (AN st.AE i).n) j (AN st.AE j).n++_}=_
  rw[e2,xP _ _ hi,xP _ _ (by simpa using hj)]
 refine⟨_,_,?_,est▸hS4,?_,?_⟩
 .have r0:=AS hS.root
  have lo:=Ah hS.lo
  have c0:=AS hS.lo
  have xa:=Ah a2
  have xb:=Ah b2
  have c1:=AS hS1.lo
  have c4:Ea (S1++[B9 ⟨(AN st.AE i).k,(AN st.AE i).n+(AN st.AE j).n,As (AN st.AE i).n (AN st.AE j).n (AN st.AE i).ow (AN st.AE j).ow⟩]) l=Gc (as.map D.ref):=AS (by rw[nF (Aa hS1.lo)];exact hS1.lo)
  have c5:=AS (hS2.ld i a (AN st.AE i) a1' (by show(st.AE++_)[i]?=_;rw[nF hi];exact Cq hi))
  have c6:=AS (hS3.ld j b (AN st.AE j) b1' (by show((st.AE++_).set i _)[j]?=_;rw[nI hij,nF hj];exact Cq hj))
  simp only[B9]at xa xb c4 c5 c6⊢
  have hz':(as.map D.ref).length<sizeLine:=by simpa using hz
  generalize (as.map D.ref)=refs at*
  generalize As (AN st.AE i).n (AN st.AE j).n (AN st.AE i).ow (AN st.AE j).ow=pr at*
  simp[BX,Fe,AW.d,r0,lo,a3,b3,xa,xb,c0,e1]at c4 c5 c6⊢
  simp[c4,hz',c5,c6]
 .exact(((g1.mono λ_ z=>(nomatch z)).trans .app).trans (.set (by simp))).trans ((Bu.set (by simp[nZ a1])).trans (.set (by simp[nZ b1])))
 .intro n hn
  rcases oC.mp hn with w|w
  .exact .inl w
  .simp at w;subst w;exact .inr g1.len
theorem cF(hS:SAt S s l m as st)(ht:KY t)(h:Ds t k st)(hk:k<=16){d:AW}(hc:Can t st d):∃S' as',BX [t.d,.ref s,d.d] S=Gc (.non,S')/\SAt S' s l m as' (step t st d)/\Bu (s::l::m::as) S S'/\∀n∈as',n∈as\/S.length<=n:=by
 cases d with
 |D6=>exact W4 hS ht h hk hc
 |Fz=>exact Zv hS ht h hk hc
 |swap=>exact ZR hS ht h hk hc
 |Df=>exact W0 hS ht h hk hc
 |FZ=>exact Xr hS ht h hk hc
 |thr=>exact dW hS ht h hk hc
 |Ii=>exact Ze hS ht h hk hc
end
section
variable{st:Stt}{t:Tr}{k:Nat}
theorem FQ{a b:Nat}(h:a<=b):2^a<=2^b:=qB (by decide) h
theorem Ja{a b:Nat}(h:a<=b):(2:Int)^a<=2^b:=by
 have:=FQ h
 exact_mod_cast this
theorem JO{c:Int}(h:0<=c):((c.toNat:Nat):Rat)=(c:Rat):=by
 have:((c.toNat:Nat):Int)=c:=ox h
 have:(((c.toNat:Nat):Int):Rat)=(c:Rat):=by rw[this]
 exact this
theorem Qu{B T k j:Nat}(hB:B<2^(30+170*k))(hT:T<2^j)(hj:j<=170):B*T<2^(30+170*(k+1)):=by
 have:=Et hB hT
 exact nE this (FQ (by lia))
theorem U3{G B P p:Nat}(h:G<=B):∀r∈Jz P p,Ok G B r:=by
 intro r hr
 obtain⟨i,_,rfl⟩:=oR.mp hr
 split
 .exact Ok.one h
 .exact Ok.zero
theorem O8{G B:Nat}{n m:Int}{ss os:List Rat}(hn:0<n)(hm:0<m)(hs:∀r∈ss,Ok G B r)(ho:∀r∈os,Ok G B r):∀r∈As n m ss os,Ok (G*(n+m).toNat) (B*(n+m).toNat) r:=by
 intro r hr
 unfold As at hr
 rw[sR]at hr
 obtain⟨i,hi'⟩:=hr
 rw[ue]at hi'
 obtain⟨x,y,hx,hy,rfl⟩:=hi'
 have:=Ok.mix (a:=n.toNat) (b:=m.toNat) (t:=(n+m).toNat) (hs x (nZ hx)) (ho y (nZ hy)) (by lia) (by lia)
 rwa [JO (by lia),JO (by lia),JO (by lia)]at this
theorem Sw{G B p q:Nat}{x:Rat}{ss:List Rat}(hp:p<ss.length)(hq:q<ss.length)(x1:0<x.num)(x2:x.num<=x.den)(hs:∀r∈ss,Ok G B r):∀r∈HV p q x ss,Ok (G*x.den) (2*B*x.den) r:=by
 have dp:=x.den_pos
 have hsp:=hs _ (getD_mem (d:=0) hp)
 have hsq:=hs _ (getD_mem (d:=0) hq)
 have xs:=EA x
 have ex:(x.num:Rat)=((x.num.toNat:Nat):Rat):=(JO (by lia)).symm
 have nz:=JQ x
 intro r hr
 unfold HV at hr
 rcases q5 hr with hr|hr
 .rcases q5 hr with hr|hr
  .exact(hs r hr).up (by rw[vc];lia)
  .rw[hr]
   obtain⟨z,e,hz⟩:=Ok.mix (a:=x.den-x.num.toNat) (b:=x.num.toNat) (t:=x.den) hsp (Ok.zero (G:=G) (B:=B)) (by lia) dp
   refine⟨z,?_,nL hz (by rw[vc];lia)⟩
   rw[<-e]
   have e2:((x.den-x.num.toNat:Nat):Rat)=(x.den:Rat)-(x.num:Rat):=by
    have:(((x.den-x.num.toNat:Nat):Int):Rat)=((x.den-x.num:Int):Rat):=by
     congr 1;lia
    push_cast at this
    exact this
   rw[e2]
   generalize ss.getD p 0=sp at*
   congr 1
   grind
 .rw[hr]
  obtain⟨z,e1,hz⟩:=hsp
  obtain⟨y,e2,hy⟩:=hsq
  refine⟨y*x.den+z*x.num.toNat,?_,?_⟩
  .generalize ss.getD p 0=sp at*
   generalize ss.getD q 0=sq at*
   push_cast
   rw[<-ex,<-e1,<-e2]
   grind
  .have h1:y*x.den<=B*x.den:=pK _ hy
   have h2:z*x.num.toNat<=B*x.den:=xO hz (by lia)
   rw[vc];lia
theorem Gj{f:Rat->Rat->Rat}{a b:List Rat}{n:Nat}(h:a.length=n)(g:b.length=n):(uM f a b).length=n:=by rw[List.length_zipWith,h,g];lia
theorem Dg{P:Ld->Prop}{i:Nat}{n:Int}(hi:i<st.AE.length)(h:∀x∈st.AE,P x)(g:P ⟨(AN st.AE i).k,(AN st.AE i).n-n,(AN st.AE i).ow⟩):∀x∈less st.AE i n,P x:=by
 intro x hx
 rcases JL hx hi with h1|h1
 .exact h x h1
 .rw[h1];exact g
theorem HB{P:Ld->Prop}{ls:List Ld}{y:Ld}(h:∀x∈ls,P x)(g:P y):∀x∈ls++[y],P x:=by
 intro x hx
 rcases oC.mp hx with w|w
 .exact h x w
 .simp at w;rw[w];exact g
structure LOk(t:Tr)(k G B:Nat)(x:Ld):Prop where
 kd:x.k<t.k
 n0:0<=x.n
 n1:x.n<2^(131+k)
 own:x.ow.length=t.p
 ok:∀r∈x.ow,Ok G B r
theorem LOk.up{G B T B':Nat}{x:Ld}(h:LOk t k G B x)(hT:B*T<=B'):LOk t (k+1) (G*T) B' x:=⟨h.kd,h.n0,tW h.n1 (Ja (by lia)),h.own,λr hr=>(h.ok r hr).up hT⟩
theorem LOk.up1{G B:Nat}{x:Ld}(h:LOk t k G B x):LOk t (k+1) G B x:=⟨h.kd,h.n0,tW h.n1 (Ja (by lia)),h.own,h.ok⟩
theorem LOk.less{G B:Nat}{x:Ld}{n:Int}(h:LOk t k G B x)(h0:0<=n)(h1:n<=x.n):LOk t k G B ⟨x.k,x.n-n,x.ow⟩:=⟨h.kd,show 0<=x.n-n by lia,show x.n-n<_ by have:=h.n1;lia,h.own,h.ok⟩
theorem Ds.of{G B:Nat}(h1:st.AE.length<=4+k)(h2:∀x∈st.AE,LOk t k G B x)(h3:st.hold.length=t.p)(h4:st.nums.length<=k)(g0:0<G)(g1:G<=B)(g2:B<2^(30+170*k))(h5:∀r∈st.hold,Ok G B r):Ds t k st:=⟨h1,λx hx=>(h2 x hx).kd,λx hx=>⟨(h2 x hx).n0,(h2 x hx).n1⟩,λx hx=>(h2 x hx).own,h3,h4,G,B,g0,g1,g2,λx hx=>(h2 x hx).ok,h5⟩
theorem aJ{n:Int}(h:n<2^131):n<2^(131+k):=tW h (Ja (by lia))
theorem N4(ht:KY t)(h:Ds t k st)(hk:k<=16){d:AW}(hc:Can t st d):Ds t (k+1) (step t st d):=by
 obtain⟨G,B,g0,g1,g2,hl,hh⟩:=h.gb
 have L:∀x∈st.AE,LOk t k G B x:=λx hx=>⟨h.kind x hx,(h.pcs x hx).1,(h.pcs x hx).2,h.own x hx,hl x hx⟩
 have g2':B<2^(30+170*(k+1)):=nE g2 (FQ (by lia))
 have hlen:=h.len
 have hnm:=h.nm
 cases d with
 |D6 p kd n=>
  obtain⟨h1,h2,h3,h4⟩:=hc
  refine Ds.of (G:=G) (B:=B) (by simp[step];lia) (HB (λx hx=>(L x hx).up1) ⟨h2,by show 0<=n;lia,aJ h4,by simp[Jz],U3 g1⟩) h.hold (p0 hnm) g0 g1 g2' hh
 |Fz i j=>
  obtain⟨hij,hi,hj,h1,h2,h3⟩:=hc
  have li:=L _ (AR hi)
  have lj:=L _ (AR hj)
  have tl:((AN st.AE i).n+(AN st.AE j).n).toNat<2^(132+k):=by
   have a:=li.n1;have b:=lj.n1
   have e:(2:Int)^(132+k)=2^(131+k)*2:=by rw[show 132+k=(131+k)+1 by lia,wO]
   have:(((AN st.AE i).n+(AN st.AE j).n).toNat:Int)<((2^(132+k):Nat):Int):=by
    rw[ox (by lia)]
    push_cast
    rw[e];lia
   exact_mod_cast this
  have t0:0<((AN st.AE i).n+(AN st.AE j).n).toNat:=by lia
  refine Ds.of (G:=G*((AN st.AE i).n+(AN st.AE j).n).toNat) (B:=B*((AN st.AE i).n+(AN st.AE j).n).toNat) (by simp[step,Ap];lia) (HB ?_ ⟨li.kd,by show 0<=(AN st.AE i).n+(AN st.AE j).n;lia,?_,?_,O8 h1 h2 li.ok lj.ok⟩) h.hold (p0 hnm) (uc g0 t0) (pK _ g1) (Qu g2 tl (by lia)) (λr hr=>(hh r hr).up (nG _))
  .have e0:AN (less st.AE i (AN st.AE i).n) j=AN st.AE j:=by
    unfold AN less
    rw[nJ,nI hij,<-nJ]
   have A:=Dg (P:=LOk t (k+1) (G*((AN st.AE i).n+(AN st.AE j).n).toNat) (B*((AN st.AE i).n+(AN st.AE j).n).toNat)) (n:=(AN st.AE i).n) hi (λx hx=>(L x hx).up (nG _)) ((li.up (nG _)).less (by lia) (xQ _))
   have A2:=Dg (st:={st with AE:=less st.AE i (AN st.AE i).n}) (i:=j) (n:=(AN st.AE j).n) (by simpa[Ap]using hj) A (by
    show LOk _ _ _ _ ⟨(AN (less st.AE i (AN st.AE i).n) j).k,(AN (less st.AE i (AN st.AE i).n) j).n-_,(AN (less st.AE i (AN st.AE i).n) j).ow⟩
    rw[e0]
    exact(lj.up (nG _)).less (by lia) (xQ _))
   exact A2
  .show(AN st.AE i).n+(AN st.AE j).n<2^(131+(k+1))
   have a:=li.n1;have b:=lj.n1
   rw[show 131+(k+1)=(131+k)+1 by lia,wO];lia
  .exact Gj li.own lj.own
 |swap i g kd n=>
  obtain⟨hi,h1,h2,h3,h4,h5,h6⟩:=hc
  have li:=L _ (AR hi)
  refine Ds.of (G:=G) (B:=B) (by simp[step,Ap];lia) (HB (Dg hi (λx hx=>(L x hx).up1) (li.up1.less (by lia) h2)) ⟨h3,by show 0<=n;lia,aJ h6,li.own,li.ok⟩) h.hold (p0 hnm) g0 g1 g2' hh
 |Df u i g kd n=>
  obtain⟨hi,h1,h2,h3,h4,h5,h6,h7⟩:=hc
  have li:=L _ (AR hi)
  refine Ds.of (G:=G) (B:=B) (by simp[step,Ap];lia) (HB (Dg hi (λx hx=>(L x hx).up1) (li.up1.less (by lia) h2)) ⟨h3,by show 0<=n;lia,aJ h6,li.own,li.ok⟩) h.hold (by simp[step];lia) g0 g1 g2' hh
 |FZ i n=>
  obtain⟨hi,h1,h2⟩:=hc
  have li:=L _ (AR hi)
  refine Ds.of (G:=G) (B:=B) (by simp[step,Ap];lia) (Dg hi (λx hx=>(L x hx).up1) (li.up1.less (by lia) h2)) h.hold (p0 hnm) g0 g1 g2' hh
 |thr i n ws=>
  obtain⟨hi,h1,h2,h3,h4⟩:=hc
  have li:=L _ (AR hi)
  have W:=Ki ht h (by lia) h3 h4
  have wl:(FH t st.AE ws).toNat<2^(145+k):=by
   have:((FH t st.AE ws).toNat:Int)<((2^(145+k):Nat):Int):=by
    rw[ox (by lia)];push_cast;exact W.2
   exact_mod_cast this
  have bo:=λ{ss:List Rat} (hs:∀r∈ss,Ok G B r)=>Tc ht h (by lia) h3 h4 hi h1 h2 li.ok hs
  refine Ds.of (G:=G*(FH t st.AE ws).toNat) (B:=B*(FH t st.AE ws).toNat) (by simp[step,Ap];lia) ?_ (Gj h.hold li.own) (p0 hnm) (uc g0 (by lia)) (pK _ g1) (Qu g2 wl (by lia)) (bo hh)
  intro x hx
  obtain⟨y,hy,rfl⟩:=oR.mp hx
  have ly:=Dg (P:=LOk t k G B) hi L (li.less (n:=n) (by lia) h2) y hy
  exact⟨ly.kd,ly.n0,ly.up1.n1,Gj ly.own li.own,bo ly.ok⟩
 |Ii p q x=>
  obtain⟨h1,h2,h3,h4,h5,h6⟩:=hc
  have dp:=x.den_pos
  refine Ds.of (G:=G*x.den) (B:=2*B*x.den) (by simp[step];lia) ?_ (by simp[step,HV,h.hold]) (p0 hnm) (uc g0 dp) (pK _ (by lia)) ?_ (Sw (by rw[h.hold];exact h2) (by rw[h.hold];exact h3) h4 h5 hh)
  .intro y hy
   obtain⟨z,hz,rfl⟩:=oR.mp hy
   have lz:=L z hz
   exact⟨lz.kd,lz.n0,lz.up1.n1,by simp[HV,lz.own],Sw (by rw[lz.own];exact h2) (by rw[lz.own];exact h3) h4 h5 lz.ok⟩
  .have:=Qu (B:=B) (T:=2*x.den) (j:=5) g2 (by lia) (by lia)
   rw[show 2*B*x.den=B*(2*x.den) by rw[<-vc,rm 2 B]]
   exact this
end
theorem Kp{α:Type}{f:α->D}:∀{xs:List α},(∀x∈xs,(f x).lay=true)->D.Sv (xs.map f)=true
 | [],_=>rfl
 |x::xs,h=>by
  show((f x).lay && D.Sv (xs.map f))=true
  rw[h x nO,Kp λy hy=>h y (nC _ hy)]
  rfl
theorem WK{ds:List D}(h:D.Sv ds=true):EB (.lst ds) (.lst [])=true:=by
 unfold EB
 show(D.Sv ds && true && _)=true
 rw[h]
 simp only[Bool.true_and,yx]
 exact nL (zC _ _) (by decide)
noncomputable def BO(is:List Nat):List D:=is.map λ(i:Nat)=>D.int i
theorem K9{is:List Nat}:EB (.lst (BO is)) (.lst [])=true:=WK (Kp λ_ _=>rfl)
theorem Wt{d:D}{ds:List D}:deq (.lst (d::ds)) (.lst [])=false:=rfl
theorem ak:deq (.lst []) (.lst [])=true:=rfl
theorem Nt{is:List Nat}:deq (.lst (BO is)) (.lst [])=is.isEmpty:=by
 cases is with
 |nil=>exact ak
 |cons i is=>exact Wt
theorem PB{ds:List D}:N6 0 ds=(oF ds.length).map λ(i:Nat)=>D.tup [.int i,ds.getD i .non]:=by
 apply vX
 intro i
 rw[Kh,ng]
 by_cases h:i<ds.length
 .rw[nN h,xf h]
  simp[nN h]
 .rw[pO (by lia),pO (by simp;lia)]
  rfl
theorem Il{is:List Nat}:(BO is).length=is.length:=by simp[BO]
theorem LY{is:List Nat}{r:Int}(h0:0<=r)(h1:r<is.length):∃i∈is,atI (BO is) r=Gc (.int (i:Nat)):=by
 have h2:r.toNat<is.length:=by lia
 refine⟨is[r.toNat],qT h2,?_⟩
 have:=Yu (xs:=BO is) h0 (by rw[Il];exact h1)
 rw[this]
 simp[BO]
theorem SE{x K:Int}(h0:0<=x)(h1:x<2*K):x % K=if x<K then x else x-K:=by
 split
 .exact yy h0 (by assumption)
 .have:x % K=(x-K) % K:=by rw[Int.sub_emod_right]
  rw[this]
  exact yy (by lia) (by lia)
section
variable{S:Sto}{p s l m:Nat}{as:List Nat}{st:Stt}{t:Tr}{k:Nat}
noncomputable def CA(st:Stt):List Nat:=(oF st.AE.length).filter λi=>decide (0<(AN st.AE i).n)
theorem Zi(hS:SAt S s l m as st)(hl:st.AE.length<=50):CI [(l,as.map D.ref)] (tTp [tNm 0,tNm 1]) (eOp (o2 wGt) [eOp (o2 wIx) [eV 1,eC (.int 1)],eC (.int 0)]) (eV 0) (N6 0 (as.map D.ref)) [] [none,none] S=Gc (BO (CA st),S):=by
 have:=Dd (gs:=[(l,as.map D.ref)]) (t:=tTp [tNm 0,tNm 1]) (c:=eOp (o2 wGt) [eOp (o2 wIx) [eV 1,eC (.int 1)],eC (.int 0)]) (f:=eV 0) (C:=[]) (m:=2) (e:=λi:Nat=>D.tup [.int i,(as.map D.ref).getD i .non]) (g:=λi:Nat=>D.int i) (b:=λi=>decide (0<(AN st.AE i).n)) (S:=S) hS.guard (xs:=oF st.AE.length) (acc:=[]) (os:=[none,none]) rfl (nL (show _<=50 by simp;lia) (AQ (by decide))) (by
  intro i hi os ho
  obtain⟨o1,o2,rfl⟩:=aa ho
  obtain⟨a,a1,a2,a3⟩:=hS.at (tw.mp hi)
  have e:(as.map D.ref).getD i .non=.ref a:=by simp[a1]
  rw[e]
  refine⟨[Gc (.int i),Gc (.ref a)],rfl,by simp,?_,by simp⟩
  simp[Ah a2,B9])
 rw[PB,oG,hS.len]
 exact this
theorem Km{i:Nat}(h:i∈CA st):i<st.AE.length/\0<(AN st.AE i).n:=by
 unfold CA at h
 rw[qM]at h
 exact⟨tw.mp h.1,by simpa using h.2⟩
noncomputable def Ee(st:Stt)(j:Nat):List Nat:=(CA st).filter λi=> !(i==j) && ((AN st.AE i).k==(AN st.AE j).k)
theorem N7:(CA st).length<=st.AE.length:=by
 unfold CA
 exact nL (qx _ _) (by simp)
theorem WY{a b:Nat}:((a:Int)==(b:Int))=(a==b):=by
 by_cases h:a=b
 .subst h;simp
 .have:((a:Int)==(b:Int))=false:=by simp;lia
  rw[this];simp[h]
theorem Zd(hS:SAt S s l m as st)(hl:st.AE.length<=50){j:Nat}(hj:j∈CA st):CI [] (tNm 2) (Lk (eOp (o2 wNe) [eV 2,eV 1]) (eOp (o2 wEq) [eOp (o2 wIx) [eOp (o2 wIx) [eV 0,eV 2],eC (.int 0)],eOp (o2 wIx) [eOp (o2 wIx) [eV 0,eV 1],eC (.int 0)]])) (eV 2) (BO (CA st)) [] [Gc (.ref l),Gc (.int j),none] S=Gc (BO (Ee st j),S):=by
 have fl:=N7 (st:=st)
 exact Dd (gs:=[]) (t:=tNm 2) (f:=eV 2) (C:=[Gc (.ref l),Gc (.int j)]) (m:=1) (e:=λi:Nat=>D.int i) (g:=λi:Nat=>D.int i) (b:=λi=> !(i==j) && ((AN st.AE i).k==(AN st.AE j).k)) (S:=S) Ae (xs:=CA st) (acc:=[]) (os:=[none]) rfl (nL (show _<=50 by simp;lia) (AQ (by decide))) (by
  intro i hi os ho
  obtain⟨o1,rfl⟩:=R4 ho
  obtain⟨a,a1,a2,a3⟩:=hS.at (Km hi).1
  obtain⟨b,b1,b2,b3⟩:=hS.at (Km hj).1
  refine⟨[Gc (.int i)],rfl,by simp,?_,by simp⟩
  by_cases e:i=j
  .subst e
   simp
  .have e':((i:Int)==(j:Int))=false:=by simp;lia
   have e2:(i==j)=false:=by simp[e]
   simp[e',e2,Ah hS.lo,a3,b3,Ah a2,Ah b2,B9,WY])
theorem XC{i j:Nat}(h:i∈Ee st j):i∈CA st/\i≠j/\(AN st.AE i).k=(AN st.AE j).k:=by
 unfold Ee at h
 rw[qM]at h
 simp at h
 exact⟨h.1,h.2.1,h.2.2⟩
noncomputable def Fb(st:Stt):List Nat:=(oF 10).filter λi=> !(st.nums.any λu=>u==(i:Int))
theorem QY{us:List Int}{i:Int}:inD (.int i) (us.map D.int)=us.any λu=>u==i:=by
 unfold inD
 rw[List.any_map]
 rfl
@[simp] theorem iq{b:Bool}{w:Wv}{r:List D}:wIn b w (.own r)=if(Ih (fz w) && r.all Ih)=true then some (.val (.bl (if b then !inD (fz w) r else inD (fz w) r)))else none:=nr rfl
@[simp] theorem jE{b:Bool}{w:Wv}{r:List D}:wIn b w (.val (.lst r))=if(Ih (fz w) && r.all Ih)=true then some (.val (.bl (if b then !inD (fz w) r else inD (fz w) r)))else none:=nr rfl
theorem Oc{us:List Int}:(us.map D.int).all Ih=true:=by
 rw[List.all_map,List.all_eq_true]
 intro x _;rfl
@[simp] theorem kS{i:Int}:Ih (.int i)=true:=nr rfl
theorem ZM(hS:SAt S s l m as st):CI [] (tNm 1) (eOp (o2 (wIn true)) [eV 1,eV 0]) (eV 1) (KS 0 10) [] [Gc (.ref m),none] S=Gc (BO (Fb st),S):=by
 exact Dd (gs:=[]) (t:=tNm 1) (f:=eV 1) (C:=[Gc (.ref m)]) (m:=1) (e:=λi:Nat=>D.int (0+(i:Int))) (g:=λi:Nat=>D.int i) (b:=λi=> !(st.nums.any λu=>u==(i:Int))) (S:=S) Ae (xs:=oF 10) (acc:=[]) (os:=[none]) rfl (nL (show _<=50 by simp) (AQ (by decide))) (by
  intro i hi os ho
  obtain⟨o1,rfl⟩:=R4 ho
  refine⟨[Gc (.int i)],rfl,by simp,?_,by simp⟩
  have nu:=Ah hS.nu
  have fi:=Oc (us:=st.nums)
  have ii:=QY (us:=st.nums) (i:=(i:Int))
  generalize st.nums.map D.int=ud at*
  generalize (st.nums.any λu=>u==(i:Int))=bb at*
  simp[nu,fi,ii])
theorem WI{i:Nat}(h:i∈Fb st):(i:Int)∉st.nums/\i<=9:=by
 unfold Fb at h
 rw[qM]at h
 have h1:=tw.mp h.1
 refine⟨?_,by lia⟩
 intro z
 have h2:=h.2
 have:(st.nums.any λu=>u==(i:Int))=true:=rW.mpr ⟨_,z,by simp⟩
 rw[this]at h2
 cases h2
theorem XZ:(Fb st).length<=10:=by
 unfold Fb
 exact nL (qx _ _) (by simp)
theorem V0{j:Nat}:(Ee st j).length<=st.AE.length:=by
 unfold Ee
 exact nL (qx _ _) N7
end
section
variable{S:Sto}{p s l m:Nat}{as:List Nat}{st:Stt}{t:Tr}{k:Nat}
def Nd:Ex:=(Ag (xIf (Lk (eOp (o2 wLt) [eV 7,eC (.int 8)]) (eOp (o2 wGt) [eOp (o2 wIx) [eV 1,eC (.int 1)],eC (.int 1)])) (Ag (CC 11 (eOp (o2 Pa) [eOp (o2 Dt) [eOp (o2 Dt) [eOp (o2 wIx) [eOp (o2 wIx) [eV 3,eV 8],eC (.int 0)],eC (.int 1)],AM AK [eV 0,eOp (o2 R6) [eOp (o2 wIx) [eV 1,eC (.int 1)],eC (.int 1)]]],eOp (o2 wIx) [eV 1,eC (.int 1)]]))
    (Ag (CC 12 (FK [5] 1 (Ly [eC (.int 10)]) (tNm 1) (eOp (o2 (wIn true)) [eV 1,eV 0]) (eV 1)))
    (Ag (xIf (Lk (eOp (o2 wEq) [eV 7,eC (.int 7)]) (eOp (o2 wNe) [eV 12,G8 []])) (Bq (CY [eC (.str "trade"),eOp (o2 wIx) [eV 12,AM AK [eV 0,eOp (o1 Gu) [eV 12]]],eV 8,eV 9,eV 11,AM BG [eV 0]])) Ed)
    (Bq (CY [eC (.str "swap"),eV 8,eV 9,eV 11,AM BG [eV 0]]))))) Ed)
    (Ag (xIf (eOp (o2 wEq) [eV 7,eC (.int 8)]) (Bq (CY [eC (.str "spoil"),eV 8,eV 9])) Ed)
    (Ag (xIf (Lk (eOp (o2 wEq) [eV 7,eC (.int 9)]) (eOp (o2 wGt) [eOp (o2 wIx) [eV 1,eC (.int 0)],eC (.int 1)])) (Ag (CC 13 (AM AK [eV 0,eOp (o2 wIx) [eV 1,eC (.int 0)]]))
    (Bq (CY [eC (.str "sell"),eV 13,eOp (o2 Pa) [eOp (o2 Dt) [eOp (o2 Dt) [eV 13,eC (.int 1)],AM AK [eV 0,eOp (o2 R6) [eOp (o2 wIx) [eV 1,eC (.int 0)],eC (.int 1)]]],eOp (o2 wIx) [eV 1,eC (.int 0)]],AM FF [eV 0]]))) Ed)
    (Bq (CY [eC (.str "throw"),eV 8,eV 9,AM DH [eV 0,eOp (o2 Dt) [eOp (o2 wIx) [eV 1,eC (.int 1)],eC (.int 1)]]])))))
def UE:Ex:=(xIf (eOp (o2 wLt) [eV 7,eC (.int 5)]) (Ag (CC 10 (FK [3,8] 1 (IP (eV 6)) (tNm 2) (Lk (eOp (o2 wNe) [eV 2,eV 1]) (eOp (o2 wEq) [eOp (o2 wIx) [eOp (o2 wIx) [eV 0,eV 2],eC (.int 0)],eOp (o2 wIx) [eOp (o2 wIx) [eV 0,eV 1],eC (.int 0)]])) (eV 2)))
    (xIf (eOp (o2 wNe) [eV 10,G8 []]) (Bq (CY [eC (.str "pool"),eV 8,eOp (o2 wIx) [eV 10,AM AK [eV 0,eOp (o1 Gu) [eV 10]]]])) Ed)) Ed)
theorem ND:Mv=(Ag (P7 (tTp [tNm 3,tNm 4,tNm 5]) (eV 2)) (Ag (CC 6 (FK [] 2 (ax (eV 3)) (tTp [tNm 0,tNm 1]) (eOp (o2 wGt) [eOp (o2 wIx) [eV 1,eC (.int 1)],eC (.int 0)]) (eV 0))) (Ag (CC 7 (AM AK [eV 0,eC (.int 12)])) (Ag (xIf (eOr (eOp (o2 wLt) [eV 7,eC (.int 2)]) (eOp (o2 wEq) [eV 6,G8 []])) (Bq (CY [eC (.str "bring"),AM AK [eV 0,eOp (o2 wIx) [eV 1,eC (.int 0)]],AM AK [eV 0,eOp (o2 wIx) [eV 1,eC (.int 1)]],AM BG [eV 0]])) Ed) (Ag (CC 8 (eOp (o2 wIx) [eV 6,AM AK [eV 0,eOp (o1 Gu) [eV 6]]])) (Ag (CC 9 (eOp (o2 Dt) [eC (.int 1),AM AK [eV 0,eOp (o2 az) [eOp (o2 wIx) [eOp (o2 wIx) [eV 3,eV 8],eC (.int 1)],eC (.int 2000)]]])) (Ag UE Nd))))))):=rfl
theorem ZL(hp:Ec p S)(hS:SAt S s l m as st)(hps:p∉s::l::m::as)(ht:KY t)(h:Ds t k st)(hk:k<=16):∃d S',DK [.ref p,t.d,.ref s] S=Gc (AW.d d,S')/\Pn p S S'/\Can t st d:=by
 obtain⟨t1,t2,t3,t4,t5,t6⟩:=ht
 have hlen:=h.len
 have st':∀{S':Sto},Pn p S S'->SAt S' s l m as st:=λg=>hS.same g.same (by simpa using hps)
 have r0:=AS hS.root
 have cf:=Zi hS (by lia)
 have fl:=N7 (st:=st)
 have sq:=HJ hS.lo
 obtain⟨way,S1,e1,a1,b1,p1⟩:=Aw hp (n:=12) (by decide) (by decide)
 have okF:=K9 (is:=CA st)
 have dqF:=Nt (is:=CA st)
 by_cases hb:way<2\/(CA st).isEmpty=true
 .obtain⟨x2,S2,e2,a2,b2,p2⟩:=Aw p1.pen (n:=t.p) (by lia) (by lia)
  obtain⟨x3,S3,e3,a3,b3,p3⟩:=Aw p2.pen (n:=t.k) (by lia) (by lia)
  obtain⟨x4,S4,e4,p4,a4,b4⟩:=JT p3.pen
  obtain⟨x2,rfl⟩:=HC a2
  obtain⟨x3,rfl⟩:=HC a3
  refine⟨.D6 x2 x3 x4,S4,?_,((p1.trans p2).trans p3).trans p4,by lia,by lia,a4,b4⟩
  by_cases hw:way<2
  .simp[DK,ND,r0,sq,cf,e1,Tr.d,hw,e2,e3,e4,AW.d]
  .have hf:=hb.resolve_left hw
   simp[DK,ND,r0,sq,cf,e1,Tr.d,hw,okF,dqF,hf,e2,e3,e4,AW.d]
 .have hw2:¬way<2:=λz=>hb (.inl z)
  have hf:(CA st).isEmpty=false:=by
   cases z:(CA st).isEmpty with
   |true=>exact absurd (.inr z) hb
   |false=>rfl
  have hfl:0<(CA st).length:=by
   cases z:CA st with
   |nil=>rw[z]at hf;cases hf
   |cons a b=>simp
  obtain⟨rl,S2,e2,a2,b2,p2⟩:=Aw p1.pen (n:=(CA st).length) (by lia) (by lia)
  obtain⟨i,mi,ei⟩:=LY a2 b2
  have fi:=Km mi
  have hS1:=st' p1
  have hS2:=st' (p1.trans p2)
  obtain⟨a,x1,x2,x3⟩:=hS2.at fi.1
  have n1:=fi.2
  obtain⟨rs,S3,e3,a3,b3,p3⟩:=Aw p2.pen (n:=if 2000<(AN st.AE i).n then 2000 else(AN st.AE i).n) (by split<;>lia) (by split<;>lia)
  have hsome:1<=1+rs/\1+rs<=(AN st.AE i).n:=by split at b3<;>lia
  have p23:=(p1.trans p2).trans p3
  have hS3:=st' p23
  have lo2:=Ah hS2.lo
  have lo3:=Ah hS3.lo
  have x2':=Ah x2
  have x4:S3[a]?=Gc (B9 (AN st.AE i)):=hS3.ld i a _ x1 (Cq fi.1)
  have x4':=Ah x4
  have kd:=h.kind _ (AR fi.1)
  have nl:=Il (is:=CA st)
  have cs:=Zd hS3 (by lia) mi
  have okS:=K9 (is:=Ee st i)
  have dqS:=Nt (is:=Ee st i)
  have sl:=V0 (st:=st) (j:=i)
  have nls:=Il (is:=Ee st i)
  have pre:DK [.ref p,t.d,.ref s] S=((UE [Gc (.ref p),Gc t.d,Gc (.ref s),Gc (.ref l),Gc (shD st.hold),Gc (.ref m),Gc (.lst (BO (CA st))),Gc (.int way),Gc (.int i),Gc (.int (1+rs)),none,none,none,none] S3).bind (cB Nd)).map λr=>(flD r.1,r.2.2):=by
   simp[DK,ND,r0,sq,cf,e1,hw2,okF,dqF,hf,nl,e2,ei,lo2,x3,x2',e3]
  have tail:∀o10,(way<5->(Ee st i).isEmpty=true)->∃d S',(Nd [Gc (.ref p),Gc t.d,Gc (.ref s),Gc (.ref l),Gc (shD st.hold),Gc (.ref m),Gc (.lst (BO (CA st))),Gc (.int way),Gc (.int i),Gc (.int (1+rs)),o10,none,none,none] S3).map (λr=>(flD r.1,r.2.2))=Gc (AW.d d,S')/\Pn p S S'/\Can t st d:=by
   intro o10 _
   clear pre cs okS dqS
   by_cases hsw:way<8/\1<t.k
   .obtain⟨hw8,hk1⟩:=hsw
    have hk1':(1:Int)<t.k:=by lia
    obtain⟨rk,S4,e4,a4,b4,p4⟩:=Aw p3.pen (n:=(t.k:Int)-1) (by lia) (by lia)
    have hS4:=st' (p23.trans p4)
    have hmod:=SE (x:=((AN st.AE i).k:Int)+1+rk) (K:=t.k) (by lia) (by lia)
    obtain⟨kd2,ekd⟩:∃q:Nat,((AN st.AE i).k+1+rk) % (t.k:Int)=(q:Int):=⟨_,(ox (q9 _ (by lia))).symm⟩
    have hkd:kd2<t.k/\kd2≠(AN st.AE i).k:=by
     rw[ekd]at hmod
     split at hmod<;>lia
    have kp:0<t.k:=by lia
    have cl:=ZM hS4
    have okL:=K9 (is:=Fb st)
    have dqL:=Nt (is:=Fb st)
    have ll:=XZ (st:=st)
    have nll:=Il (is:=Fb st)
    have rt:Hy 10=true:=Dp (by decide) (by decide)
    by_cases htr:way=7/\(Fb st).isEmpty=false
    .obtain⟨hw7,hle⟩:=htr
     have hll:0<(Fb st).length:=by
      cases z:Fb st with
      |nil=>rw[z]at hle;cases hle
      |cons a b=>simp
     obtain⟨ru,S5,e5,a5,b5,p5⟩:=Aw p4.pen (n:=(Fb st).length) (by lia) (by lia)
     obtain⟨u,mu,eu⟩:=LY a5 b5
     obtain⟨x6,S6,e6,p6,a6,b6⟩:=JT p5.pen
     have fu:=WI mu
     refine⟨.Df u i (1+rs) kd2 x6,S6,?_,((p23.trans p4).trans p5).trans p6,fi.1,hsome.1,hsome.2,hkd.1,hkd.2,a6,b6,fu.1,by lia,by lia⟩
     subst hw7
     simp[Nd,Tr.d,x3,hk1',lo3,x4',e4,kp,ekd,rt,cl,okL,dqL,hle,nll,e5,eu,e6,AW.d]
    .obtain⟨x6,S6,e6,p6,a6,b6⟩:=JT p4.pen
     refine⟨.swap i (1+rs) kd2 x6,S6,?_,(p23.trans p4).trans p6,fi.1,hsome.1,hsome.2,hkd.1,hkd.2,a6,b6⟩
     by_cases h7:way=7
     .subst h7
      have hle:(Fb st).isEmpty=true:=by
       cases z:(Fb st).isEmpty with
       |true=>rfl
       |false=>exact absurd ⟨rfl,z⟩ htr
      simp[Nd,Tr.d,x3,hk1',lo3,x4',e4,kp,ekd,rt,cl,okL,dqL,hle,nll,e6,AW.d]
     .have h7':(way==7)=false:=by simpa using h7
      simp[Nd,Tr.d,x3,hw8,hk1',lo3,x4',e4,kp,ekd,rt,cl,h7',e6,AW.d]
   .have sw:∀(x y:Ex) (T:Sto),xIf (Lk (eOp (o2 wLt) [eV 7,eC (.int 8)]) (eOp (o2 wGt) [eOp (o2 wIx) [eV 1,eC (.int 1)],eC (.int 1)])) x y [Gc (.ref p),Gc t.d,Gc (.ref s),Gc (.ref l),Gc (shD st.hold),Gc (.ref m),Gc (.lst (BO (CA st))),Gc (.int way),Gc (.int i),Gc (.int (1+rs)),o10,none,none,none] T=y [Gc (.ref p),Gc t.d,Gc (.ref s),Gc (.ref l),Gc (shD st.hold),Gc (.ref m),Gc (.lst (BO (CA st))),Gc (.int way),Gc (.int i),Gc (.int (1+rs)),o10,none,none,none] T:=by
     intro x y T
     by_cases w8:way<8
     .have hk1:¬(1:Int)<t.k:=by lia
      simp[Tr.d,w8,hk1]
     .simp[w8]
    by_cases h8:way=8
    .subst h8
     refine⟨.FZ i (1+rs),S3,?_,p23,fi.1,hsome.1,hsome.2⟩
     simp[Nd,-Pg,sw]
     simp[AW.d]
    .have h8':(way==8)=false:=by simpa using h8
     by_cases h9:way=9/\1<t.p
     .obtain⟨h9,hP⟩:=h9
      subst h9
      have hP':(1:Int)<t.p:=by lia
      obtain⟨rp,S4,e4,a4,b4,p4⟩:=Aw p3.pen (n:=t.p) (by lia) (by lia)
      obtain⟨rq,S5,e5,a5,b5,p5⟩:=Aw p4.pen (n:=(t.p:Int)-1) (by lia) (by lia)
      obtain⟨sh,S6,e6,p6,a6,b6,c6⟩:=WL p5.pen
      have hmod:=SE (x:=rp+1+rq) (K:=t.p) (by lia) (by lia)
      obtain⟨q,eq⟩:∃q:Nat,(rp+1+rq) % (t.p:Int)=(q:Int):=⟨_,(ox (q9 _ (by lia))).symm⟩
      obtain⟨rp,rfl⟩:=HC a4
      have hq:q<t.p/\q≠rp:=by
       rw[eq]at hmod
       split at hmod<;>lia
      have pp:0<t.p:=by lia
      refine⟨.Ii rp q sh,S6,?_,((p23.trans p4).trans p5).trans p6,λz=>hq.2 z.symm,by lia,hq.1,a6,b6,c6⟩
      simp[Nd,-Pg,sw]
      simp[Tr.d,hP',e4,e5,pp,eq,e6,AW.d]
     .have s9:∀(x y:Ex) (T:Sto),xIf (Lk (eOp (o2 wEq) [eV 7,eC (.int 9)]) (eOp (o2 wGt) [eOp (o2 wIx) [eV 1,eC (.int 0)],eC (.int 1)])) x y [Gc (.ref p),Gc t.d,Gc (.ref s),Gc (.ref l),Gc (shD st.hold),Gc (.ref m),Gc (.lst (BO (CA st))),Gc (.int way),Gc (.int i),Gc (.int (1+rs)),o10,none,none,none] T=y [Gc (.ref p),Gc t.d,Gc (.ref s),Gc (.ref l),Gc (shD st.hold),Gc (.ref m),Gc (.lst (BO (CA st))),Gc (.int way),Gc (.int i),Gc (.int (1+rs)),o10,none,none,none] T:=by
       intro x y T
       by_cases z:way=9
       .have hP:¬(1:Int)<t.p:=by have:¬1<t.p:=λw=>h9 ⟨z,w⟩;lia
        subst z
        simp[Tr.d,hP]
       .have z':(way==9)=false:=by simpa using z
        simp[z']
      obtain⟨ws,S4,e4,p4,a4,b4⟩:=Ta p3.pen (n:=t.k+1) (by lia)
      have e4':DH [.ref p,.int ((t.k:Int)+1)] S3=Gc (.tup (ws.map .int),S4):=e4
      refine⟨.thr i (1+rs) ws,S4,?_,p23.trans p4,fi.1,hsome.1,hsome.2,a4,b4⟩
      have s8:∀(x y:Ex) (T:Sto),xIf (eOp (o2 wEq) [eV 7,eC (.int 8)]) x y [Gc (.ref p),Gc t.d,Gc (.ref s),Gc (.ref l),Gc (shD st.hold),Gc (.ref m),Gc (.lst (BO (CA st))),Gc (.int way),Gc (.int i),Gc (.int (1+rs)),o10,none,none,none] T=y [Gc (.ref p),Gc t.d,Gc (.ref s),Gc (.ref l),Gc (shD st.hold),Gc (.ref m),Gc (.lst (BO (CA st))),Gc (.int way),Gc (.int i),Gc (.int (1+rs)),o10,none,none,none] T:=by
       intro x y T
       simp[h8']
      simp[Nd,-Pg,sw,s8,s9]
      simp[Tr.d,e4',AW.d]
  by_cases hpool:way<5/\(Ee st i).isEmpty=false
  .obtain⟨hw5,hse⟩:=hpool
   have hsl:0<(Ee st i).length:=by
    cases z:Ee st i with
    |nil=>rw[z]at hse;cases hse
    |cons a b=>simp
   obtain⟨rj,S4,e4,a4,b4,p4⟩:=Aw p3.pen (n:=(Ee st i).length) (by lia) (by lia)
   obtain⟨j,mj,ej⟩:=LY a4 b4
   have fj:=XC mj
   have fj':=Km fj.1
   refine⟨.Fz i j,S4,?_,p23.trans p4,λz=>fj.2.1 z.symm,fi.1,fj'.1,n1,fj'.2,fj.2.2.symm⟩
   rw[pre]
   simp[UE,hw5,cs,okS,dqS,hse,nls,e4,ej,AW.d]
  .by_cases w5:way<5
   .have hse:(Ee st i).isEmpty=true:=by
     cases z:(Ee st i).isEmpty with
     |true=>rfl
     |false=>exact absurd ⟨w5,z⟩ hpool
    obtain⟨d,S',e,pn,hc⟩:=tail (Gc (.lst (BO (Ee st i)))) (λ_=>hse)
    refine⟨d,S',?_,pn,hc⟩
    rw[pre,<-e]
    simp[UE,w5,cs,okS,dqS,hse]
   .obtain⟨d,S',e,pn,hc⟩:=tail none (λz=>absurd z w5)
    refine⟨d,S',?_,pn,hc⟩
    rw[pre,<-e]
    simp[UE,w5]
end
noncomputable def runs(t:Tr)(st:Stt)(ds:List AW):Stt:=ds.foldl (step t) st
def KU(t:Tr):Stt->List AW->Prop
 |_,[]=>z6
 |st,d::ds=>Can t st d/\KU t (step t st d) ds
theorem MF{t:Tr}{d:AW}:∀{ds:List AW} {st:Stt},KU t st ds->Can t (runs t st ds) d->KU t st (ds++[d])
 | [],st,_,h=>⟨h,trivial⟩
 |x::ds,st,h,g=>⟨h.1,MF h.2 g⟩
theorem Qo{t:Tr}:∀{ds:List AW} {st:Stt} {i:Nat} {d:AW},KU t st ds->ds[i]?=Gc d->Can t (runs t st (ds.take i)) d
 |x::ds,st,0,d,h,g=>by
  simp at g;subst g
  exact h.1
 |x::ds,st,i+1,d,h,g=>by
  simp at g
  show Can t (runs t (step t st x) (ds.take i)) d
  exact Qo h.2 g
theorem Ow{t:Tr}{st:Stt}{ds:List AW}{d:AW}:runs t st (ds++[d])=step t (runs t st ds) d:=by simp[runs]
theorem UU{t:Tr}{st:Stt}{ds:List AW}{i:Nat}{d:AW}(h:ds[i]?=Gc d):runs t st (ds.take (i+1))=step t (runs t st (ds.take i)) d:=by
 rw[List.take_succ,h]
 exact Ow
theorem N5{t:Tr}(ht:KY t):∀{ds:List AW} {st:Stt} {k:Nat},Ds t k st->KU t st ds->k+ds.length<=17->Ds t (k+ds.length) (runs t st ds)
 | [],st,k,h,_,_=>h
 |d::ds,st,k,h,g,hl=>by
  have:=N5 ht (ds:=ds) (N4 ht h (by simp at hl;lia) g.1) g.2 (by simp at hl;lia)
  rw[show k+(d::ds).length=k+1+ds.length by simp;lia]
  exact this
theorem MT{t:Tr}:∀{ds:List AW} {st:Stt} {i:Nat},KU t st ds->KU t st (ds.take i)
 | [],st,i,h=>by simp;exact trivial
 |d::ds,st,0,h=>trivial
 |d::ds,st,i+1,h=>⟨h.1,MT h.2⟩
noncomputable def st0(t:Tr)(ls:List Ld):Stt:=⟨ls,t.ho,[]⟩
structure Cu(t:Tr)(ls:List Ld)(ds:List AW):Prop where
 tr:KY t
 inv:Ds t 0 (st0 t ls)
 good:KU t (st0 t ls) ds
 len:ds.length<=16
theorem Cu.at{t:Tr}{ls:List Ld}{ds:List AW}(h:Cu t ls ds)(i:Nat):Ds t (ds.take i).length (runs t (st0 t ls) (ds.take i)):=by
 have:=N5 h.tr (ds:=ds.take i) h.inv (MT h.good) (by have:=h.len;simp;lia)
 rwa [uF]at this
noncomputable def CK(t:Tr)(ls:List Ld)(ds:List AW):D:=.tup [t.d,.tup (ls.map Ld.d),.tup (ds.map AW.d)]
theorem Sn{t:Tr}{ls:List Ld}(h:Ga t ls)(hl:ls.length<=4)(h1:t.ho.length=t.p){g:Nat}(g0:0<g)(g1:g<=32)(g2:∀r∈t.ho,Ok g g r):Ds t 0 (st0 t ls):=by
 obtain⟨ha,G,G0,G1,G2⟩:=h
 have hG:G<=32^4:=nL G1 (qB (by decide) hl)
 have hB:G*g<2^30:=by
  have:=xO hG g1
  lia
 refine Ds.of (G:=G*g) (B:=G*g) (by simpa[st0]using hl) ?_ h1 (nG _) (uc G0 g0) (nG _) hB ?_
 .intro x hx
  have:=ha x hx
  exact⟨this.1,by lia,aJ this.2.2.1,this.2.2.2.1,λr hr=>(G2 x hx r hr).up (nG _)⟩
 .intro r hr
  have:=(g2 r hr).up (t:=G) (B':=G*g) (by rw[rm];exact nG _)
  rwa [rm g G]at this
noncomputable def H0:AW->oO
 | .thr .. =>true
 |_=>false
section
variable{S:Sto}{p:Nat}
theorem V7(d:AW)(E:En)(h:E=[Gc d.d]):eOp (o2 wEq) [eOp (o2 wIx) [eV 0,eC (.int 0)],eC (.str "throw")] E S=Gc (.bl (H0 d),S):=by
 subst h
 cases d<;>simp[AW.d,H0]
theorem mC{q:Nat}{ds:List AW}(hq:S[q]?=Gc (.lst (ds.map AW.d)))(hl:ds.length<=50):CI [(q,ds.map AW.d)] (tNm 0) (eOp (o2 wEq) [eOp (o2 wIx) [eV 0,eC (.int 0)],eC (.str "throw")]) (eV 0) (ds.map AW.d) [] [none] S=Gc ((ds.filter H0).map AW.d,S):=
 Dd (gs:=[(q,ds.map AW.d)]) (t:=tNm 0) (f:=eV 0) (C:=[]) (m:=1) (e:=AW.d) (g:=AW.d) (b:=H0) (S:=S) (λg hg=>by rw[oK.mp hg];exact AS hq) (xs:=ds) (acc:=[]) (os:=[none]) rfl (nL (show _<=50 by simp;lia) (AQ (by decide))) (by
  intro d _ os ho
  obtain⟨o1,rfl⟩:=R4 ho
  exact⟨[Gc d.d],rfl,by simp,V7 d _ rfl,by simp⟩)
theorem Xu{M:Nat}(hM:M<=16)(h:Ec p S):∃t ls ds S',Ep [.ref p,.int M] S=Gc (CK t ls ds,S')/\(Cu t ls ds/\ds.length<=M)/\((∀l∈ls,l.ow.sum=1)/\t.ho.sum=1)/\Ec p S'/\∀n c,S[n]?=Gc c->n≠p->S'[n]?=Gc c:=by
 obtain⟨t,S1,e1,p1,ht,hh,g,g0,g1,g2⟩:=V3 h
 obtain⟨ls,S2,e2,p2,hf,hl⟩:=Xa p1.pen ht
 have hi:=Sn hf hl hh.1 g0 g1 g2
 obtain⟨s,l,m,as,S3,e3,hS,sm,hn⟩:=RC (S:=S2) (t:=t) (ls:=ls) (x:=.tup []) (by lia)
 have lp:=p2.pen.lt
 have l02:S.length<=S2.length:=nL p1.same.len p2.same.len
 have pen3:Ec p S3:=by
  obtain⟨ds,e,hp⟩:=p2.pen
  exact⟨ds,sm.get e (by simp),hp⟩
 have hq:(S3++[Cl.lst []])[S3.length]?=Gc (.lst []):=nY
 obtain⟨rn,S4,e4,a4,b4,p4⟩:=Aw (pen3.app [Cl.lst []]) (n:=(M:Int)+1) (by lia) (by lia)
 have lt3:=hS.lts
 have pn:p∉s::l::m::as:=λz=>by have:=hn p z;lia
 have qn:S3.length∉s::l::m::as:=λz=>by have:=lt3 _ z;lia
 have hpq:S3.length≠p:=by have:=pen3.lt;lia
 have hS4:SAt S4 s l m as (st0 t ls):=(hS.Ri (.app)).same p4.same (by simpa using pn)
 have hq4:S4[S3.length]?=Gc (.lst []):=p4.get hq hpq
 obtain⟨rn,rfl⟩:=HC a4
 have rk:Hy (rn:Int)=true:=Dp (by lia) (by lia)
 have lqS:S.length<=S3.length:=nL l02 sm.len
 generalize hQ:S3.length=q at*
 obtain⟨E',S',ef,ds,as',o6,o7,rfl,f1,f2,f3,f4,f5,f6,f7,f8,f9⟩:=HF (gs:=[]) (t:=tNm 6) (b:=Ag (CC 7 (AM DK [eV 0,eV 2,eV 4]))
  (xIf (eOr (eOp (o2 wNe) [eOp (o2 wIx) [eV 7,eC (.int 0)],eC (.str "throw")]) (eOp (o2 wLt) [eOp (o1 Gu) [FK [] 1 (IP (eV 5)) (tNm 0) (eOp (o2 wEq) [eOp (o2 wIx) [eV 0,eC (.int 0)],eC (.str "throw")]) (eV 0)],eC (.int 3)])) (Ag (Bp (AM BX [eV 2,eV 4,eV 7]))
  (Bp (G7 Hx (eV 5) [eV 7]))) Ed))
  (I:=λrs E S'=>∃(ds:List AW) (as':List Nat) (o6 o7:nB D),E=[Gc (.ref p),Gc (.int M),Gc t.d,Gc (.tup (ls.map Ld.d)),Gc (.ref s),Gc (.ref q),o6,o7]/\S'[q]?=Gc (.lst (ds.map AW.d))/\Ec p S'/\SAt S' s l m as' (runs t (st0 t ls) ds)/\KU t (st0 t ls) ds/\ds.length+rs.length<=M/\p∉s::l::m::as'/\q∉s::l::m::as'/\(∀n∈s::l::m::as',S.length<=n)/\∀n c,S[n]?=Gc c->n≠p->S'[n]?=Gc c)
  (λ_ _ _ _=>Ae) (ds:=KS 0 rn) (E:=[Gc (.ref p),Gc (.int M),Gc t.d,Gc (.tup (ls.map Ld.d)),Gc (.ref s),Gc (.ref q),none,none]) (S:=S4)
  ⟨[],as,none,none,rfl,hq4,p4.pen,hS4,trivial,by rw[Hr];simp;lia,pn,qn,λn z=>nL l02 (hn n z),λn c e ne=>p4.get (Bu.get (A:=[]) .app (sm.get (p2.get (p1.get e ne) ne) (by simp)) (by simp)) ne⟩ (by
    rintro dd rs E T ⟨ds,as',o6,o7,rfl,i1,i2,i3,i4,i5,i6,i7,i8,i9⟩
    simp only[oT]at i5
    have inv:=N5 ht hi i4 (by lia)
    rw[uF]at inv
    obtain⟨d,T1,d1,d2,d3⟩:=ZL i2 i3 i6 ht inv (by lia)
    have lS:S.length<=T1.length:=by have:=i8 s nO;have:=Aa i3.root;have:=d2.same.len;lia
    have j3:=i3.same d2.same (by simpa using i6)
    have j1:T1[q]?=Gc (.lst (ds.map AW.d)):=d2.get i1 hpq
    have tc:=mC j1 (by lia)
    by_cases hb:H0 d=false\/(ds.filter H0).length<3
    .obtain⟨T2,as2,k1,k2,k3,k4⟩:=cF j3 ht inv (by lia) d3
     have lt:=j3.lts
     have q2:T2[q]?=Gc (.lst (ds.map AW.d)):=k3.get j1 i7
     have hz:ds.length<sizeLine:=nE (show ds.length<50 by lia) (AQ (by decide))
     refine⟨_,[Gc (.ref p),Gc (.int M),Gc t.d,Gc (.tup (ls.map Ld.d)),Gc (.ref s),Gc (.ref q),Gc dd,Gc d.d],T2.set q (.lst ((ds++[d]).map AW.d)),by simp;rfl,?_,ds++[d],as2,Gc dd,Gc d.d,rfl,nU (Aa q2),?_,?_,MF i4 d3,by simp;lia,?_,?_,?_,?_⟩
     .have kk:=AS q2
      have w1:∀(c:Ev),eOr (eOp (o2 wNe) [eOp (o2 wIx) [eV 7,eC (.int 0)],eC (.str "throw")]) c [Gc (.ref p),Gc (.int M),Gc t.d,Gc (.tup (ls.map Ld.d)),Gc (.ref s),Gc (.ref q),Gc dd,Gc d.d] T1=if H0 d=true then c [Gc (.ref p),Gc (.int M),Gc t.d,Gc (.tup (ls.map Ld.d)),Gc (.ref s),Gc (.ref q),Gc dd,Gc d.d] T1 else Gc (.bl true,T1):=by
       intro c
       cases d<;>simp[AW.d,H0]
      have sq:=HJ j1
      have hz':(ds.map AW.d).length<sizeLine:=by simpa using hz
      have hfin:(ds++[d]).map AW.d=ds.map AW.d++[d.d]:=by simp
      rw[hfin]
      generalize hDD:ds.map AW.d=DD at*
      cases ht':H0 d with
      |false=>
       simp[d1,-QB,w1,ht',k1,kk,hz']
      |true=>
       have h3:((ds.filter H0).length:Int)<3:=by
        have:=hb.resolve_left (by rw[ht'];simp)
        lia
       simp[d1,-QB,w1,ht',sq,tc,h3,k1,kk,hz']
     .obtain⟨pd,pe,ph⟩:=d2.pen
      exact⟨pd,by rw[nI hpq];exact k3.get pe i6,ph⟩
     .rw[Ow]
      exact k2.same (A:=[q]) (.set (by simp)) (by
       intro n hn z
       simp at hn;subst hn
       simp only[nK]at z i7
       rcases z with z|z|z|z
       .exact i7 (.inl z)
       .exact i7 (.inr (.inl z))
       .exact i7 (.inr (.inr (.inl z)))
       .rcases k4 _ z with w|w
        .exact i7 (.inr (.inr (.inr w)))
        .have:=Aa j1;lia)
     .intro z
      simp only[nK]at z i6
      rcases z with z|z|z|z
      .exact i6 (.inl z)
      .exact i6 (.inr (.inl z))
      .exact i6 (.inr (.inr (.inl z)))
      .rcases k4 _ z with w|w
       .exact i6 (.inr (.inr (.inr w)))
       .have:=d2.pen.lt;lia
     .intro z
      simp only[nK]at z i7
      rcases z with z|z|z|z
      .exact i7 (.inl z)
      .exact i7 (.inr (.inl z))
      .exact i7 (.inr (.inr (.inl z)))
      .rcases k4 _ z with w|w
       .exact i7 (.inr (.inr (.inr w)))
       .have:=Aa j1;lia
     .intro n z
      simp only[nK]at z i8
      rcases z with z|z|z|z
      .exact i8 n (.inl z)
      .exact i8 n (.inr (.inl z))
      .exact i8 n (.inr (.inr (.inl z)))
      .rcases k4 _ z with w|w
       .exact i8 n (.inr (.inr (.inr w)))
       .exact nL lS w
     .intro n c e ne
      have ln:n<S.length:=Aa e
      rw[nI (λz=>by have:=lqS;lia)]
      exact k3.get (d2.get (i9 n c e ne) ne) λz=>by have:=i8 n z;lia
    .have ht':H0 d=true:=by
      cases z:H0 d with
      |true=>rfl
      |false=>exact absurd (.inl z) hb
     have h3:¬((ds.filter H0).length:Int)<3:=by
      have:¬(ds.filter H0).length<3:=λz=>hb (.inr z)
      lia
     refine⟨_,[Gc (.ref p),Gc (.int M),Gc t.d,Gc (.tup (ls.map Ld.d)),Gc (.ref s),Gc (.ref q),Gc dd,Gc d.d],T1,by simp;rfl,?_,ds,as',Gc dd,Gc d.d,rfl,j1,d2.pen,j3,i4,by lia,i6,i7,i8,λn c e ne=>d2.get (i9 n c e ne) ne⟩
     have w1:∀(c:Ev),eOr (eOp (o2 wNe) [eOp (o2 wIx) [eV 7,eC (.int 0)],eC (.str "throw")]) c [Gc (.ref p),Gc (.int M),Gc t.d,Gc (.tup (ls.map Ld.d)),Gc (.ref s),Gc (.ref q),Gc dd,Gc d.d] T1=if H0 d=true then c [Gc (.ref p),Gc (.int M),Gc t.d,Gc (.tup (ls.map Ld.d)),Gc (.ref s),Gc (.ref q),Gc dd,Gc d.d] T1 else Gc (.bl true,T1):=by
      intro c
      cases d<;>simp[AW.d,H0]
     have sq:=HJ j1
     generalize hDD:ds.map AW.d=DD at*
     simp[d1,-QB,w1,ht',sq,tc,h3])
 refine⟨t,ls,ds,S',?_,⟨⟨ht,hi,f4,by simp at f5;lia⟩,by simpa using f5⟩,⟨λx hx=>(hf.1 x hx).2.2.2.2,hh.2⟩,f2,f9⟩
 have df:=Ah f1
 simp[Ep,Md,e1,e2,e3,hQ,e4,rk,ef,df,CK]
theorem ZS{M:Nat}(hM:M<=16)(h:Ec p S):∃t ls ds S',Ep [.ref p,.int M] S=Gc (CK t ls ds,S')/\(Cu t ls ds/\ds.length<=M)/\((∀l∈ls,l.ow.sum=1)/\t.ho.sum=1)/\Ec p S':=by
 obtain⟨t,ls,ds,S',a,b,c,d,_⟩:=Xu hM h
 exact⟨t,ls,ds,S',a,b,c,d⟩
end
section
variable{S:Sto}{s l m:Nat}{as:List Nat}{st:Stt}
theorem T8{rs:List Rat}:D.tup (rs.map aD)=shD rs:=rfl
end
theorem P8{n m d:Nat}(h:n<=m):HT.sIx m d (Gc (n:Int))=n:=by
 unfold HT.sIx
 have:¬((n:Int)<0):=by lia
 simp[this]
 lia
theorem NW{α:Type}{ds:List α}{n:Nat}(h:n<=ds.length):MB ds none (Gc (n:Int))=ds.take n:=by
 unfold MB
 rw[P8 h]
 simp[HT.sIx]
theorem Xf{α:Type}{ds:List α}{n:Nat}(h:n<=ds.length):MB ds (Gc (n:Int)) none=ds.drop n:=by
 unfold MB
 rw[P8 h]
 simp[HT.sIx]
 exact sC (by simp)
noncomputable def hD(x:Ld):D:=.tup [.int x.k,.int x.n]
noncomputable def Bf(ls:List Ld):D:=.lst (ls.map hD)
section
variable{S:Sto}{ls:List Ld}{i j:Nat}{n:Int}
@[simp] theorem ig:dr S (Bf ls)=.val (Bf ls):=nr rfl
@[simp] theorem gd:asS (.val (Bf ls))=some (ls.map hD):=nr rfl
@[simp] theorem fK:Gu (.val (Bf ls))=some (.val (.int ls.length)):=by
  show Gu (.val (.lst (ls.map hD)))=_
  rw[Vy,oG]
theorem E5(hi:i<ls.length):atI (ls.map hD) (i:Int)=Gc (hD (AN ls i)):=CT (by rw[ng,Cq hi];rfl)
theorem Ml(hi:i<ls.length):atI (ls.map λx=>shD x.ow) (i:Int)=Gc (shD (AN ls i).ow):=CT (by rw[ng,Cq hi];rfl)
@[simp] theorem lC{x:Ld}:dr S (hD x)=.val (.tup [.int x.k,.int x.n]):=nr rfl
@[simp] theorem kF{ts:List Tf}{x:Ld}{E:En}:tTp ts (hD x) E S=tMs ts [.int x.k,.int x.n] E S:=nr rfl
theorem Ob(hi:i<ls.length)(hn:n<=(AN ls i).n):B1 [Bf ls,.int i,.int n] S=Gc (.bl true,S):=by
 have hi':(i:Int)<ls.length:=by lia
 simp[B1,IL,hi',hi,E5 hi,hn]
theorem QR(hi:i<ls.length)(hj:j<ls.length)(h1:0<(AN ls i).n)(h2:0<(AN ls j).n)(hk:(AN ls i).k=(AN ls j).k):Fj [Bf ls,.int i,.int j] S=Gc (.bl true,S):=by
 have e1:=Ob (S:=S) (n:=1) hi (by lia)
 have e2:=Ob (S:=S) (n:=1) hj (by lia)
 simp[Fj,Jy,e1,e2,E5 hi,E5 hj,hk]
theorem Lc{k:Nat}(hi:i<ls.length)(hn:n<=(AN ls i).n)(hk:k≠(AN ls i).k):ES [Bf ls,.int i,.int n,.int k] S=Gc (.bl true,S):=by
 have e1:=Ob (S:=S) hi hn
 have e2:(((AN ls i).k:Int)==(k:Int))=false:=by simp;lia
 simp[ES,J7,e1,E5 hi,e2]
theorem Wi{lo hi:nB Int}:wSl lo hi (.val (Bf ls))=Gc (.own (MB (ls.map hD) lo hi)):=nr rfl
theorem Es(hi:i<ls.length)(hl:ls.length<=60):BY [Bf ls,.int i,.int n] S=Gc (Bf (less ls i n),S):=by
 have c1:=NW (ds:=ls.map hD) (n:=i) (by simp;lia)
 have c2:MB (ls.map hD) (Gc ((i:Int)+1)) none=(ls.map hD).drop (i+1):=by
  have:=Xf (ds:=ls.map hD) (n:=i+1) (by simp;lia)
  simpa using this
 have ef:Bf (less ls i n)=.lst ((ls.map hD).take i++[.tup [.int (AN ls i).k,.int ((AN ls i).n-n)]]++(ls.map hD).drop (i+1)):=by
  rw[TU,Bf,uN,List.set_eq_take_append_cons_drop,nh (by simpa using hi)]
  simp[hD]
 have z1:(zJ i (ls.map hD)).length+1<=sizeLine:=nL (show _<=100 by simp;lia) (AQ (by decide))
 have z2:(zJ i (ls.map hD)++[D.tup [.int (AN ls i).k,.int ((AN ls i).n-n)]]).length+(List.drop (i+1) (ls.map hD)).length<=sizeLine:=nL (show _<=100 by simp;lia) (AQ (by decide))
 rw[ef]
 have ah:=E5 hi
 have ws:=λ{lo hi:nB Int}=>Wi (ls:=ls) (lo:=lo) (hi:=hi)
 generalize zJ i (ls.map hD)=A at*
 generalize List.drop (i+1) (ls.map hD)=B at*
 simp only[pF,oT,sN]at z2
 simp[BY,Gv,ah,ws,c1,c2,z1,z2]
end
section
variable{S:Sto}{st:Stt}{t:Tr}{k:Nat}
@[simp] theorem ER{ls:List Ld}{r:List D}:Dt (.val (Bf ls)) (.val (.lst r))=if(ls.map hD).length+r.length<=sizeLine then some (.own (ls.map hD++r))else none:=nr rfl
theorem Kb{ls:List Ld}{y:Ld}:D.lst (ls.map hD++[.tup [.int y.k,.int y.n]])=Bf (ls++[y]):=by simp[Bf,hD]
theorem OS(h:Ds t k st)(hk:k<=17){d:AW}(hc:Can t st d):Af [Bf st.AE,d.d] S=Gc (Bf (step t st d).AE,S):=by
 have hlen:=h.len
 have hz:(st.AE.map hD).length+1<=sizeLine:=nL (show _<=100 by simp;lia) (AQ (by decide))
 have hz2:∀{i:Nat} {n:Int},((less st.AE i n).map hD).length+1<=sizeLine:=λ{i n}=>nL (show _<=100 by simp[Ap];lia) (AQ (by decide))
 cases d with
 |D6 p kd n=>
  have e:=Kb (ls:=st.AE) (y:=⟨kd,n,Jz t.p p⟩)
  show _=Gc (Bf (st.AE++[⟨kd,n,Jz t.p p⟩]),S)
  rw[<-e]
  have wA:=ER (ls:=st.AE) (r:=[.tup [.int kd,.int n]])
  rw[nh (by simpa using hz)]at wA
  simp[Af,BR,AW.d,-ER,wA]
 |Fz i j=>
  obtain⟨hij,hi,hj,h1,h2,h3⟩:=hc
  have e0:AN (less st.AE i (AN st.AE i).n) j=AN st.AE j:=by
   unfold AN less
   rw[nJ,nI hij,<-nJ]
  have w1:=Es (S:=S) (n:=(AN st.AE i).n) hi (by lia)
  have w2:=Es (S:=S) (ls:=less st.AE i (AN st.AE i).n) (i:=j) (n:=(AN st.AE j).n) (by rw[Ap];exact hj) (by rw[Ap];lia)
  have z3:((less (less st.AE i (AN st.AE i).n) j (AN st.AE j).n).map hD).length+1<=sizeLine:=nL (show _<=100 by simp[Ap];lia) (AQ (by decide))
  have e:=Kb (ls:=less (less st.AE i (AN st.AE i).n) j (AN st.AE j).n) (y:=⟨(AN st.AE i).k,(AN st.AE i).n+(AN st.AE j).n,As (AN st.AE i).n (AN st.AE j).n (AN st.AE i).ow (AN st.AE j).ow⟩)
  show _=Gc (Bf (less (less st.AE i (AN st.AE i).n) j (AN st.AE j).n++[_]),S)
  rw[<-e]
  have a1:=E5 hi
  have a2:=E5 hj
  have wA:=ER (ls:=less (less st.AE i (AN st.AE i).n) j (AN st.AE j).n) (r:=[.tup [.int (AN st.AE i).k,.int ((AN st.AE i).n+(AN st.AE j).n)]])
  rw[nh (by simpa using z3)]at wA
  generalize (less (less st.AE i (AN st.AE i).n) j (AN st.AE j).n).map hD=A at*
  simp[Af,BR,AW.d,a1,a2,w1,w2,-ER,wA]
 |swap i g kd n=>
  obtain⟨hi,h1,h2,h3,h4,h5,h6⟩:=hc
  have w1:=Es (S:=S) (n:=g) hi (by lia)
  have e:=Kb (ls:=less st.AE i g) (y:=⟨kd,n,(AN st.AE i).ow⟩)
  show _=Gc (Bf (less st.AE i g++[⟨kd,n,(AN st.AE i).ow⟩]),S)
  rw[<-e]
  have wA:=ER (ls:=less st.AE i g) (r:=[.tup [.int kd,.int n]])
  rw[nh (by simpa using hz2)]at wA
  simp[Af,BR,AW.d,w1,-ER,wA]
 |Df u i g kd n=>
  obtain⟨hi,h1,h2,h3,h4,h5,h6,h7⟩:=hc
  have w1:=Es (S:=S) (n:=g) hi (by lia)
  have e:=Kb (ls:=less st.AE i g) (y:=⟨kd,n,(AN st.AE i).ow⟩)
  show _=Gc (Bf (less st.AE i g++[⟨kd,n,(AN st.AE i).ow⟩]),S)
  rw[<-e]
  have wA:=ER (ls:=less st.AE i g) (r:=[.tup [.int kd,.int n]])
  rw[nh (by simpa using hz2)]at wA
  simp[Af,BR,AW.d,w1,-ER,wA]
 |FZ i n=>
  obtain⟨hi,h1,h2⟩:=hc
  have w1:=Es (S:=S) (n:=n) hi (by lia)
  show _=Gc (Bf (less st.AE i n),S)
  simp[Af,BR,AW.d,w1]
 |thr i n ws=>
  obtain⟨hi,h1,h2,h3,h4⟩:=hc
  have w1:=Es (S:=S) (n:=n) hi (by lia)
  have e:Bf (step t st (.thr i n ws)).AE=Bf (less st.AE i n):=by
   show D.lst (((less st.AE i n).map _).map hD)=_
   rw[oS];rfl
  rw[e]
  simp[Af,BR,AW.d,w1]
 |Ii p q x=>
  have e:Bf (step t st (.Ii p q x)).AE=Bf st.AE:=by
   show D.lst ((st.AE.map _).map hD)=_
   rw[oS];rfl
  rw[e]
  simp[Af,BR,AW.d]
noncomputable def Gw:AW->nB Int
 | .Df u .. =>Gc u
 |_=>none
theorem TK{ls:List Ld}:∀{ds:List AW},(runs t (st0 t ls) ds).nums=ds.filterMap Gw:=by
 intro ds
 have:∀(ds:List AW) (st:Stt),(runs t st ds).nums=st.nums++ds.filterMap Gw:=by
  intro ds
  induction ds with
  |nil=>intro st;simp[runs]
  |cons d ds ih=>
   intro st
   show(runs t (step t st d) ds).nums=_
   rw[ih]
   cases d<;>simp[step,Gw,pI]
 rw[this];rfl
theorem Jv:∀{ds:List AW} {acc:List D} {o:nB D},acc.length+ds.length<=100->CI [] (tNm 0) (eOp (o2 wEq) [eOp (o2 wIx) [eV 0,eC (.int 0)],eC (.str "trade")]) (eOp (o2 wIx) [eV 0,eC (.int 1)]) (ds.map AW.d) acc [o] S=Gc (acc++(ds.filterMap Gw).map D.int,S)
 | [],acc,o,h=>by rw[oy,EY Ae];simp
 |d::ds,acc,o,h=>by
  have hz:acc.length<sizeLine:=nE (show acc.length<101 by simp at h;lia) (AQ (by decide))
  have ht:tNm 0 d.d [o] S=Gc [Gc d.d]:=by simp
  rw[nR]
  cases d with
  |Df u i g kd n=>
   rw[Hh Ae hz ht (S1:=S) (by simp[AW.d])]
   have:eOp (o2 wIx) [eV 0,eC (.int 1)] [Gc (AW.Df u i g kd n).d] S=Gc (.int u,S):=by simp[AW.d]
   rw[this,A4,Jv (by simp at h ⊢; lia)]
   simp[Gw,pI]
  |D6=>rw[Hg Ae hz ht (S1:=S) (by simp[AW.d]),Jv (by simp at h ⊢; lia)];simp[Gw,pI]
  |Fz=>rw[Hg Ae hz ht (S1:=S) (by simp[AW.d]),Jv (by simp at h ⊢; lia)];simp[Gw,pI]
  |swap=>rw[Hg Ae hz ht (S1:=S) (by simp[AW.d]),Jv (by simp at h ⊢; lia)];simp[Gw,pI]
  |FZ=>rw[Hg Ae hz ht (S1:=S) (by simp[AW.d]),Jv (by simp at h ⊢; lia)];simp[Gw,pI]
  |thr=>rw[Hg Ae hz ht (S1:=S) (by simp[AW.d]),Jv (by simp at h ⊢; lia)];simp[Gw,pI]
  |Ii=>rw[Hg Ae hz ht (S1:=S) (by simp[AW.d]),Jv (by simp at h ⊢; lia)];simp[Gw,pI]
theorem UO{ds:List AW}{d:AW}(hd:ds.length<=50)(hn:st.nums=ds.filterMap Gw)(hc:Can t st d):CB [Bf st.AE,.tup (ds.map AW.d),d.d] S=Gc (.bl true,S):=by
 cases d with
 |D6 p kd n=>simp[CB,DJ,AW.d]
 |Fz i j=>
  obtain⟨hij,hi,hj,h1,h2,h3⟩:=hc
  have e:=QR (S:=S) hi hj h1 h2 h3
  simp[CB,DJ,AW.d,e]
 |swap i g kd n=>
  obtain⟨hi,h1,h2,h3,h4,h5,h6⟩:=hc
  have e:=Lc (S:=S) (k:=kd) hi h2 h4
  simp[CB,DJ,AW.d,e]
 |Df u i g kd n=>
  obtain⟨hi,h1,h2,h3,h4,h5,h6,h7,h8⟩:=hc
  have e:=Lc (S:=S) (k:=kd) hi h2 h4
  have tc:=Jv (S:=S) (ds:=ds) (acc:=[]) (o:=none) (by simp;lia)
  rw[<-hn]at tc
  have fi:=Oc (us:=st.nums)
  have ii:=QY (us:=st.nums) (i:=u)
  have iu:(st.nums.any λx=>x==u)=false:=by
   rw[yL]
   intro x hx z
   have:x=u:=by simpa using z
   exact h7 (this▸hx)
  rw[iu]at ii
  generalize st.nums.map D.int=ud at*
  simp[CB,DJ,AW.d,tc,fi,ii,e]
 |FZ i n=>
  obtain⟨hi,h1,h2⟩:=hc
  have e:=Ob (S:=S) hi h2
  simp[CB,DJ,AW.d,e]
 |thr i n ws=>
  obtain⟨hi,h1,h2,h3,h4⟩:=hc
  have e:=Ob (S:=S) hi h2
  simp[CB,DJ,AW.d,e]
 |Ii p q x=>simp[CB,DJ,AW.d]
end
section
variable{S:Sto}{st:Stt}{t:Tr}{k:Nat}
theorem X5{ss os:List Rat}:OC (ss.map aD) (os.map aD)=(ss.zip os).map λz=>D.tup [aD z.1,aD z.2]:=by
 unfold OC
 rw[List.zip_map,oS]
 rfl
noncomputable def dY(w m:Int)(ss os:List Rat):List Rat:=uM (λs o=>(s*w+o*m) / (w+m)) ss os
theorem HI{w m:Int}{ss os:List Rat}{j n:Nat}(hs:∀r∈ss,Sz j r)(ho:∀r∈os,Sz j r)(hw:w.natAbs<2^n)(hm:m.natAbs<2^n)(h:0<w+m)(hj:2*j+n+1<=7990)(hl:ss.length<=50):C0 [shD ss,.int w,shD os,.int m] S=Gc (shD (dY w m ss os),S):=by
 have e:=Eh (gs:=[]) (t:=tTp [tNm 2,tNm 3]) (f:=AM Ha [eV 2,eV 0,eV 3,eV 1]) (C:=[Gc (.int w),Gc (.int m)]) (m:=2) (e:=λz:Rat×Rat=>D.tup [aD z.1,aD z.2]) (g:=λz=>aD ((z.1*w+z.2*m) / (w+m))) (S:=S) Ae (xs:=ss.zip os) (acc:=[]) (os:=[none,none]) rfl (nL (show _<=50 by simp;lia) (AQ (by decide))) (by
  intro z hz os' ho'
  obtain⟨q1,q2,rfl⟩:=aa ho'
  have hm2:=sJ (a:=z.1) (b:=z.2) hz
  have l:=dP (S:=S) (hs _ hm2.1) (ho _ hm2.2) hw hm h (by lia)
  refine⟨[Gc (aD z.1),Gc (aD z.2)],rfl,by simp,?_⟩
  simp[l])
 rw[<-X5]at e
 have em:(ss.zip os).map (λz=>aD ((z.1*w+z.2*m) / (w+m)))=(dY w m ss os).map aD:=by
  unfold dY
  rw[<-List.map_uncurry_zip_eq_zipWith,oS]
  rfl
 rw[em]at e
 simp only[pC,oM]at e
 simp[C0,Gx,e,T8]
theorem JI{P p:Nat}(hP:P<=50):Bi [.int P,.int p] S=Gc (shD (Jz P p),S):=by
 have e:=Qx (S:=S) (P:=P) (p:=p) (cond:=0) (C:=[]) (dd:=.int p) (f:=eIf (eOp (o2 wEq) [eV 1,eV 0]) (eC TR) (eC Hj)) hP (by
  intro i
  by_cases hi:i=p
  .subst hi;simp;rfl
  .have:((i:Int)==(p:Int))=false:=by simp;lia
   simp[this,hi];rfl)
 have rn:Hy (P:Int)=true:=Dp (by lia) (by lia)
 simp[Bi,IE,rn,e,T8]
theorem LB{n m:Int}{ss os:List Rat}:dY n m ss os=As n m ss os:=by
 unfold dY As
 congr 1
 funext s o
 push_cast
 rfl
theorem Pf{n m:Int}{ss os:List Rat}:As n m ss os=As m n os ss:=by
 unfold As
 rw[List.zipWith_comm]
 congr 1
 funext o s
 push_cast
 grind
@[simp] theorem Sq{a b:Int}:GA [a,b]=if a<=b then [a,b]else [b,a]:=by
  unfold GA
  simp[List.mergeSort,yE,List.merge]
@[simp] theorem P5{a b:Int}:K2 (.val (.lst [.int a,.int b]))=some (.own ((if a<=b then [a,b]else [b,a]).map D.int)):=by
  have:K2 (.val (.lst [.int a,.int b]))=Gc (.own ((GA [a,b]).map D.int)):=rfl
  rw[this,Sq]
@[simp] theorem gU{a b c d e:D}:atI [a,b,c,d,e] (-4)=some b:=nr rfl
@[simp] theorem fA{a b c d e f:D}:atI [a,b,c,d,e,f] (-4)=some c:=nr rfl
end
section
variable{S:Sto}{st:Stt}{t:Tr}{k:Nat}
theorem Mc{ls:List Ld}{x y:D}(hl:ls.length<=50):Bj [.tup [x,.tup (ls.map Ld.d),y]] S=Gc (Bf ls,S):=by
 have e:=Eh (gs:=[]) (t:=tNm 0) (f:=CY [eOp (o2 wIx) [eV 0,eC (.int 0)],eOp (o2 wIx) [eV 0,eC (.int 1)]]) (C:=[]) (m:=1) (e:=Ld.d) (g:=hD) (S:=S) Ae (xs:=ls) (acc:=[]) (os:=[none]) rfl (nL (show _<=50 by simp;lia) (AQ (by decide))) (by
  intro x hx os ho
  obtain⟨q1,rfl⟩:=R4 ho
  refine⟨[Gc x.d],rfl,by simp,?_⟩
  simp[Ld.d,hD])
 simp only[oM]at e
 simp[Bj,GD,e,Bf]
theorem Lr{ls:List Ld}{ds:List AW}(h:Cu t ls ds):DX [CK t ls ds] S=Gc (.non,S):=by
 have hl0:ls.length<=4:=h.inv.len
 have hd:=h.len
 obtain⟨E',S',ef,i,o1,o2,f1,f2,rfl,rfl⟩:=HF (gs:=[]) (t:=tTp [tNm 3,tNm 4]) (b:=Ag (xIf (aq (AM CB [eV 1,eOp (MQ false true) [eV 2,eV 3],eV 4])) (Bq (eV 3)) Ed)
  (CC 1 (AM Af [eV 1,eV 4])))
  (I:=λrs E S'=>∃(i:Nat) (o1 o2:nB D),rs=(N6 0 (ds.map AW.d)).drop i/\i<=ds.length/\E=[Gc (CK t ls ds),Gc (Bf (runs t (st0 t ls) (ds.take i)).AE),Gc (.tup (ds.map AW.d)),o1,o2]/\S'=S)
  (λ_ _ _ _=>Ae) (ds:=N6 0 (ds.map AW.d)) (E:=[Gc (CK t ls ds),Gc (Bf ls),Gc (.tup (ds.map AW.d)),none,none]) (S:=S)
  ⟨0,none,none,by simp,pY _,by simp[runs,st0],rfl⟩ (by
    rintro dd rs E T ⟨i,o1,o2,i1,i2,rfl,rfl⟩
    have el:(N6 0 (ds.map AW.d)).length=ds.length:=by rw[PB];simp
    have hlt:i<ds.length:=by
     rcases wN i ds.length with w|w
     .exact w
     .rw[uE (by lia)]at i1;cases i1
    rw[qP (by lia)]at i1
    injection i1 with z1 z2
    have hd1:dd=.tup [.int i,ds[i].d]:=by
     have:=Kh (ds:=ds.map AW.d) (k:=0) (i:=i)
     rw[nN (by lia),<-z1,ng,nN hlt]at this
     simpa using this
    subst z2
    subst hd1
    have inv:=h.at i
    have il:(ds.take i).length<=16:=by simp;lia
    have can:=Qo h.good (nN hlt)
    have cd:=UO (S:=T) (ds:=ds.take i) (by lia) TK can
    have e3:=OS (S:=T) inv (by lia) can
    have rt:=UU (t:=t) (st:=st0 t ls) (nN hlt)
    have ct:=NW (ds:=ds.map AW.d) (n:=i) (by simp;lia)
    rw[List.map_take]at cd
    refine⟨_,[Gc (CK t ls ds),Gc (Bf (runs t (st0 t ls) (ds.take (i+1))).AE),Gc (.tup (ds.map AW.d)),Gc (.int i),Gc ds[i].d],T,by simp;rfl,?_,i+1,Gc (.int i),Gc ds[i].d,rfl,hlt,rfl,rfl⟩
    rw[rt]
    simp[ct,cd,e3])
 have fh:=Mc (S:=S') (ls:=ls) (x:=t.d) (y:=.tup (ds.map AW.d)) (by lia)
 simp only[CK]at ef⊢
 simp[DX,HD,fh,ef]
theorem Of{ls:List Ld}{ds:List AW}(h:Cu t ls ds):B7 [CK t ls ds] S=Gc (.non,S):=by
 have e:=Lr (S:=S) h
 simp[B7,F9,e,isN]
end
theorem iT{n:Nat}:∀{ds:List D},(∀d∈ds,d.py.depth<=n)->wZ (D.pys ds)<=n
 | [],_=>by simp[D.pys,wZ]
 |d::ds,h=>by
  have h1:=h d nO
  have h2:=iT λe he=>h e (nC _ he)
  simp only[D.pys,wZ]
  lia
theorem dU{n:Nat}{ds:List D}(h:∀d∈ds,d.py.depth<=n):(D.lst ds).py.depth<=n+1:=by
 have:=iT h
 simp only[D.py,yz]
 lia
theorem bG{n:Nat}{ds:List D}(h:∀d∈ds,d.py.depth<=n):(D.tup ds).py.depth<=n+1:=by
 have:=iT h
 simp only[D.py,yz]
 lia
theorem ZN{i:Int}{n:Nat}:(D.int i).py.depth<=n+1:=by
 simp only[D.py,yz]
 lia
theorem jv{r:Rat}:(aD r).py.depth<=2:=bG (n:=1) (by
 intro d hd
 simp only[nK,oD,qA]at hd
 rcases hd with rfl|rfl<;>exact ZN)
theorem Ys{r:Rat}:(aD r).lay=true:=rfl
theorem LR{d:D}(h:d.lay=true)(g:d.py.depth<=60):EB d d=true:=by
 unfold EB
 rw[h]
 simp only[Bool.true_and,yx]
 lia
theorem Nn{d:D}(h:d.lay=true):deq d d=true:=PySem.SeqAt.eqv_refl _ (Jp h)
section
variable{S:Sto}
theorem Zw{ns:List Int}{k:Nat}:∃c,Cr [.scr ns,.int k] S=Gc (.int c,S):=by
 by_cases h:k<ns.length
 .have h':(k:Int)<ns.length:=by lia
  refine⟨ns[k],?_⟩
  have e:atI (ns.map D.int) (k:Int)=Gc (.int ns[k]):=CT (by rw[ng,nN h];rfl)
  simp[Cr,Gn,h,h',e]
 .have h':¬(k:Int)<ns.length:=by lia
  exact⟨0,by simp[Cr,Gn,h,h']⟩
end
theorem Ok.add{G B C:Nat}{r q:Rat}(h:Ok G B r)(g:Ok G C q):Ok G (B+C) (r+q):=by
 obtain⟨z,e1,h1⟩:=h
 obtain⟨y,e2,h2⟩:=g
 refine⟨z+y,?_,Nat.add_le_add h1 h2⟩
 push_cast
 rw[<-e1,<-e2]
 grind
theorem Qj{F:Fn}(hF:∀{j k:Nat} {p q:Rat} (S:Sto),Sz j p->Sz k q->j+k<=7990->F [aD p,aD q] S=Gc (aD (p+q),S)){gs:Gd}{S:Sto}(hg:gOk gs S){X:nB D}{G B K:Nat}(hG:0<G)(gK:G<2^K)(hK:2*K<=7990):∀{rs:List Rat} {acc:Rat} {m:Nat} {o:nB D},Ok G (m*B) acc->(∀r∈rs,Ok G B r)->(m+rs.length)*B<2^K->∃o',KR gs (tNm 2) (CC 1 (AM F [eV 1,eV 2])) (rs.map aD) [X,Gc (aD acc),o] S=Gc (.nx,[X,Gc (aD (acc+rs.sum)),o'],S)
 | [],acc,m,o,ha,hr,hb=>⟨o,by
     rw[oy,GX hg,List.sum_nil]
     have:acc+0=acc:=by grind
     rw[this]⟩
 |r::rs,acc,m,o,ha,hr,hb=>by
  have h1:=hr r nO
  have b1:(m+1)*B<=(m+(r::rs).length)*B:=pK _ (by simp)
  have mb:(m+1)*B=m*B+B:=by rw[Nat.succ_mul]
  have za:Sz K acc:=ha.sz hG gK (by lia)
  have zr:Sz K r:=h1.sz hG gK (by lia)
  have e:=hF S za zr (by lia)
  have ha2:Ok G ((m+1)*B) (acc+r):=by rw[mb];exact ha.add h1
  obtain⟨o',ih⟩:=Qj hF hg hG gK hK (X:=X) (B:=B) (rs:=rs) (acc:=acc+r) (m:=m+1) (o:=Gc (aD r)) ha2 (λq hq=>hr q (nC _ hq)) (by
   have:m+1+rs.length=m+(r::rs).length:=by simp;lia
   rw[this];exact hb)
  refine⟨o',?_⟩
  have ea:acc+(r::rs).sum=acc+r+rs.sum:=by rw[pB];grind
  rw[nR,D7 hg,ea,<-ih]
  simp[e]
theorem UX:aD 0=.tup [.int 0,.int 1]:=rfl
def aK(ls:List Ld):Prop:=∀l∈ls,l.ow.sum=1
theorem QO{a b:Rat}:∀{ss os:List Rat},ss.length=os.length->(uM (λs o=>s*a+o*b) ss os).sum=ss.sum*a+os.sum*b
 | [],[],_=>by simp;grind
 |s::ss,o::os,h=>by
  rw[wM,pB,pB,pB,QO (by simpa using h)]
  grind
theorem T9{x:Rat}{os ss:List Rat}(h:ss.length=os.length)(h1:ss.sum=1)(h2:os.sum=1):(Iw x os ss).sum=1:=by
 unfold Iw
 rw[QO h,h1,h2]
 grind
theorem RU{n m:Int}{ss os:List Rat}(h:ss.length=os.length)(h1:ss.sum=1)(h2:os.sum=1)(h0:0<n+m):(As n m ss os).sum=1:=by
 have hc:((n+m:Int):Rat)≠0:=by
  intro z
  have:=qY.mp z
  lia
 have e:(λ(s o:Rat)=>(s*n+o*m) / ((n+m:Int):Rat))=λs o=>s*((n:Rat) / ((n+m:Int):Rat))+o*((m:Rat) / ((n+m:Int):Rat)):=by
  funext s o
  grind
 unfold As
 rw[e,QO h,h1,h2]
 push_cast at hc⊢
 grind
theorem Pz{v:Rat}:∀{l:List Rat} {i:Nat},i<l.length->(l.set i v).sum=l.sum-l.getD i 0+v
 |a::l,0,_=>by
  rw[yD,pB,pB]
  simp
  grind
 |a::l,i+1,h=>by
  rw[List.set_cons_succ,pB,pB,Pz (by simpa using h)]
  simp
  grind
theorem Wf{p q:Nat}{x:Rat}{ss:List Rat}(hpq:p≠q)(hp:p<ss.length)(hq:q<ss.length):(HV p q x ss).sum=ss.sum:=by
 unfold HV
 rw[Pz (by simpa using hq),Pz hp]
 have:(ss.set p (ss.getD p 0-ss.getD p 0*x)).getD q 0=ss.getD q 0:=by
  rw[nJ,nI hpq,<-nJ]
 rw[this]
 grind
theorem QK{i:Nat}:∀{n:Nat},(Jz n i).sum=if i<n then 1 else 0
 |0=>by simp[Jz]
 |n+1=>by
  have ih:=QK (i:=i) (n:=n)
  unfold Jz at ih⊢
  rw[List.range_succ,qa,zg,ih]
  by_cases h:n=i
  .subst h;simp;grind
  .have:i<n+1↔i<n:=by lia
   simp[h,this]
   grind
section
variable{t:Tr}{k:Nat}{st:Stt}{d:AW}
theorem GN{ls:List Ld}(h:aK ls){l:Nat}{n:Int}(hl:l<ls.length):aK (less ls l n):=λx hx=>by
 rcases JL hx hl with hx|rfl
 .exact h x hx
 .exact(h (AN ls l) (AR hl):)
theorem JS{ls:List Ld}(h:aK ls){y:Ld}(hy:y.ow.sum=1):aK (ls++[y]):=λx hx=>by
 rcases oC.mp hx with hx|hx
 .exact h x hx
 .rw[oK.mp hx];exact hy
theorem U8(h:Ds t k st)(hc:Can t st d)(ho:aK st.AE):aK (step t st d).AE:=by
 cases d with
 |D6 p kd n=>
  refine JS ho ?_
  rw[QK,nh hc.1]
 |Fz i j=>
  obtain⟨hij,hi,hj,h1,h2,h3⟩:=hc
  refine JS (GN (GN ho hi) (by rw[Ap];exact hj)) ?_
  exact RU (by rw[h.own _ (AR hi),h.own _ (AR hj)]) (ho _ (AR hi)) (ho _ (AR hj)) (by lia)
 |swap i g kd n=>exact JS (GN ho hc.1) (ho (AN st.AE i) (AR hc.1):)
 |Df u i g kd n=>exact JS (GN ho hc.1) (ho (AN st.AE i) (AR hc.1):)
 |FZ i n=>exact GN ho hc.1
 |thr i n ws=>
  intro x hx
  obtain⟨y,hy,rfl⟩:=oR.mp hx
  have hl:=hc.1
  have ly:y.ow.length=t.p:=by
   rcases JL hy hl with hy|rfl
   .exact h.own y hy
   .exact(h.own (AN st.AE i) (AR hl):)
  exact T9 (by rw[ly,h.own _ (AR hl)]) (GN ho hl y hy) (ho _ (AR hl))
 |Ii p q x=>
  intro y hy
  obtain⟨z,hz,rfl⟩:=oR.mp hy
  obtain⟨h1,h2,h3,_⟩:=hc
  have:=h.own z hz
  show(HV p q x z.ow).sum=1
  rw[Wf h1 (by lia) (by lia)]
  exact ho z hz
end
noncomputable def GR:AW->oO
 | .D6 .. =>true
 | .Fz .. =>true
 | .swap .. =>true
 | .Df .. =>true
 |_=>false
noncomputable def tO(t:Tr)(M:Nat):Tr:={t with p:=M}
noncomputable def G6(i:Nat):AW->nB AW
 | .D6 _ k n=>Gc (.D6 i k n)
 | .Fz a b=>Gc (.Fz a b)
 | .swap l g k n=>Gc (.swap l g k n)
 | .Df _ l g k n=>Gc (.swap l g k n)
 | .FZ l n=>Gc (.FZ l n)
 | .thr l n _=>Gc (.FZ l n)
 | .Ii _ _ _=>none
noncomputable def CD(t:Tr)(M:Nat)(s:Stt)(d:AW):Stt:=match G6 s.AE.length d with
 |some d'=>step (tO t M) s d'
 |none=>s
noncomputable def Rt(t:Tr)(M:Nat)(s:Stt)(ds:List AW):Stt:=ds.foldl (CD t M) s
noncomputable def MM(M:Nat)(ls:List Ld):Stt:=⟨(oF ls.length).map λi=>⟨(AN ls i).k,(AN ls i).n,Jz M i⟩,nX M 0,[]⟩
noncomputable def kn(x:Ld):Nat×Int:=(x.k,x.n)
def Hd(s o:Stt):Prop:=s.AE.map kn=o.AE.map kn
section
variable{t:Tr}{M k:Nat}{s o:Stt}{d:AW}
theorem Hd.len(h:Hd s o):s.AE.length=o.AE.length:=by have:=congrArg zV h;simpa using this
theorem Hd.at(h:Hd s o){i:Nat}(hi:i<s.AE.length):(AN s.AE i).k=(AN o.AE i).k/\(AN s.AE i).n=(AN o.AE i).n:=by
 have hj:i<o.AE.length:=by rw[<-h.len];exact hi
 have e:=congrArg (λl=>l[i]?) h
 simp only[ng,Cq hi,Cq hj,zt]at e
 injection e with e
 exact⟨congrArg Prod.fst e,congrArg Prod.snd e⟩
theorem Hd.held(h:Hd s o):Bf s.AE=Bf o.AE:=by
 have e:∀ls:List Ld,ls.map hD=(ls.map kn).map λz=>D.tup [.int z.1,.int z.2]:=λls=>by rw[oS];rfl
 unfold Bf
 rw[e,e,h]
theorem Uk{ls:List Ld}{i:Nat}{n:Int}:(less ls i n).map kn=(ls.map kn).set i ((AN ls i).k,(AN ls i).n-n):=by
 unfold less
 rw[uN]
 rfl
theorem Jj{ls os:List Ld}{i:Nat}{n:Int}(h:ls.map kn=os.map kn)(hk:(AN ls i).k=(AN os i).k)(hn:(AN ls i).n=(AN os i).n):(less ls i n).map kn=(less os i n).map kn:=by
 rw[Uk,Uk,h,hk,hn]
theorem GK{ls:List Ld}{i j:Nat}{n:Int}(h:i≠j):AN (less ls i n) j=AN ls j:=by
 unfold AN less
 rw[nJ,nI h,<-nJ]
theorem NF{ls os:List Ld}{x y:Ld}(h:ls.map kn=os.map kn)(e:kn x=kn y):(ls++[x]).map kn=(os++[y]).map kn:=by
 rw[qa,qa,h];simp[e]
theorem Hd.step(h:Hd s o)(hc:Can t s d):Hd (Mi.step t s d) (CD t M o d):=by
 cases d with
 |D6 p kd n=>exact NF h rfl
 |Fz i j=>
  obtain⟨hij,hi,hj,h1,h2,h3⟩:=hc
  have ai:=h.at hi
  have aj:=h.at hj
  refine NF ?_ (by show((AN s.AE i).k,(AN s.AE i).n+(AN s.AE j).n)=((AN o.AE i).k,(AN o.AE i).n+(AN o.AE j).n);rw[ai.1,ai.2,aj.2])
  rw[ai.2,aj.2]
  exact Jj (Jj h ai.1 ai.2) (by rw[GK hij,GK hij];exact aj.1) (by rw[GK hij,GK hij];exact aj.2)
 |swap i g kd n=>exact NF (Jj h (h.at hc.1).1 (h.at hc.1).2) rfl
 |Df u i g kd n=>exact NF (Jj h (h.at hc.1).1 (h.at hc.1).2) rfl
 |FZ i n=>exact Jj h (h.at hc.1).1 (h.at hc.1).2
 |thr i n ws=>
  have e:∀(f:Ld->List Rat) (ls:List Ld),(ls.map λx=>({x with ow:=f x}:Ld)).map kn=ls.map kn:=λf ls=>by rw[oS];rfl
  show((less s.AE i n).map λx=>_).map kn=(less o.AE i n).map kn
  rw[e]
  exact Jj h (h.at hc.1).1 (h.at hc.1).2
 |Ii p q x=>
  have e:∀(f:Ld->List Rat) (ls:List Ld),(ls.map λx=>({x with ow:=f x}:Ld)).map kn=ls.map kn:=λf ls=>by rw[oS];rfl
  show(s.AE.map λy=>_).map kn=o.AE.map kn
  rw[e]
  exact h
theorem XQ(h:Hd s o)(hc:Can t s d)(hM:GR d=true->o.AE.length<M){d':AW}(e:G6 o.AE.length d=Gc d'):Can (tO t M) o d':=by
 have hl:=h.len
 cases d with
 |D6 p kd n=>cases e;exact⟨hM rfl,hc.2⟩
 |Fz i j=>
  cases e
  obtain⟨hij,hi,hj,h1,h2,h3⟩:=hc
  have ai:=h.at hi
  have aj:=h.at hj
  exact⟨hij,by lia,by lia,by rw[<-ai.2];exact h1,by rw[<-aj.2];exact h2,by rw[<-ai.1,<-aj.1];exact h3⟩
 |swap i g kd n=>
  cases e
  have ai:=h.at hc.1
  obtain⟨h1,h2,h3,h4,h5,h6⟩:=hc
  exact⟨by lia,h2,by rw[<-ai.2];exact h3,h4,by rw[<-ai.1];exact h5,h6⟩
 |Df u i g kd n=>
  cases e
  have ai:=h.at hc.1
  obtain⟨h1,h2,h3,h4,h5,h6,h7,_⟩:=hc
  exact⟨by lia,h2,by rw[<-ai.2];exact h3,h4,by rw[<-ai.1];exact h5,h6,h7⟩
 |FZ i n=>
  cases e
  have ai:=h.at hc.1
  exact⟨by have:=hc.1;lia,hc.2.1,by rw[<-ai.2];exact hc.2.2⟩
 |thr i n ws=>
  cases e
  have ai:=h.at hc.1
  exact⟨by have:=hc.1;lia,hc.2.1,by rw[<-ai.2];exact hc.2.2.1⟩
 |Ii p q x=>cases e
theorem VD(h:Ds t k s)(hk:k<=37)(hd:∀{i n ws},d≠.thr i n ws)(hs:∀{p q x},d≠.Ii p q x)(hc:Can t s d):Ds t (k+1) (step t s d):=by
 obtain⟨G,B,g0,g1,g2,hl,hh⟩:=h.gb
 have L:∀x∈s.AE,LOk t k G B x:=λx hx=>⟨h.kind x hx,(h.pcs x hx).1,(h.pcs x hx).2,h.own x hx,hl x hx⟩
 have g2':B<2^(30+170*(k+1)):=nE g2 (FQ (by lia))
 have hlen:=h.len
 have hnm:=h.nm
 cases d with
 |D6 p kd n=>
  obtain⟨h1,h2,h3,h4⟩:=hc
  refine Ds.of (G:=G) (B:=B) (by simp[step];lia) (HB (λx hx=>(L x hx).up1) ⟨h2,by show 0<=n;lia,aJ h4,by simp[Jz],U3 g1⟩) h.hold (p0 hnm) g0 g1 g2' hh
 |Fz i j=>
  obtain⟨hij,hi,hj,h1,h2,h3⟩:=hc
  have li:=L _ (AR hi)
  have lj:=L _ (AR hj)
  have tl:((AN s.AE i).n+(AN s.AE j).n).toNat<2^(132+k):=by
   have a:=li.n1;have b:=lj.n1
   have e:(2:Int)^(132+k)=2^(131+k)*2:=by rw[show 132+k=(131+k)+1 by lia,wO]
   have:(((AN s.AE i).n+(AN s.AE j).n).toNat:Int)<((2^(132+k):Nat):Int):=by
    rw[ox (by lia)]
    push_cast
    rw[e];lia
   exact_mod_cast this
  have t0:0<((AN s.AE i).n+(AN s.AE j).n).toNat:=by lia
  refine Ds.of (G:=G*((AN s.AE i).n+(AN s.AE j).n).toNat) (B:=B*((AN s.AE i).n+(AN s.AE j).n).toNat) (by simp[step,Ap];lia) (HB ?_ ⟨li.kd,by show 0<=(AN s.AE i).n+(AN s.AE j).n;lia,?_,?_,O8 h1 h2 li.ok lj.ok⟩) h.hold (p0 hnm) (uc g0 t0) (pK _ g1) (Qu g2 tl (by lia)) (λr hr=>(hh r hr).up (nG _))
  .have A:=Dg (P:=LOk t (k+1) (G*((AN s.AE i).n+(AN s.AE j).n).toNat) (B*((AN s.AE i).n+(AN s.AE j).n).toNat)) (n:=(AN s.AE i).n) hi (λx hx=>(L x hx).up (nG _)) ((li.up (nG _)).less (by lia) (xQ _))
   have A2:=Dg (st:={s with AE:=less s.AE i (AN s.AE i).n}) (i:=j) (n:=(AN s.AE j).n) (by simpa[Ap]using hj) A (by
    show LOk _ _ _ _ ⟨(AN (less s.AE i (AN s.AE i).n) j).k,(AN (less s.AE i (AN s.AE i).n) j).n-_,(AN (less s.AE i (AN s.AE i).n) j).ow⟩
    rw[GK hij]
    exact(lj.up (nG _)).less (by lia) (xQ _))
   exact A2
  .show(AN s.AE i).n+(AN s.AE j).n<2^(131+(k+1))
   have a:=li.n1;have b:=lj.n1
   rw[show 131+(k+1)=(131+k)+1 by lia,wO];lia
  .exact Gj li.own lj.own
 |swap i g kd n=>
  obtain⟨hi,h1,h2,h3,h4,h5,h6⟩:=hc
  have li:=L _ (AR hi)
  refine Ds.of (G:=G) (B:=B) (by simp[step,Ap];lia) (HB (Dg hi (λx hx=>(L x hx).up1) (li.up1.less (by lia) h2)) ⟨h3,by show 0<=n;lia,aJ h6,li.own,li.ok⟩) h.hold (p0 hnm) g0 g1 g2' hh
 |Df u i g kd n=>
  obtain⟨hi,h1,h2,h3,h4,h5,h6,h7⟩:=hc
  have li:=L _ (AR hi)
  refine Ds.of (G:=G) (B:=B) (by simp[step,Ap];lia) (HB (Dg hi (λx hx=>(L x hx).up1) (li.up1.less (by lia) h2)) ⟨h3,by show 0<=n;lia,aJ h6,li.own,li.ok⟩) h.hold (by simp[step];lia) g0 g1 g2' hh
 |FZ i n=>
  obtain⟨hi,h1,h2⟩:=hc
  have li:=L _ (AR hi)
  refine Ds.of (G:=G) (B:=B) (by simp[step,Ap];lia) (Dg hi (λx hx=>(L x hx).up1) (li.up1.less (by lia) h2)) h.hold (p0 hnm) g0 g1 g2' hh
 |thr i n ws=>exact absurd rfl hd
 |Ii p q x=>exact absurd rfl hs
end
section
variable{S:Sto}{t:Tr}{ls:List Ld}{ds:List AW}{k M:Nat}{s o:Stt}{d:AW}
theorem Ht:∀{ds:List AW} {st:Stt},(runs t st ds).AE.length=st.AE.length+(ds.filter GR).length
 | [],st=>by simp[runs]
 |d::ds,st=>by
  show(runs t (step t st d) ds).AE.length=_
  rw[Ht]
  cases d<;>simp[step,GR,Ap,qV]<;>lia
abbrev owL(s:Stt):List D:=s.AE.map λx=>shD x.ow
theorem RV{q i j:Nat}(hq:S[q]?=Gc (.lst (owL s)))(h:Ds t k s)(hk:k<=17)(hp:t.p<=50)(hc:Can t s (.Fz i j)):A5 [Bf s.AE,.ref q,(AW.Fz i j).d] S=Gc (shD (As (AN s.AE i).n (AN s.AE j).n (AN s.AE i).ow (AN s.AE j).ow),S):=by
 obtain⟨hij,hi,hj,h1,h2,h3⟩:=hc
 have sz:=h.sz
 have pi:=h.pcs _ (AR hi)
 have pj:=h.pcs _ (AR hj)
 have ti:=h.own _ (AR hi)
 have tj:=h.own _ (AR hj)
 have zi:=sz.1 _ (AR hi)
 have zj:=sz.1 _ (AR hj)
 have cq:=Ah hq
 by_cases hle:i<=j
 .have hle':(i:Int)<=j:=by lia
  have e:=HI (S:=S) (j:=30+170*k) (n:=131+k) zi zj (Fx pi.1 pi.2) (Fx pj.1 pj.2) (by lia) (by lia) (by lia)
  rw[LB]at e
  have a1:=E5 hi
  have a2:=E5 hj
  have b1:=Ml hi
  have b2:=Ml hj
  have mf:Bt [(AW.Fz i j).d] S=Gc (.lst [.int i,.int j],S):=by
   simp[Bt,DR,AW.d,hle,hle']
  simp only[AW.d]at mf⊢
  simp[A5,Ci,mf,cq,a1,a2,b1,b2,e]
 .have hle':¬(i:Int)<=j:=by lia
  have e:=HI (S:=S) (j:=30+170*k) (n:=131+k) zj zi (Fx pj.1 pj.2) (Fx pi.1 pi.2) (by lia) (by lia) (by lia)
  rw[LB,Pf]at e
  have a1:=E5 hi
  have a2:=E5 hj
  have b1:=Ml hi
  have b2:=Ml hj
  have mf:Bt [(AW.Fz i j).d] S=Gc (.lst [.int j,.int i],S):=by
   simp[Bt,DR,AW.d,hle,hle']
  simp only[AW.d]at mf⊢
  simp[A5,Ci,mf,cq,a1,a2,b1,b2,e]
theorem Rw{q i kd:Nat}{g n:Int}(hq:S[q]?=Gc (.lst (owL s)))(hi:i<s.AE.length){H:D}:A5 [H,.ref q,(AW.swap i g kd n).d] S=Gc (shD (AN s.AE i).ow,S):=by
 have b1:=Ml hi
 have cq:=Ah hq
 simp[A5,Ci,Bt,DR,AW.d,cq,b1]
theorem Pe{q i kd:Nat}{u g n:Int}(hq:S[q]?=Gc (.lst (owL s)))(hi:i<s.AE.length){H:D}:A5 [H,.ref q,(AW.Df u i g kd n).d] S=Gc (shD (AN s.AE i).ow,S):=by
 have b1:=Ml hi
 have cq:=Ah hq
 simp[A5,Ci,Bt,DR,AW.d,cq,b1]
theorem Iv{ls:List Ld}{i:Nat}{n:Int}:(less ls i n).map (λx=>shD x.ow)=ls.map λx=>shD x.ow:=by
 unfold less
 rw[uN]
 by_cases hi:i<ls.length
 .refine vX λj=>?_
  by_cases e:i=j
  .subst e
   rw[nU (by simpa using hi),ng,Cq hi];rfl
  .rw[nI e]
 .rw[vd (by simp;lia)]
end
section
variable{S:Sto}{t:Tr}{ls:List Ld}{ds:List AW}{k M:Nat}{s o:Stt}{d:AW}
theorem Ds.up(h:Ds t k s):Ds t (k+1) s:=by
 obtain⟨G,B,g0,g1,g2,hl,hh⟩:=h.gb
 exact Ds.of (G:=G) (B:=B) (by have:=h.len;lia) (λx hx=>LOk.up1 ⟨h.kind x hx,(h.pcs x hx).1,(h.pcs x hx).2,h.own x hx,hl x hx⟩) h.hold (by have:=h.nm;lia) g0 g1 (nE g2 (FQ (by lia))) hh
structure OJ(t:Tr)(M k:Nat)(s o:Stt):Prop where
 hd:Hd s o
 inv:Ds (tO t M) k o
 ones:aK o.AE
theorem OJ.step(h:OJ t M k s o)(hk:k<=37)(hc:Can t s d)(hM:GR d=true->o.AE.length<M):OJ t M (k+1) (Mi.step t s d) (CD t M o d):=by
 refine⟨h.hd.step hc,?_,?_⟩
 .unfold CD
  cases e:G6 o.AE.length d with
  |none=>exact h.inv.up
  |some d'=>
   have c:=XQ h.hd hc hM e
   refine VD h.inv hk ?_ ?_ c
   .intro i n ws z;subst z;cases d<;>cases e
   .intro i n ws z;subst z;cases d<;>cases e
 .unfold CD
  cases e:G6 o.AE.length d with
  |none=>exact h.ones
  |some d'=>exact U8 h.inv (XQ h.hd hc hM e) h.ones
def orB:Ex:=(Ag (xIf (eOp (o2 wEq) [eOp (o2 wIx) [eV 4,eC (.int 0)],eC (.str "bring")]) (Bp (G7 Hx (eV 3) [AM Bi [eV 1,eOp (o1 Gu) [eV 3]]])) (xIf (eOp (o2 (wIn false)) [eOp (o2 wIx) [eV 4,eC (.int 0)],eC BP]) (Bp (G7 Hx (eV 3) [AM A5 [eV 2,eV 3,eV 4]])) Ed))
    (CC 2 (AM Af [eV 2,eV 4])))
theorem dM{q:Nat}{bk:nB D}(hs:Ds t k s)(hk:k<=17)(h:OJ t M k s o)(hc:Can t s d)(hM:GR d=true->o.AE.length<M)(hM2:M<=50)(hq:S[q]?=Gc (.lst (owL o))):orB [bk,Gc (.int M),Gc (Bf o.AE),Gc (.ref q),Gc d.d] S=Gc (.nx,[bk,Gc (.int M),Gc (Bf (CD t M o d).AE),Gc (.ref q),Gc d.d],S.set q (.lst (owL (CD t M o d)))):=by
 have hz:(owL o).length<sizeLine:=nE (show _<50 by have:=h.inv.len;simp;lia) (AQ (by decide))
 have cq:=AS hq
 have dq:=Ah hq
 have bh:∀T,Af [Bf o.AE,d.d] T=Gc (Bf (CD t M o d).AE,T):=λT=>by
  rw[<-h.hd.held,<-(h.hd.step (M:=M) hc).held]
  exact OS hs hk hc
 have hl:((owL o).length:Int)=(o.AE.length:Int):=by simp
 cases d with
 |D6 p kd n=>
  have e:=JI (S:=S) (P:=M) (p:=o.AE.length) hM2
  have eo:owL (CD t M o (.D6 p kd n))=owL o++[shD (Jz M o.AE.length)]:=by simp[owL,CD,G6,step,tO]
  rw[eo]
  simp only[AW.d]at bh⊢
  rw[<-hl]at e
  generalize owL o=W at*
  simp[orB,cq,dq,e,hz,bh]
 |Fz i j=>
  have c:=XQ h.hd hc hM rfl
  have e:=RV hq h.inv hk hM2 c
  have eo:owL (CD t M o (.Fz i j))=owL o++[shD (As (AN o.AE i).n (AN o.AE j).n (AN o.AE i).ow (AN o.AE j).ow)]:=by simp[owL,CD,G6,step,Iv]
  rw[eo]
  simp only[AW.d]at bh e⊢
  generalize owL o=W at*
  simp[orB,cq,dq,e,hz,bh]
 |swap i g kd n=>
  have hi:i<o.AE.length:=by rw[<-h.hd.len];exact hc.1
  have e:=Rw (g:=g) (kd:=kd) (n:=n) hq hi (H:=Bf o.AE)
  have eo:owL (CD t M o (.swap i g kd n))=owL o++[shD (AN o.AE i).ow]:=by simp[owL,CD,G6,step,Iv]
  rw[eo]
  simp only[AW.d]at bh e⊢
  generalize owL o=W at*
  simp[orB,cq,dq,e,hz,bh]
 |Df u i g kd n=>
  have hi:i<o.AE.length:=by rw[<-h.hd.len];exact hc.1
  have e:=Pe (u:=u) (g:=g) (kd:=kd) (n:=n) hq hi (H:=Bf o.AE)
  have eo:owL (CD t M o (.Df u i g kd n))=owL o++[shD (AN o.AE i).ow]:=by simp[owL,CD,G6,step,Iv]
  rw[eo]
  simp only[AW.d]at bh e⊢
  generalize owL o=W at*
  simp[orB,cq,dq,e,hz,bh]
 |FZ i n=>
  have eo:owL (CD t M o (.FZ i n))=owL o:=by simp[owL,CD,G6,step,Iv]
  rw[eo,set_same hq]
  simp only[AW.d]at bh⊢
  simp[orB,bh]
 |thr i n ws=>
  have eo:owL (CD t M o (.thr i n ws))=owL o:=by simp[owL,CD,G6,step,Iv]
  rw[eo,set_same hq]
  simp only[AW.d]at bh⊢
  simp[orB,bh]
 |Ii p q' x=>
  have eo:owL (CD t M o (.Ii p q' x))=owL o:=by simp[owL,CD,G6]
  rw[eo,set_same hq]
  simp only[AW.d]at bh⊢
  simp[orB,bh]
end
section
variable{S:Sto}{t:Tr}{ls:List Ld}{ds:List AW}{k M:Nat}{s o:Stt}{d:AW}
theorem P9(hd:Hd s o)(hM:(runs t s (d::ds)).AE.length<=M):GR d=true->o.AE.length<M:=λe=>by
 rw[Ht,qV,nh e,hd.len]at hM
 simp at hM
 lia
theorem OJ.runs(ht:KY t):∀{ds:List AW} {s o:Stt} {k:Nat},OJ t M k s o->KU t s ds->k+ds.length<=37->(Mi.runs t s ds).AE.length<=M->OJ t M (k+ds.length) (Mi.runs t s ds) (Rt t M o ds)
 | [],s,o,k,h,_,_,_=>h
 |d::ds,s,o,k,h,hg,hk,hM=>by
  have hl:(d::ds).length=ds.length+1:=rfl
  have:=OJ.runs ht (ds:=ds) (h.step (by lia) hg.1 (P9 h.hd hM)) hg.2 (by lia) hM
  rw[show k+(d::ds).length=k+1+ds.length by lia]
  exact this
theorem UT(ht:KY t)(hM2:M<=50){q:Nat}{bk:nB D}:∀{ds:List AW} {s o:Stt} {k:Nat} {S:Sto} {o4:nB D},Ds t k s->OJ t M k s o->KU t s ds->k+ds.length<=16->(runs t s ds).AE.length<=M->S[q]?=Gc (.lst (owL o))->∃o4' S',KR [] (tNm 4) orB (ds.map AW.d) [bk,Gc (.int M),Gc (Bf o.AE),Gc (.ref q),o4] S=Gc (.nx,[bk,Gc (.int M),Gc (Bf (Rt t M o ds).AE),Gc (.ref q),o4'],S')/\S'[q]?=Gc (.lst (owL (Rt t M o ds)))/\Bu [q] S S'
 | [],s,o,k,S,o4,_,h,_,_,_,hq=>⟨o4,S,by rw[oy,GX Ae];rfl,hq,.refl⟩
 |d::ds,s,o,k,S,o4,hs,h,hg,hk,hM,hq=>by
  have hl:(d::ds).length=ds.length+1:=rfl
  have hm:=P9 h.hd hM
  have e:=dM (bk:=bk) hs (by lia) h hg.1 hm hM2 hq
  obtain⟨o4',S',e2,q2,s2⟩:=UT ht hM2 (ds:=ds) (bk:=bk) (S:=S.set q (.lst (owL (CD t M o d)))) (o4:=Gc d.d) (N4 ht hs (by lia) hg.1) (h.step (by lia) hg.1 hm) hg.2 (by lia) hM (nU (Aa hq))
  refine⟨o4',S',?_,q2,(Bu.set (by simp)).trans s2⟩
  have tn:tNm 4 d.d [bk,Gc (.int M),Gc (Bf o.AE),Gc (.ref q),o4] S=Gc [bk,Gc (.int M),Gc (Bf o.AE),Gc (.ref q),Gc d.d]:=rfl
  rw[nR,D7 Ae,tn,A4,e,A4,Jl,e2]
  rfl
theorem XB(f:Nat×Int->Nat×Int):(oF ls.length).map (λi=>((AN ls i).k,(AN ls i).n))=ls.map kn:=by
 apply rX
 .simp
 .intro i h1 h2
  simp at h1
  have e:=Cq h1
  rw[nN h1]at e
  injection e with e
  simp[kn,<-e]
theorem Kc(h:Cu t ls ds)(hM:ls.length<=M):OJ t M 0 (st0 t ls) (MM M ls):=by
 have hl:=h.inv.len
 refine⟨?_,?_,?_⟩
 .show ls.map kn=((oF ls.length).map _).map kn
  rw[oS]
  exact(XB id).symm
 .refine Ds.of (G:=1) (B:=1) (by have hl':ls.length<=4:=hl;simp[MM];lia) (λx hx=>?_) (by simp[MM,tO]) (by simp[MM]) (by decide) (by decide) (by decide) (λr hr=>?_)
  .obtain⟨i,hi,rfl⟩:=oR.mp hx
   have hi':i<ls.length:=by simpa using hi
   have m:=AR hi'
   exact⟨h.inv.kind (AN ls i) m,(h.inv.pcs (AN ls i) m).1,(h.inv.pcs (AN ls i) m).2,by simp[Jz,tO],U3 (nG _)⟩
  .have:r=0:=List.eq_of_mem_replicate hr
   rw[this];exact Ok.zero
 .intro x hx
  obtain⟨i,hi,rfl⟩:=oR.mp hx
  have hi':i<ls.length:=by simpa using hi
  show(Jz M i).sum=1
  rw[QK,nh (by lia)]
noncomputable def manyN(ls:List Ld)(ds:List AW):Nat:=ls.length+(ds.filter GR).length
theorem mkC(hl:ds.length<=50):CI [] (tNm 0) (eOp (o2 (wIn false)) [eOp (o2 wIx) [eV 0,eC (.int 0)],eC BP]) (eV 0) (ds.map AW.d) [] [none] S=Gc ((ds.filter GR).map AW.d,S):=
 Dd (gs:=[]) (t:=tNm 0) (f:=eV 0) (C:=[]) (m:=1) (e:=AW.d) (g:=AW.d) (b:=GR) (S:=S) Ae (xs:=ds) (acc:=[]) (os:=[none]) rfl (nL (show _<=50 by simp;lia) (AQ (by decide))) (by
  intro d _ os ho
  obtain⟨o1,rfl⟩:=R4 ho
  refine⟨[Gc d.d],rfl,by simp,?_,by simp⟩
  cases d<;>simp[AW.d,GR])
theorem Q6(h:Cu t ls ds):CQ [CK t ls ds,.int ds.length] S=Gc (.int (manyN ls ds),S):=by
 have hd:=h.len
 have ct:MB (ds.map AW.d) none (Gc (ds.length:Int))=ds.map AW.d:=by rw[NW (by simp),sC (by simp)]
 have mc:=mkC (S:=S) (ds:=ds) (by lia)
 have e:(manyN ls ds:Int)=(ls.length:Int)+((ds.filter GR).length:Int):=by unfold manyN;lia
 rw[e]
 simp[CQ,IH,CK,ct,mc]
noncomputable def IB(t:Tr)(ls:List Ld)(ds:List AW):Stt:=Rt t (manyN ls ds) (MM (manyN ls ds) ls) ds
theorem IW(h:Cu t ls ds):manyN ls ds<=20:=by
 have:=h.len
 have:=h.inv.len
 have:=qx GR ds
 have:(st0 t ls).AE.length=ls.length:=rfl
 unfold manyN;lia
theorem Qp(h:Cu t ls ds):OJ t (manyN ls ds) ds.length (runs t (st0 t ls) ds) (IB t ls ds):=by
 have hd:=h.len
 have:=OJ.runs (M:=manyN ls ds) h.tr (Kc h (by unfold manyN;lia)) h.good (by lia) (by rw[Ht];exact nG _)
 rwa [uF]at this
theorem Lw(h:Cu t ls ds):∃q S',Dq [CK t ls ds] S=Gc (.ref q,S')/\S'[q]?=Gc (.lst (owL (IB t ls ds)))/\Bu [] S S'/\S.length<=q:=by
 have hd:=h.len
 have hl:ls.length<=4:=h.inv.len
 have mm:=IW h
 have m:=Q6 (S:=S) h
 have fh:=Mc (S:=S) (ls:=ls) (x:=t.d) (y:=.tup (ds.map AW.d)) (by lia)
 have c1:=Eh (gs:=[]) (t:=tNm 1) (f:=AM Bi [eV 0,eV 1]) (C:=[Gc (.int (manyN ls ds))]) (m:=1) (e:=λi:Nat=>D.int (0+(i:Int))) (g:=λi=>shD (Jz (manyN ls ds) i)) (S:=S) Ae (xs:=oF ls.length) (acc:=[]) (os:=[none]) rfl (nL (show _<=50 by simp;lia) (AQ (by decide))) (by
  intro i _ os ho
  obtain⟨o1,rfl⟩:=R4 ho
  have e:=JI (S:=S) (P:=manyN ls ds) (p:=i) (by lia)
  exact⟨[Gc (.int i)],by simp,by simp,by simp[e]⟩)
 have ow0:(oF ls.length).map (λi=>shD (Jz (manyN ls ds) i))=owL (MM (manyN ls ds) ls):=by
  unfold owL MM;rw[oS];rfl
 have rn:Hy (ls.length:Int)=true:=Dp (by lia) (by lia)
 have h0:Bf ls=Bf (MM (manyN ls ds) ls).AE:=(Kc h (M:=manyN ls ds) (by unfold manyN;lia)).hd.held
 obtain⟨o4,S',e2,q2,s2⟩:=UT (M:=manyN ls ds) h.tr (by lia) (q:=S.length) (bk:=Gc (CK t ls ds)) (o4:=none) h.inv (Kc h (by unfold manyN;lia)) h.good (by lia) (by rw[Ht];exact nG _) (S:=S++[Cl.lst (owL (MM (manyN ls ds) ls))]) nY
 refine⟨S.length,S',?_,q2,Bu.new (A:=[]) (B:=[S.length]) .app s2 (by simp),nG _⟩
 have eb:Hi=(Ag (CC 1 (AM CQ [eV 0,eOp (o1 Gu) [eOp (o2 wIx) [eV 0,eC (.int 2)]]]))
  (Ag (CC 2 (AM Bj [eV 0]))
  (Ag (CC 3 (JD [1] 1 (Ly [eOp (o1 Gu) [eV 2]]) (tNm 1) DM (AM Bi [eV 0,eV 1])))
  (Ag (Kn (IP (eOp (o2 wIx) [eV 0,eC (.int 2)])) (tNm 4) orB)
  (Bq (eV 3)))))):=rfl
 unfold Dq
 rw[eb]
 simp only[oM,pC]at c1
 rw[ow0]at c1
 rw[<-h0]at e2
 have lh:Gu (.val (Bf ls))=Gc (.val (.int ls.length)):=by
  show Gc (Wv.val (.int ((ls.map hD).length:Int)))=_
  simp
 have rg:(oF ls.length).map (λi:Nat=>D.int (0+(i:Int)))=KS 0 ls.length:=by simp[KS]
 rw[rg]at c1
 simp only[CK]at m fh e2⊢
 generalize owL (MM (manyN ls ds) ls)=W at*
 simp[m,fh,lh,rn,c1,e2]
end
noncomputable def OR:AW->List Nat
 | .Fz a b=>if a<=b then [a,b]else [b,a]
 | .swap l _ _ _=>[l]
 | .Df _ l _ _ _=>[l]
 |_=>[]
noncomputable def nD(is:List Nat):D:=.lst (BO is)
noncomputable def CU(n:Nat)(ds:List AW):List (List Nat):=nX n []++(ds.filter GR).map OR
section
variable{S:Sto}{t:Tr}{ls:List Ld}{ds:List AW}{k M:Nat}{s o:Stt}{d:AW}
theorem VF{a b:Nat}:(if(a:Int)<=(b:Int)then [(a:Int),(b:Int)]else [(b:Int),(a:Int)]).map D.int=BO (if a<=b then [a,b]else [b,a]):=by
 by_cases h:a<=b
 .have:(a:Int)<=(b:Int):=by lia
  rw[nh h,nh this];rfl
 .have:¬(a:Int)<=(b:Int):=by lia
  rw[oE h,oE this];rfl
theorem TN:(CU ls.length ds).map nD=(ls.map λ_=>D.lst [])++(ds.filter GR).map λd=>nD (OR d):=by
 unfold CU
 rw[qa,oS]
 congr 1
 rw[yF]
 induction ls with
 |nil=>rfl
 |cons x ls ih=>rw[oT,pS,nR,ih];rfl
end
theorem UJ{α:Type}{gs:Gd}{t:Tf}{b:Ex}{C:En}{m q:Nat}{S0:Sto}{e:α->D}{h:α->List D}(hg:∀T,Bu [q] S0 T->gOk gs T):∀{xs:List α} {acc:List D} {os:En} {S:Sto},os.length=m->S[q]?=Gc (.lst acc)->Bu [q] S0 S->acc.length+xs.length<=1000->(∀x∈xs,(h x).length<=1)->(∀x∈xs,∀os S acc,os.length=m->S[q]?=Gc (.lst acc)->acc.length<sizeLine->Bu [q] S0 S->∃us us' S',t (e x) (C++os) S=Gc (C++us)/\b (C++us) S=Gc (.nx,C++us',S'.set q (.lst (acc++h x)))/\us'.length=m/\Bu [] S S')->∃os' S',os'.length=m/\KR gs t b (xs.map e) (C++os) S=Gc (.nx,C++os',S')/\S'[q]?=Gc (.lst (acc++xs.flatMap h))/\Bu [q] S S'
 | [],acc,os,S,ho,hq,hs,hz,h1,H=>⟨os,S,ho,by rw[oy,GX (hg S hs)],by simpa using hq,.refl⟩
 |x::xs,acc,os,S,ho,hq,hs,hz,h1,H=>by
  obtain⟨us,us',S1,e1,e2,hu,sm⟩:=H x nO os S acc ho hq (nE (show acc.length<1001 by simp at hz;lia) (by decide)) hs
  have q1:=sm.get hq (by simp)
  have s1:Bu [q] S (S1.set q (.lst (acc++h x))):=(sm.mono λ_ z=>(nomatch z)).trans (.set (by simp))
  have hx:=h1 x nO
  obtain⟨os',S2,ho',e3,q2,s2⟩:=UJ hg (t:=t) (b:=b) (C:=C) (e:=e) (h:=h) (xs:=xs) (acc:=acc++h x) (os:=us') (S:=S1.set q (.lst (acc++h x))) hu (nU (Aa q1)) (hs.trans s1) (by simp at hz ⊢; lia) (λx' hx=>h1 x' (nC _ hx)) λx' hx=>H x' (nC _ hx)
  refine⟨os',S2,ho',?_,by simpa using q2,s1.trans s2⟩
  rw[nR,D7 (hg S hs),e1,A4,e2,A4,Jl,e3]
section
variable{S:Sto}{t:Tr}{ls:List Ld}{ds:List AW}
noncomputable def VM(d:AW):List D:=if GR d=true then [nD (OR d)]else []
theorem U4:(ls.map λ_=>D.lst [])++ds.flatMap VM=(CU ls.length ds).map nD:=by
 rw[TN]
 congr 1
 induction ds with
 |nil=>rfl
 |cons d ds ih=>
  rw[List.flatMap_cons,qV,ih]
  unfold VM
  cases GR d<;>simp
def Yf:Ex:=(xIf (eOp (o2 wEq) [eOp (o2 wIx) [eV 2,eC (.int 0)],eC (.str "bring")]) (Bp (G7 Hx (eV 1) [G8 []])) (xIf (eOp (o2 wEq) [eOp (o2 wIx) [eV 2,eC (.int 0)],eC (.str "pool")]) (Bp (G7 Hx (eV 1) [eOp (o1 JX) [eOp (MQ true true) [eV 2,eC (.int 1),eC (.int 3)]]])) (xIf (eOp (o2 (wIn false)) [eOp (o2 wIx) [eV 2,eC (.int 0)],CY [eC (.str "swap"),eC (.str "trade")]]) (Bp (G7 Hx (eV 1) [G8 [eOp (o2 wIx) [eV 2,eOp (o1 R3) [eC (.int 4)]]]])) Ed)))
@[simp] theorem gG{a b c:D}:MB [a,b,c] (some 1) (some 3)=[b,c]:=nr rfl
@[simp] theorem Pp{a b:Int}:JX (.val (.tup [.int a,.int b]))=some (.own ((if a<=b then [a,b]else [b,a]).map D.int)):=by
  rw[<-P5];rfl
theorem ZK{d:AW}{q:Nat}{acc:List D}{a0:nB D}(hq:S[q]?=Gc (.lst acc))(hz:acc.length<sizeLine):Yf [a0,Gc (.ref q),Gc d.d] S=Gc (.nx,[a0,Gc (.ref q),Gc d.d],S.set q (.lst (acc++VM d))):=by
 have sz:(1:Nat)<=sizeLine:=AQ (by decide)
 have sz2:(2:Nat)<=sizeLine:=AQ (by decide)
 have cq:=AS hq
 have sm:=set_same hq
 cases d with
 |D6 p k n=>simp[Yf,AW.d,VM,GR,OR,nD,BO,cq,hz]
 |Fz a b=>
  have e:=VF (a:=a) (b:=b)
  have er:VM (.Fz a b)=[.lst ((if(a:Int)<=(b:Int)then [(a:Int),(b:Int)]else [(b:Int),(a:Int)]).map D.int)]:=by
   rw[e];rfl
  rw[er]
  simp[Yf,AW.d,cq,hz,Pp]
 |swap l g k n=>simp[Yf,AW.d,VM,GR,OR,nD,BO,cq,hz,sz]
 |Df u l g k n=>simp[Yf,AW.d,VM,GR,OR,nD,BO,cq,hz,sz]
 |_=>simp[Yf,AW.d,VM,GR,sm]
theorem Rm(h:Cu t ls ds):∃q S',Dj [CK t ls ds] S=Gc (.ref q,S')/\S'[q]?=Gc (.lst ((CU ls.length ds).map nD))/\Bu [] S S'/\S.length<=q:=by
 have hd:=h.len
 have hl:ls.length<=4:=h.inv.len
 have c1:=Eh (gs:=[]) (t:=tNm 0) (f:=G8 []) (C:=[]) (m:=1) (e:=Ld.d) (g:=λ_=>D.lst []) (S:=S) Ae (xs:=ls) (acc:=[]) (os:=[none]) rfl (nL (show _<=50 by simp;lia) (AQ (by decide))) (by
  intro x hx os ho
  obtain⟨x1,rfl⟩:∃x1,os=[x1]:=by
   match os,ho with
   | [a],_=>exact⟨a,rfl⟩
  exact⟨[Gc x.d],rfl,by simp,by simp⟩)
 have hq:(S++[Cl.lst (ls.map λ_=>D.lst [])])[S.length]?=Gc (.lst (ls.map λ_=>D.lst [])):=nY
 obtain⟨os',S2,ho',e2,q2,s2⟩:=UJ (gs:=[]) (S0:=S++[Cl.lst (ls.map λ_=>D.lst [])]) (t:=tNm 2) (b:=Yf) (C:=[Gc (CK t ls ds),Gc (.ref S.length)]) (m:=1) (q:=S.length) (e:=AW.d) (h:=VM) (λ_ _=>Ae) (xs:=ds) (acc:=ls.map λ_=>D.lst []) (os:=[none]) (S:=S++[Cl.lst (ls.map λ_=>D.lst [])]) rfl hq .refl (by simp;lia) (λd _=>by unfold VM;split<;>simp) (by
  intro d _ os T acc ho hq0 hz hT
  obtain⟨x1,rfl⟩:∃x1,os=[x1]:=by
   match os,ho with
   | [a],_=>exact⟨a,rfl⟩
  exact⟨[Gc d.d],[Gc d.d],T,by simp,ZK (d:=d) hq0 hz,rfl,.refl⟩)
 rw[U4]at q2
 refine⟨S.length,S2,?_,q2,Bu.new (A:=[]) (B:=[S.length]) .app s2 (by simp),nG _⟩
 have eb:Iy=(Ag (CC 1 (JD [] 1 (IP (eOp (o2 wIx) [eV 0,eC (.int 1)])) (tNm 0) DM (G8 [])))
  (Ag (Kn (IP (eOp (o2 wIx) [eV 0,eC (.int 2)])) (tNm 2) Yf)
  (Bq (eV 1)))):=rfl
 unfold Dj
 rw[eb]
 simp only[oM,pC]at c1 e2
 simp only[CK]at e2⊢
 generalize (ls.map λ_=>D.lst [])=A at*
 simp[c1,e2]
end
section
variable{S:Sto}{t:Tr}{ls:List Ld}{ds:List AW}
noncomputable def Gq(n m:Nat):List D:=(oF m).map λi=>.ref (n+i)
theorem Hs{n m:Nat}:Gq n (m+1)=.ref n::Gq (n+1) m:=by
 unfold Gq
 rw[uP,nR,oS]
 congr 1
 exact rS λi _=>by simp;lia
theorem Ug{n a b:Nat}:Gq n a++Gq (n+a) b=Gq n (a+b):=by
 induction a generalizing n with
 |zero=>simp[Gq]
 |succ a ih=>
  rw[Hs,pC,show n+(a+1)=n+1+a by lia,ih,show a+1+b=a+b+1 by lia,Hs]
theorem Vx{d:AW}:A7 [d.d] S=Gc (.ref S.length,S++[.lst (BO (OR d))]):=by
 have sz:(1:Nat)<=sizeLine:=AQ (by decide)
 have sz2:(2:Nat)<=sizeLine:=AQ (by decide)
 cases d with
 |Fz a b=>
  have e:=VF (a:=a) (b:=b)
  show _=Gc (D.ref S.length,S++[.lst (BO (if a<=b then [a,b]else [b,a]))])
  rw[<-e]
  simp[A7,CO,AW.d,sz2]
 |swap l g k n=>simp[A7,CO,AW.d,OR,BO,sz]
 |Df u l g k n=>simp[A7,CO,AW.d,OR,BO,sz]
 |_=>simp[A7,CO,AW.d,OR,BO]
theorem dS:∀{ls:List Ld} {acc:List D} {o:nB D} {S:Sto},acc.length+ls.length<=100->CI [] (tNm 0) DM (Ie []) (ls.map Ld.d) acc [o] S=Gc (acc++Gq S.length ls.length,S++nX ls.length (.lst []))
 | [],acc,o,S,h=>by rw[oy,EY Ae];simp[Gq]
 |x::ls,acc,o,S,h=>by
  simp only[oT]at h
  rw[nR,Hh Ae (nE (show _<101 by lia) (AQ (by decide))) (E1:=[Gc x.d]) (S1:=S) rfl rfl]
  have e:Ie [] [Gc x.d] S=Gc (.ref S.length,S++[.lst []]):=by simp
  rw[e,A4,dS (by simp;lia),oT,Hs,pS]
  simp
theorem Zy:∀{ds:List AW} {acc:List D} {o:nB D} {S:Sto},acc.length+ds.length<=100->CI [] (tNm 0) (eOp (o2 (wIn false)) [eIx (eV 0) (eI 0),eC BP]) (AM A7 [eV 0]) (ds.map AW.d) acc [o] S=Gc (acc++Gq S.length (ds.filter GR).length,S++(ds.filter GR).map λd=>.lst (BO (OR d)))
 | [],acc,o,S,h=>by rw[oy,EY Ae];simp[Gq]
 |d::ds,acc,o,S,h=>by
  simp only[oT]at h
  have hz:acc.length<sizeLine:=nE (show _<101 by lia) (AQ (by decide))
  have e2:eOp (o2 (wIn false)) [eIx (eV 0) (eI 0),eC BP] [Gc d.d] S=Gc (.bl (GR d),S):=by cases d<;>simp[AW.d,GR]
  cases hm:GR d with
  |true=>
   rw[hm]at e2
   have e3:=Vx (S:=S) (d:=d)
   have e:AM A7 [eV 0] [Gc d.d] S=Gc (.ref S.length,S++[.lst (BO (OR d))]):=by simp[e3]
   rw[nR,Hh Ae hz (E1:=[Gc d.d]) (S1:=S) rfl e2,e,A4,Zy (by simp;lia),qV,nh hm,oT,Hs,nR]
   simp
  |false=>
   rw[hm]at e2
   rw[nR,Hg Ae hz (E1:=[Gc d.d]) (S1:=S) rfl e2,Zy (by lia),qV,oE (by simp[hm])]
noncomputable def UK(rs:List (List Nat)):Sto:=rs.map λr=>.lst (BO r)
theorem Ln:(CU ls.length ds).length=manyN ls ds:=by simp[CU,manyN]
theorem Oo(h:Cu t ls ds):Dh [CK t ls ds] S=Gc (.lst (Gq S.length (manyN ls ds)),S++UK (CU ls.length ds)):=by
 have hd:=h.len
 have hl:ls.length<=4:=h.inv.len
 have mm:=IW h
 have c1:=dS (ls:=ls) (acc:=[]) (o:=none) (S:=S) (by simp;lia)
 have c2:=Zy (ds:=ds) (acc:=[]) (o:=none) (S:=S++nX ls.length (.lst [])) (by simp;lia)
 rw[pF,we]at c2
 have ap:=Ug (n:=S.length) (a:=ls.length) (b:=(ds.filter GR).length)
 have er:UK (CU ls.length ds)=nX ls.length (.lst [])++(ds.filter GR).map λd=>.lst (BO (OR d)):=by
  unfold UK CU
  rw[qa,yF,oS]
  rfl
 have sz:(Gq S.length ls.length).length+(Gq (S.length+ls.length) (ds.filter GR).length).length<=sizeLine:=nL (show _<=50 by
  unfold manyN at mm
  simp[Gq];lia) (AQ (by decide))
 simp only[oM]at c1 c2
 rw[er]
 unfold manyN
 rw[<-ap]
 generalize Gq S.length ls.length=A at*
 generalize Gq (S.length+ls.length) (ds.filter GR).length=B at*
 simp[Dh,HH,CK,c1,c2,sz]
theorem Qm{i:Nat}(h:Cu t ls ds)(hi:i<manyN ls ds):Bx [CK t ls ds,.int i] S=Gc (.non,S):=by
 have k1:St.Kd.int.isA "int"=true:=by decide
 have k2:St.Kd.int.isA "bool"=false:=by decide
 have m:=Q6 (S:=S) h
 have h1:(i:Int)<=(manyN ls ds:Int)-1:=by lia
 generalize (manyN ls ds:Int)=L at*
 simp only[CK]at m⊢
 simp[Bx,Fc,m,k1,k2,Ge,JH,IY,Ll,Hk,Jx,kdW,h1]
theorem RN{i:Nat}(h:Cu t ls ds)(hi:i<manyN ls ds):∃q S',FE [CK t ls ds,.int i] S=Gc (.ref q,S')/\S'[q]?=Gc (.lst (BO ((CU ls.length ds).getD i [])))/\Bu [] S S'/\S.length<=q:=by
 have e1:=Of (S:=S) h
 have e2:=Qm (S:=S) h hi
 have e3:=Oo (S:=S) h
 have e4:atI (Gq S.length (manyN ls ds)) (i:Int)=Gc (.ref (S.length+i)):=CT (by unfold Gq;simp[hi])
 refine⟨S.length+i,S++UK (CU ls.length ds),?_,?_,.app,vp _ _⟩
 .simp only[CK]at e1 e2 e3⊢
  simp[FE,LZ,e1,e2,e3,e4]
 .have hr:i<(CU ls.length ds).length:=by rw[Ln];exact hi
  rw[oP (vp _ _),Nat.add_sub_cancel_left]
  unfold UK
  simp[hr]
end
section
variable{E:En}{S:Sto}{f g k o:Ev}{d:D}{es:List (Key×D)}
@[simp] theorem gr:evP [] E S=some ([],S):=nr rfl
@[simp] theorem fX{r:List (Ev×Ev)}:evP ((k,f)::r) E S=(k E S).bind λa=>(V4 a.1).bind λkk=>(f E a.2).bind λb=>(evP r E b.2).map λq=>((kk,b.1)::q.1,q.2):=nr rfl
@[simp] theorem gN{x:Int}:V4 (.int x)=some (.inl x):=nr rfl
@[simp] theorem c9{cf:Bool}{fs:List (Ev×Ev)}:OQ cf fs E S=(evP fs E S).map λr=>Q4 cf (J4 [] r.1) r.2:=nr rfl
@[simp] theorem kM:Q4 true es S=(.ref S.length,S++[.dct es]):=nr rfl
@[simp] theorem kO:Q4 false es S=(.dct es,S):=nr rfl
@[simp] theorem gE:bD f k o E S=(f E S).bind λa=>(QF a.2 a.1).bind λ_=>(k E a.2).bind λb=>(o E b.2).bind λc=>(QF c.2 a.1).bind λes=>(V4 b.1).map λk=>((R8 es k).getD c.1,c.2):=nr rfl
theorem Vs{n:Nat}(h:S[n]?=Gc (.dct es)):QF S (.ref n)=Gc es:=by
 unfold QF
 dsimp only
 rw[h]
noncomputable def ZZ(d b:D)(E:En)(i:D×Sto):nB (Fl×En×Sto):=(V4 i.1).bind λkk=>match b with
 | .ref n=>match i.2[n]? with
   |some (.dct es)=>if es.length<1000 then Gc (.nx,E,i.2.set n (.dct (putD es kk d)))else none
   |_=>none
 |_=>none
@[simp] theorem dy:WJ k f o E S=(k E S).bind λr=>(f E r.2).bind λb=>(o E b.2).bind (ZZ r.1 b.1 E):=nr rfl
theorem Xq{n:Nat}{i:D}{kk:Key}(h:S[n]?=Gc (.dct es))(hk:V4 i=Gc kk)(hl:es.length<1000):ZZ d (.ref n) E (i,S)=Gc (.nx,E,S.set n (.dct (putD es kk d))):=by
 unfold ZZ
 rw[hk,A4]
 dsimp only
 rw[h]
 dsimp only
 rw[nh hl]
end
end Mi
end
noncomputable section
namespace Mi
open PySem PySem.Spec L2 PyProof.Rows
theorem PX:∀{l σ:List Int},σ.Nodup->(l.foldl qc σ).Nodup
 | [],σ,h=>h
 |x::l,σ,h=>by
  rw[wR]
  refine PX ?_
  unfold qc
  split
  .exact h
  .rename_i z
   refine sW.mpr ⟨h,by simp,λa ha b hb e=>z ?_⟩
   simp at hb
   subst hb
   subst e
   exact rW.mpr ⟨a,ha,by simp⟩
theorem Uh{x:Int}:∀{l σ:List Int},x∈l.foldl qc σ↔x∈σ\/x∈l
 | [],σ=>by simp
 |y::l,σ=>by
  rw[wR,Uh,nK]
  have:x∈qc σ y↔x∈σ\/x=y:=by
   unfold qc
   split
   .rename_i z
    obtain⟨w,hw,e⟩:=rW.mp z
    have e:w=y:=by simpa using e
    subst e
    exact⟨.inl,λh=>h.elim id λe=>e▸hw⟩
   .rw[oC,oK]
  rw[this,or_assoc]
theorem UD{ns:List Int}:Vn ns ns.length=ns.foldl qc []:=by
 show((oF ns.length).map _).foldl qc []=_
 congr 1
 apply rX
 .simp
 .intro i h1 h2
  simp at h1
  simp[nJ,h1]
theorem TL{M:Nat}:∀{l:List Nat} {a:Nat},l.Pairwise (· < ·)->(∀x∈l,a<=x/\x<M)->l.length<=M-a
 | [],a,_,_=>pY _
 |x::l,a,p,h=>by
  rw[vF]at p
  have hx:=h x nO
  have:=TL (a:=x+1) p.2 λy hy=>⟨p.1 y hy,(h y (nC _ hy)).2⟩
  simp;lia
theorem Y9(k1 k2:List Nat):∃ks:List Nat,GA (Vn ((k1++k2).map λ(n:Nat)=>(n:Int)) ((k1++k2).map λ(n:Nat)=>(n:Int)).length)=ks.map (λ(n:Nat)=>(n:Int))/\ks.Pairwise (· < ·)/\∀r,r∈ks↔r∈k1\/r∈k2:=by
 rw[UD]
 generalize hL:((k1++k2).map λ(n:Nat)=>(n:Int)).foldl qc []=L
 have nd:L.Nodup:=by rw[<-hL];exact PX .nil
 have mem:∀x,x∈L↔ ∃r,(r∈k1\/r∈k2)/\(r:Int)=x:=λx=>by
  rw[<-hL,Uh,oR]
  simp only[oD,false_or,oC]
 have pm:=Eu L
 have so:=Ma L
 refine⟨(GA L).map Int.toNat,?_,?_,λr=>?_⟩
 .rw[oS]
  conv=>lhs;rw[<-List.map_id (GA L)]
  refine rS λx hx=>?_
  obtain⟨r,_,rfl⟩:=(mem x).mp (pm.mem_iff.mp hx)
  simp
 .have nd2:(GA L).Nodup:=pm.nodup_iff.mpr nd
  rw[uL]
  refine List.Pairwise.imp_of_mem ?_ (List.pairwise_and_iff.mpr ⟨so,nd2⟩)
  rintro x y hx hy ⟨h1,h2⟩
  obtain⟨r,_,rfl⟩:=(mem x).mp (pm.mem_iff.mp hx)
  obtain⟨q,_,rfl⟩:=(mem y).mp (pm.mem_iff.mp hy)
  simp
  lia
 .rw[oR]
  constructor
  .rintro ⟨x,hx,rfl⟩
   obtain⟨r,hr,rfl⟩:=(mem x).mp (pm.mem_iff.mp hx)
   simpa using hr
  .intro hr
   exact⟨(r:Int),pm.mem_iff.mpr ((mem _).mpr ⟨r,hr,rfl⟩),by simp⟩
theorem XM{es:List (Key×D)}{k:Key}{v:D}(h:∀kv∈es,kv.1≠k):putD es k v=es++[(k,v)]:=by
 unfold putD
 rw[oE]
 intro z
 obtain⟨kv,hm,e⟩:=rW.mp z
 exact h kv hm (by simpa using e)
noncomputable def ent(ow:List Rat)(r:Nat):Key×D:=(.inl (r:Int),aD (ow.getD r 0))
def DOk(M:Nat)(es:List (Key×D))(ow:List Rat):Prop:=∃ks:List Nat,es=ks.map (ent ow)/\ks.length<=M/\(∀r∈ks,r<M)/\(∀r,r∉ks->ow.getD r 0=0)/\ks.Nodup/\∀r∈ks,0<ow.getD r 0
theorem TB{ow:List Rat}{r:Nat}:∀{ks:List Nat},R8 (ks.map (ent ow)) (.inl (r:Int))=if r∈ks then Gc (aD (ow.getD r 0))else none
 | []=>rfl
 |x::ks=>by
  rw[nR]
  show(if qt (x:Int)=(qt (r:Int):Key)then Gc (aD (ow.getD x 0))else R8 (ks.map (ent ow)) (.inl (r:Int)))=_
  rw[TB]
  by_cases e:x=r
  .subst e;simp
  .have e':¬(qt (x:Int)=(qt (r:Int):Key)):=λz=>by injection z with z;lia
   have e2:¬r=x:=λz=>e z.symm
   rw[oE e']
   simp[e2]
theorem DOk.val{M r:Nat}{es:List (Key×D)}{ow:List Rat}(h:DOk M es ow):(R8 es (.inl (r:Int))).getD (aD 0)=aD (ow.getD r 0):=by
 obtain⟨ks,rfl,_,_,h0,_⟩:=h
 rw[TB]
 split
 .rfl
 .rename_i z;rw[h0 r z];rfl
theorem DOk.nn{M r:Nat}{es:List (Key×D)}{ow:List Rat}(h:DOk M es ow):0<=ow.getD r 0:=by
 obtain⟨ks,rfl,_,_,h0,_,h1⟩:=h
 by_cases hr:r∈ks
 .exact uv (h1 r hr)
 .rw[h0 r hr];decide
theorem Zm{a b:Rat}{n m:Int}(ha:0<=a)(hb:0<=b)(h:0<a\/0<b)(hn:0<n)(hm:0<m):0<(a*n+b*m) / ((n+m:Int):Rat):=by
 have n1:(0:Rat)<(n:Rat):=by exact_mod_cast hn
 have m1:(0:Rat)<(m:Rat):=by exact_mod_cast hm
 have nm:(0:Rat)<((n+m:Int):Rat):=by
  have:0<n+m:=by lia
  exact_mod_cast this
 have h1:0<=a*n:=Rat.mul_nonneg ha (uv n1)
 have h2:0<=b*m:=Rat.mul_nonneg hb (uv m1)
 rw[Rat.div_def]
 refine zc ?_ (Rat.inv_pos.mpr nm)
 rcases h with h|h
 .have:=zc h n1;grind
 .have:=zc h m1;grind
theorem LQ{ow:List Rat}:∀{ks:List Nat},Rj (ks.map (ent ow))=Gc (ks.map λ(n:Nat)=>(n:Int))
 | []=>rfl
 |k::ks=>by
  show(Rj (ks.map (ent ow))).map _=_
  rw[LQ];rfl
end Mi
end
noncomputable section
namespace Mi
open PySem PySem.Spec L2 PyProof.Rows
section
variable{S:Sto}{t:Tr}{ls:List Ld}{ds:List AW}{k M:Nat}{s o:Stt}{d:AW}
def DAt(S:Sto)(x:D)(es:List (Key×D)):Prop:=x=.dct es\/∃n,x=.ref n/\S[n]?=Gc (.dct es)
theorem DAt.dd{x:D}{es:List (Key×D)}(h:DAt S x es):QF S x=Gc es:=by
 rcases h with rfl|⟨n,rfl,e⟩
 .rfl
 .exact Vs e
theorem DAt.same{S':Sto}{A:List Nat}{x:D}{es:List (Key×D)}(h:DAt S x es)(g:Bu A S S')(hA:∀n∈A,S[n]?≠Gc (.dct es)):DAt S' x es:=by
 rcases h with rfl|⟨n,rfl,e⟩
 .exact .inl rfl
 .exact .inr ⟨n,rfl,g.get e λz=>hA n z e⟩
def ilB:Ex:=(Ag (CC 10 (AM Ac [CY [eV 6,eC (.int 1)],bD (eOp (o2 wIx) [eV 2,eV 4]) (eV 9) (CY [eC (.int 0),eC (.int 1)])]))
    (Ag (CC 10 (AM BM [eV 10,AM Ac [CY [eV 7,eC (.int 1)],bD (eOp (o2 wIx) [eV 2,eV 5]) (eV 9) (CY [eC (.int 0),eC (.int 1)])]]))
    (WJ (AM Ac [eV 10,AM BL [eC (.int 1),eOp (o2 Dt) [eV 6,eV 7]]]) (eV 8) (eV 9))))
theorem Zo{n m:Int}{a b:Rat}(h:0<n+m):((n:Rat)*a+(m:Rat)*b)*((1:Int) / ((n+m:Int):Rat))=(a*n+b*m) / ((n+m:Int):Rat):=by
 have:((n+m:Int):Rat)≠0:=by
  intro z
  have:(n+m:Int)=0:=by exact_mod_cast z
  lia
 push_cast
 grind
theorem Hn{n m:Int}{a b:List Rat}{r:Nat}(ha:r<a.length)(hb:r<b.length):(As n m a b).getD r 0=(a.getD r 0*n+b.getD r 0*m) / ((n+m:Int):Rat):=by
 unfold As
 simp[nJ,List.getElem?_zipWith,ha,hb]
theorem cV{q w i j r:Nat}{n m:Int}{xs:List D}{xi xj:D}{ei ej es:List (Key×D)}{a b:List Rat}{z:Nat}{a0 a1 a3 a10:nB D}(hq:S[q]?=Gc (.lst xs))(hw:S[w]?=Gc (.dct es))(hi:atI xs (i:Int)=Gc xi)(hj:atI xs (j:Int)=Gc xj)(di:DAt S xi ei)(dj:DAt S xj ej)(oi:DOk M ei a)(oj:DOk M ej b)(ra:r<a.length)(rb:r<b.length)(sa:∀x∈a,Sz z x)(sb:∀x∈b,Sz z x)(hz:2*z<=7000)(hn:n.natAbs<2^150)(hm:m.natAbs<2^150)(h0:0<n+m)(hnew:∀kv∈es,kv.1≠qt (r:Int))(hl:es.length<1000):∃c,ilB [a0,a1,Gc (.ref q),a3,Gc (.int i),Gc (.int j),Gc (.int n),Gc (.int m),Gc (.ref w),Gc (.int r),a10] S=Gc (.nx,[a0,a1,Gc (.ref q),a3,Gc (.int i),Gc (.int j),Gc (.int n),Gc (.int m),Gc (.ref w),Gc (.int r),c],S.set w (.dct (es++[ent (As n m a b) r]))):=by
 have dq:=Ah hq
 have vi:=oi.val (r:=r)
 have vj:=oj.val (r:=r)
 rw[UX]at vi vj
 have si:=sa _ (getD_mem (d:=0) ra)
 have sj:=sb _ (getD_mem (d:=0) rb)
 have zn:=RE hn (by decide)
 have zm:=RE hm (by decide)
 have t1:=Gg (S:=S) zn si (by lia)
 have t2:=Gg (S:=S) zm sj (by lia)
 have p1:=LJ zn si
 have p2:=LJ zm sj
 have t3:=MD (S:=S) p1 p2 (by lia)
 have nm1:(n+m).natAbs<2^151:=GQ hn hm
 have t4:=U5 (S:=S) (t:=1) h0 (FT nm1 (by decide))
 have z4:Sz 151 (((1:Int):Rat) / ((n+m:Int):Rat)):=Kv h0 (nE (show(1:Int).natAbs<2^1 by decide) (qB (by decide) (by decide))) nm1
 have t5:=Gg (S:=S) (YS p1 p2) z4 (by lia)
 rw[Zo h0,<-Hn ra rb]at t5
 rw[Yq]at t1 t2
 have sk:=λE=>Xq (d:=aD ((As n m a b).getD r 0)) (E:=E) (i:=.int r) (kk:=.inl (r:Int)) hw rfl hl
 rw[XM hnew]at sk
 have d1:=di.dd
 have d2:=dj.dd
 refine⟨Gc (aD ((n:Rat)*a.getD r 0+(m:Rat)*b.getD r 0)),?_⟩
 generalize ((n:Rat)*a.getD r 0)=A at*
 generalize ((m:Rat)*b.getD r 0)=B at*
 generalize (((1:Int):Rat) / ((n+m:Int):Rat))=C at*
 have sz2:(2:Nat)<=sizeLine:=AQ (by decide)
 unfold ent
 generalize a.getD r 0=A0 at*
 generalize b.getD r 0=B0 at*
 generalize (As n m a b).getD r 0=P0 at*
 simp[ilB,dq,hi,hj,d1,d2,vi,vj,t1,t2,t3,t4,t5,sk,sz2]
end
end Mi
end
noncomputable section
namespace Mi
open PySem PySem.Spec L2 PyProof.Rows
section
variable{S:Sto}{t:Tr}{ls:List Ld}{ds:List AW}{k M:Nat}{s o:Stt}{d:AW}
theorem DAt.keep{S':Sto}{A:List Nat}{x:D}{es:List (Key×D)}(h:DAt S x es)(g:Bu A S S')(hA:∀n∈A,x≠.ref n):DAt S' x es:=by
 rcases h with rfl|⟨n,rfl,e⟩
 .exact .inl rfl
 .exact .inr ⟨n,rfl,g.get e λz=>hA n z rfl⟩
theorem UH{S0:Sto}{q w i j:Nat}{n m:Int}{xs:List D}{xi xj:D}{ei ej:List (Key×D)}{a b:List Rat}{z:Nat}{a0 a1 a3:nB D}(hq:S0[q]?=Gc (.lst xs))(qw:q≠w)(hi:atI xs (i:Int)=Gc xi)(hj:atI xs (j:Int)=Gc xj)(di:DAt S0 xi ei)(dj:DAt S0 xj ej)(wi:xi≠.ref w)(wj:xj≠.ref w)(oi:DOk M ei a)(oj:DOk M ej b)(la:a.length=M)(lb:b.length=M)(sa:∀x∈a,Sz z x)(sb:∀x∈b,Sz z x)(hz:2*z<=7000)(hn:n.natAbs<2^150)(hm:m.natAbs<2^150)(h0:0<n+m):∀{ks done:List Nat} {T:Sto} {a9 a10:nB D},T[w]?=Gc (.dct (done.map (ent (As n m a b))))->Bu [w] S0 T->(∀r∈ks,r<M)->ks.Pairwise (· < ·)->(∀x∈done,∀r∈ks,x<r)->done.length+ks.length<=100->∃a9' a10' T',KR [] (tNm 9) ilB (BO ks) [a0,a1,Gc (.ref q),a3,Gc (.int i),Gc (.int j),Gc (.int n),Gc (.int m),Gc (.ref w),a9,a10] T=Gc (.nx,[a0,a1,Gc (.ref q),a3,Gc (.int i),Gc (.int j),Gc (.int n),Gc (.int m),Gc (.ref w),a9',a10'],T')/\T'[w]?=Gc (.dct ((done++ks).map (ent (As n m a b))))/\Bu [w] S0 T'
 | [],done,T,a9,a10,hw,hs,_,_,_,_=>⟨a9,a10,T,by rw[BO,oy,GX Ae],by simpa using hw,hs⟩
 |r::ks,done,T,a9,a10,hw,hs,hr,hp,hd,hl=>by
  rw[vF]at hp
  simp only[oT]at hl
  have hq':=hs.get hq (by simpa using qw)
  have di':=di.keep hs (λn hn=>by simp at hn;rw[hn];exact wi)
  have dj':=dj.keep hs (λn hn=>by simp at hn;rw[hn];exact wj)
  have rM:=hr r nO
  have hnew:∀kv∈done.map (ent (As n m a b)),kv.1≠qt (r:Int):=λkv hk e=>by
   obtain⟨x,hx,rfl⟩:=oR.mp hk
   have:=hd x hx r nO
   have e:(qt (x:Int):Key)=qt (r:Int):=e
   injection e with e
   lia
  obtain⟨c,e2⟩:=cV (a0:=a0) (a1:=a1) (a3:=a3) (a10:=a10) hq' hw hi hj di' dj' oi oj (by lia) (by lia) sa sb hz hn hm h0 hnew (by simp;lia)
  have em:done.map (ent (As n m a b))++[ent (As n m a b) r]=(done++[r]).map (ent (As n m a b)):=by simp
  rw[em]at e2
  obtain⟨a9',a10',T',e3,w3,s3⟩:=UH hq qw hi hj di dj wi wj oi oj la lb sa sb hz hn hm h0 (ks:=ks) (done:=done++[r]) (T:=T.set w (.dct ((done++[r]).map (ent (As n m a b))))) (a9:=Gc (.int r)) (a10:=c) (a0:=a0) (a1:=a1) (a3:=a3) (nU (Aa hw)) (hs.trans (.set (by simp))) (λx hx=>hr x (nC _ hx)) hp.2 (λx hx y hy=>by
   rcases oC.mp hx with hx|hx
   .exact hd x hx y (nC _ hy)
   .simp at hx;rw[hx];exact hp.1 y hy) (by simp;lia)
  refine⟨a9',a10',T',?_,by simpa using w3,s3⟩
  have e1:tNm 9 (.int (r:Int)) [a0,a1,Gc (.ref q),a3,Gc (.int i),Gc (.int j),Gc (.int n),Gc (.int m),Gc (.ref w),a9,a10] T=Gc [a0,a1,Gc (.ref q),a3,Gc (.int i),Gc (.int j),Gc (.int n),Gc (.int m),Gc (.ref w),Gc (.int r),a10]:=rfl
  show KR [] (tNm 9) ilB (.int (r:Int)::BO ks) _ T=_
  rw[D7 Ae,e1,A4,e2,A4,Jl,e3]
structure OAt(S:Sto)(q M:Nat)(xs:List D)(o:Stt):Prop where
 cell:S[q]?=Gc (.lst xs)
 len:xs.length=o.AE.length
 at':∀(i:Nat) x,xs[i]?=Gc x->∃es,DAt S x es/\DOk M es (AN o.AE i).ow
theorem OAt.get{q:Nat}{xs:List D}(h:OAt S q M xs o){i:Nat}(hi:i<o.AE.length):∃x es,xs[i]?=Gc x/\atI xs (i:Int)=Gc x/\DAt S x es/\DOk M es (AN o.AE i).ow:=by
 have hx:i<xs.length:=by rw[h.len];exact hi
 have e:xs[i]?=Gc xs[i]:=nN hx
 obtain⟨es,a,b⟩:=h.at' i _ e
 exact⟨_,es,e,CT e,a,b⟩
theorem OAt.keep{S':Sto}{A:List Nat}{q:Nat}{xs:List D}(h:OAt S q M xs o)(g:Bu A S S')(hq:q∉A)(hA:∀n∈A,∀es,S[n]?≠Gc (.dct es)):OAt S' q M xs o:=
 ⟨g.get h.cell hq,h.len,λi x e=>by obtain⟨es,a,b⟩:=h.at' i x e;exact⟨es,a.same g λn hn=>hA n hn es,b⟩⟩
theorem DN{ls:List Ld}{y:Ld}{i:Nat}:AN (ls++[y]) i=if i<ls.length then AN ls i else if i=ls.length then y else⟨0,0,[]⟩:=by
 unfold AN
 rw[nJ,nJ,xR]
 split
 .rfl
 .split
  .rename_i h1 h2;subst h2;simp
  .rename_i h1 h2
   rw[pO (by simp;lia)];rfl
theorem C3{ls:List Ld}{i j:Nat}{n:Int}:(AN (less ls i n) j).ow=(AN ls j).ow:=by
 by_cases e:i=j
 .subst e
  unfold less
  by_cases hi:i<ls.length
  .unfold AN;simp[nJ,hi]
  .rw[vd (by lia)]
 .rw[GK e]
end
end Mi
end
noncomputable section
namespace Mi
open PySem PySem.Spec L2 PyProof.Rows
section
variable{S:Sto}{t:Tr}{ls:List Ld}{ds:List AW}{k M q:Nat}{s o o':Stt}{d:AW}{xs:List D}
theorem OAt.snoc(h:OAt S q M xs o){x:D}{es:List (Key×D)}(hx:DAt S x es)(hd:DOk M es (AN o'.AE o.AE.length).ow)(hl:o'.AE.length=o.AE.length+1)(ho:∀i,i<o.AE.length->(AN o'.AE i).ow=(AN o.AE i).ow):OAt (S.set q (.lst (xs++[x]))) q M (xs++[x]) o':=by
 have nd:∀n∈ [q],∀es,S[n]?≠Gc (.dct es):=λn hn es e=>by
  simp at hn;rw[hn,h.cell]at e;cases e
 have sm:Bu [q] S (S.set q (.lst (xs++[x]))):=.set (by simp)
 refine⟨nU (Aa h.cell),by simp[h.len,hl],λi y e=>?_⟩
 rw[xR]at e
 split at e
 .rename_i hi
  obtain⟨e1,a,b⟩:=h.at' i y e
  exact⟨e1,a.same sm (λn hn=>nd n hn e1),by rw[ho i (by rw[<-h.len];exact hi)];exact b⟩
 .rename_i hi
  have hi':i=xs.length:=by
   rcases wN xs.length i with w|w
   .rw[pO (by simp;lia)]at e;cases e
   .lia
  subst hi'
  simp at e
  subst e
  refine⟨es,hx.same sm (λn hn=>nd n hn es),?_⟩
  rw[h.len];exact hd
theorem OAt.ows(h:OAt S q M xs o)(hl:o'.AE.length=o.AE.length)(ho:∀i,(AN o'.AE i).ow=(AN o.AE i).ow):OAt S q M xs o':=
 ⟨h.cell,by rw[h.len,hl],λi x e=>by obtain⟨es,a,b⟩:=h.at' i x e;exact⟨es,a,by rw[ho];exact b⟩⟩
theorem Lf{M L r:Nat}:(Jz M L).getD r 0=if r<M/\r=L then 1 else 0:=by
 unfold Jz
 rw[nJ,ng]
 by_cases h:r<M
 .simp[h]
 .rw[pO (by simp;lia)];simp[h]
theorem DOk.one{M L:Nat}(h:L<M):DOk M [(.inl (L:Int),.tup [.int 1,.int 1])] (Jz M L):=by
 refine⟨[L],?_,by simp;lia,by simpa using h,λr hr=>?_,by simp,λr hr=>?_⟩
 .simp only[nR,oy,ent]
  rw[Lf,nh ⟨h,rfl⟩,Tq]
 .rw[Lf,oE (by simp at hr;lia)]
 .simp at hr
  rw[Lf,nh (by lia)];decide
def olP:Ex:=(Ag (P7 (tTp [tNm 4,tNm 5]) (eOp (MQ true false) [eV 3,eC (.int 1)]))
    (Ag (Nm 6 7 (eOp (o2 wIx) [eOp (o2 wIx) [eOp (o2 wIx) [eV 1,eC (.int 0)],eV 4],eC (.int 1)]) (eOp (o2 wIx) [eOp (o2 wIx) [eOp (o2 wIx) [eV 1,eC (.int 0)],eV 5],eC (.int 1)]))
    (Ag (CC 8 (Ya []))
    (Ag (Kn (IP (eOp (o1 wSS) [eOp (o2 Dt) [eLK false (eOp (o2 wIx) [eV 2,eV 4]),eLK false (eOp (o2 wIx) [eV 2,eV 5])]])) (tNm 9) ilB)
    (Bp (G7 Hx (eV 2) [eV 8]))))))
def olA:Ex:=(xIf (eOp (o2 wEq) [eOp (o2 wIx) [eV 3,eC (.int 0)],eC (.str "bring")]) (Bp (G7 Hx (eV 2) [Uq [((eOp (o1 Gu) [eV 2]),(CY [eC (.int 1),eC (.int 1)]))]])) (xIf (eOp (o2 wEq) [eOp (o2 wIx) [eV 3,eC (.int 0)],eC (.str "pool")]) olP (xIf (eOp (o2 (wIn false)) [eOp (o2 wIx) [eV 3,eC (.int 0)],CY [eC (.str "swap"),eC (.str "trade")]]) (Bp (G7 Hx (eV 2) [eDC false (eOp (o2 wIx) [eV 2,eOp (o2 wIx) [eV 3,eOp (o1 R3) [eC (.int 4)]]])])) Ed)))
@[simp] theorem gh{c:Bool}{f:Ev}{E:En}:eLK c f E S=(f E S).bind λa=>(QF a.2 a.1).bind λes=>(Rj es).bind λns=>fin c (.own (ns.map D.int)) a.2:=nr rfl
@[simp] theorem jM{c:Bool}{f:Ev}{E:En}:eDC c f E S=(f E S).bind λa=>(QF a.2 a.1).map λes=>Q4 c es a.2:=nr rfl
theorem eS{sr:Nat}{bk:nB D}{us:En}(hus:us.length=7)(h:OAt S q M xs o)(hk:o.AE.length<=50)(hM:GR d=true->o.AE.length<M)(hnp:∀i j,d≠.Fz i j)(hc:Can t s d)(hd:Hd s o):∃xs' S',olA ([bk,Gc (.ref sr),Gc (.ref q),Gc d.d]++us) S=Gc (.nx,[bk,Gc (.ref sr),Gc (.ref q),Gc d.d]++us,S')/\OAt S' q M xs' (CD t M o d)/\Bu [q] S S':=by
 obtain⟨a4,a5,a6,a7,a8,a9,a10,rfl⟩:∃a4 a5 a6 a7 a8 a9 a10,us=[a4,a5,a6,a7,a8,a9,a10]:=by
  match us,hus with
  | [a,b,c,d,e,f,g],_=>exact⟨a,b,c,d,e,f,g,rfl⟩
 have hz:xs.length<sizeLine:=nE (show _<51 by rw[h.len];lia) (AQ (by decide))
 have cq:=AS h.cell
 have dq:=Ah h.cell
 have sz2:(2:Nat)<=sizeLine:=AQ (by decide)
 cases d with
 |D6 p kd n=>
  have m1:J4 [] [((.inl (xs.length:Int):Key),D.tup [.int 1,.int 1])]=[((.inl (xs.length:Int):Key),D.tup [.int 1,.int 1])]:=rfl
  refine⟨_,_,?_,h.snoc (o':=CD t M o (.D6 p kd n)) (x:=.dct [(.inl (xs.length:Int),.tup [.int 1,.int 1])]) (.inl rfl) ?_ ?_ ?_,.set (by simp)⟩
  .simp[olA,AW.d,cq,dq,hz,sz2,m1]
  .show DOk M _ (AN (o.AE++[_]) o.AE.length).ow
   rw[DN,oE (pL _),nh rfl,h.len]
   exact DOk.one (hM rfl)
  .simp[CD,G6,step]
  .intro i hi
   show(AN (o.AE++[_]) i).ow=_
   rw[DN,nh hi]
 |Fz i j=>exact absurd rfl (hnp i j)
 |swap i g kd n=>
  have hi:i<o.AE.length:=by rw[<-hd.len];exact hc.1
  obtain⟨x,es,e1,e2,e3,e4⟩:=h.get hi
  have dx:=e3.dd
  refine⟨_,_,?_,h.snoc (o':=CD t M o (.swap i g kd n)) (x:=.dct es) (es:=es) (.inl rfl) ?_ ?_ ?_,.set (by simp)⟩
  .simp[olA,AW.d,cq,dq,hz,e2,dx]
  .show DOk M _ (AN (less o.AE i g++[_]) o.AE.length).ow
   rw[DN,Ap,oE (pL _),nh rfl]
   exact e4
  .simp[CD,G6,step,Ap]
  .intro j hj
   show(AN (less o.AE i g++[_]) j).ow=_
   rw[DN,Ap,nh hj,C3]
 |Df u i g kd n=>
  have hi:i<o.AE.length:=by rw[<-hd.len];exact hc.1
  obtain⟨x,es,e1,e2,e3,e4⟩:=h.get hi
  have dx:=e3.dd
  refine⟨_,_,?_,h.snoc (o':=CD t M o (.Df u i g kd n)) (x:=.dct es) (es:=es) (.inl rfl) ?_ ?_ ?_,.set (by simp)⟩
  .simp[olA,AW.d,cq,dq,hz,e2,dx]
  .show DOk M _ (AN (less o.AE i g++[_]) o.AE.length).ow
   rw[DN,Ap,oE (pL _),nh rfl]
   exact e4
  .simp[CD,G6,step,Ap]
  .intro j hj
   show(AN (less o.AE i g++[_]) j).ow=_
   rw[DN,Ap,nh hj,C3]
 |FZ i n=>exact⟨xs,S,by simp[olA,AW.d],h.ows (by simp[CD,G6,step,Ap]) (λj=>by show(AN (less o.AE i n) j).ow=_;rw[C3]),.refl⟩
 |thr i n ws=>exact⟨xs,S,by simp[olA,AW.d],h.ows (by simp[CD,G6,step,Ap]) (λj=>by show(AN (less o.AE i n) j).ow=_;rw[C3]),.refl⟩
 |Ii p p' x=>exact⟨xs,S,by simp[olA,AW.d],h.ows rfl (λj=>rfl),.refl⟩
end
end Mi
end
noncomputable section
namespace Mi
open PySem PySem.Spec L2 PyProof.Rows
section
variable{S:Sto}{t:Tr}{ls:List Ld}{ds:List AW}{k M q:Nat}{s o o':Stt}{d:AW}{xs:List D}
@[simp] theorem ia{a b c:D}:MB [a,b,c] (some 1) none=[b,c]:=nr rfl
theorem d9{k1 k2 ks:List Nat}(hs:GA (Vn ((k1++k2).map λ(n:Nat)=>(n:Int)) ((k1++k2).map λ(n:Nat)=>(n:Int)).length)=ks.map (λ(n:Nat)=>(n:Int)))(h1:k1.length+k2.length<=1000)(h2:ks.length<64):wSS (.val (.lst ((k1.map λ(n:Nat)=>(n:Int)).map D.int++(k2.map λ(n:Nat)=>(n:Int)).map D.int)))=Gc (.own (BO ks)):=by
 have e:(k1.map λ(n:Nat)=>(n:Int)).map D.int++(k2.map λ(n:Nat)=>(n:Int)).map D.int=((k1++k2).map λ(n:Nat)=>(n:Int)).map D.int:=by simp
 rw[e]
 show(Im _).bind _=_
 rw[GC,A4]
 have l2:(Vn ((k1++k2).map λ(n:Nat)=>(n:Int)) ((k1++k2).map λ(n:Nat)=>(n:Int)).length).length=ks.length:=by
  rw[<-(Eu _).length_eq,hs,oG]
 rw[nh ⟨by simpa using h1,by rw[l2];exact h2⟩,hs,BO,oS]
 rfl
theorem cA{sr l m:Nat}{as:List Nat}{bk:nB D}{us:En}{i j:Nat}(hus:us.length=7)(hS:SAt S sr l m as s)(h:OAt S q M xs o)(inv:Ds (tO t M) k o)(hk:k<=16)(hM:o.AE.length<M)(hM2:M<=40)(hc:Can t s (.Fz i j))(hd:Hd s o):∃us' xs' S',us'.length=7/\olP ([bk,Gc (.ref sr),Gc (.ref q),Gc (AW.Fz i j).d]++us) S=Gc (.nx,[bk,Gc (.ref sr),Gc (.ref q),Gc (AW.Fz i j).d]++us',S')/\OAt S' q M xs' (CD t M o (.Fz i j))/\Bu [q] S S':=by
 obtain⟨a4,a5,a6,a7,a8,a9,a10,rfl⟩:∃a4 a5 a6 a7 a8 a9 a10,us=[a4,a5,a6,a7,a8,a9,a10]:=by
  match us,hus with
  | [a,b,c,d,e,f,g],_=>exact⟨a,b,c,d,e,f,g,rfl⟩
 have co:=XQ (M:=M) hd hc (λ_=>hM) rfl
 obtain⟨hij,hi,hj,h1,h2,h3⟩:=hc
 obtain⟨_,hi',hj',h1',h2',_⟩:=co
 have ai:=hd.at hi
 have aj:=hd.at hj
 obtain⟨xi,ei,x1,x2,x3,x4⟩:=h.get hi'
 obtain⟨xj,ej,y1,y2,y3,y4⟩:=h.get hj'
 obtain⟨k1,rfl,kl1,kb1,kz1,kn1,kp1⟩:=id x4
 obtain⟨k2,rfl,kl2,kb2,kz2,kn2,kp2⟩:=id y4
 obtain⟨ks,ss,pw,mem⟩:=Y9 k1 k2
 have own:=inv.own
 have la:(AN o.AE i).ow.length=M:=own _ (AR hi')
 have lb:(AN o.AE j).ow.length=M:=own _ (AR hj')
 have ksM:∀r∈ks,r<M:=λr hr=>((mem r).mp hr).elim (kb1 r) (kb2 r)
 have ksl:ks.length<=M:=by
  have:=TL (a:=0) pw λx hx=>⟨pY _,ksM x hx⟩
  lia
 have wss:=d9 ss (by lia) (by lia)
 have s0:Bu [] S (S++[Cl.dct []]):=.app
 have w0:(S++[Cl.dct []])[S.length]?=Gc (.dct []):=nY
 have h0:OAt (S++[Cl.dct []]) q M xs o:=h.keep s0 (by simp) (λ_ z=>nomatch z)
 have x30:=x3.keep s0 (λ_ z=>nomatch z)
 have y30:=y3.keep s0 (λ_ z=>nomatch z)
 have qw:q≠S.length:=λe=>by have:=Aa h.cell;lia
 have wx:∀{x:D} {es:List (Key×D)},DAt S x es->x≠.ref S.length:=λ{x es} hx e=>by
  rcases hx with rfl|⟨n,rfl,z⟩
  .cases e
  .injection e with e
   have:=Aa z;lia
 have pi:=inv.pcs _ (AR hi')
 have pj:=inv.pcs _ (AR hj')
 have up:∀{x:Int},0<=x->x<2^(131+k)->x.natAbs<2^150:=λ{x} a b=>Fx a (tW b (Ja (by lia)))
 have sz:=inv.sz.1
 obtain⟨a9',a10',T,e5,w5,s5⟩:=UH (z:=30+170*k) (a0:=bk) (a1:=Gc (.ref sr)) (a3:=Gc (AW.Fz i j).d) (a9:=a9) (a10:=a10) (n:=(AN o.AE i).n) (m:=(AN o.AE j).n) h0.cell qw x2 y2 x30 y30 (wx x3) (wx y3) x4 y4 la lb (sz _ (AR hi')) (sz _ (AR hj')) (by lia) (up pi.1 pi.2) (up pj.1 pj.2) (by lia) (ks:=ks) (done:=[]) (T:=S++[Cl.dct []]) w0 .refl ksM pw (λ_ z=>nomatch z) (by simp;lia)
 rw[oM]at w5
 have sT:Bu [] S T:=Bu.new (A:=[]) (B:=[S.length]) .app s5 (by simp)
 have hT:OAt T q M xs o:=h.keep sT (by simp) (λ_ z=>nomatch z)
 have hz:xs.length<sizeLine:=nE (show _<51 by rw[h.len];lia) (AQ (by decide))
 have snoc:=hT.snoc (o':=CD t M o (.Fz i j)) (x:=.ref S.length) (.inr ⟨_,rfl,w5⟩) (by
  show DOk M _ (AN (less (less o.AE i _) j _++[_]) o.AE.length).ow
  rw[DN,Ap,Ap,oE (pL _),nh rfl]
  refine⟨ks,rfl,ksl,ksM,λr hr=>?_,pw.imp λh=>nV h,λr hr=>by
   rw[Hn (by have:=ksM r hr;lia) (by have:=ksM r hr;lia)]
   refine Zm x4.nn y4.nn ?_ h1' h2'
   rcases(mem r).mp hr with z|z
   .exact .inl (kp1 r z)
   .exact .inr (kp2 r z)⟩
  have hr1:r∉k1:=λz=>hr ((mem r).mpr (.inl z))
  have hr2:r∉k2:=λz=>hr ((mem r).mpr (.inr z))
  by_cases hrM:r<M
  .rw[Hn (by lia) (by lia),kz1 r hr1,kz2 r hr2]
   grind
  .rw[nJ,pO (by unfold As;simp;lia)];rfl) (by simp[CD,G6,step,Ap]) (λr hr=>by
  show(AN (less (less o.AE i _) j _++[_]) r).ow=_
  rw[DN,Ap,Ap,nh hr,C3,C3])
 refine⟨[Gc (.int i),Gc (.int j),Gc (.int (AN o.AE i).n),Gc (.int (AN o.AE j).n),Gc (.ref S.length),a9',a10'],_,_,rfl,?_,snoc,(sT.mono λ_ z=>nomatch z).trans (.set (by simp))⟩
 obtain⟨ca,ca1,ca2,ca3⟩:=hS.at hi
 obtain⟨cb,cb1,cb2,cb3⟩:=hS.at hj
 have r0:=Ah hS.root
 have l0:=Ah hS.lo
 have a0:=Ah (show S[ca]?=Gc (.lst _)from ca2)
 have b0:=Ah (show S[cb]?=Gc (.lst _)from cb2)
 have dq0:=Ah h0.cell
 have d1:=x30.dd
 have d2:=y30.dd
 have ke1:=LQ (ow:=(AN o.AE i).ow) (ks:=k1)
 have ke2:=LQ (ow:=(AN o.AE j).ow) (ks:=k2)
 have cT:=AS hT.cell
 have za:((k1.map λ(n:Nat)=>(n:Int)).map D.int).length+((k2.map λ(n:Nat)=>(n:Int)).map D.int).length<=sizeLine:=nL (show _<=100 by simp;lia) (AQ (by decide))
 have mn:J4 [] []=[]:=rfl
 rw[ai.2,aj.2]at*
 generalize k1.map (ent (AN o.AE i).ow)=EI at*
 generalize k2.map (ent (AN o.AE j).ow)=EJ at*
 generalize (k1.map λ(n:Nat)=>(n:Int))=N1 at*
 generalize (k2.map λ(n:Nat)=>(n:Int))=N2 at*
 simp only[oG]at za
 generalize BO ks=NN at*
 simp only[AW.d,pC,oM]at e5⊢
 simp[olP,r0,l0,a0,b0,ca3,cb3,mn,dq0,x2,y2,d1,d2,ke1,ke2,za,wss,e5,cT,hz]
end
end Mi
end
noncomputable section
namespace Mi
open PySem PySem.Spec L2 PyProof.Rows
section
variable{S:Sto}{t:Tr}{ls:List Ld}{ds:List AW}{k M q:Nat}{s o o':Stt}{d:AW}{xs:List D}
theorem SAt.lst{sr l m:Nat}{as:List Nat}(h:SAt S sr l m as s):∀n∈sr::l::m::as,∀es,S[n]?≠Gc (.dct es):=by
 intro n hn es e
 simp only[nK]at hn
 rcases hn with rfl|rfl|rfl|hn
 .rw[h.root]at e;cases e
 .rw[h.lo]at e;cases e
 .rw[h.nu]at e;cases e
 .obtain⟨i,hi,rfl⟩:=se.mp hn
  have hi2:i<s.AE.length:=by rw[<-h.len];exact hi
  rw[h.ld i as[i] _ (nN hi) (Cq hi2)]at e
  cases e
def orL:Ex:=Ag olA (Bp (AM BX [eOp (o2 wIx) [eV 0,eC (.int 0)],eV 1,eV 3]))
theorem Zc{sr l m:Nat}{as:List Nat}{bk:nB D}{us:En}(hus:us.length=7)(hS:SAt S sr l m as s)(h:OAt S q M xs o)(oj:OJ t M k s o)(hk:k<=16)(hM:GR d=true->o.AE.length<M)(hM2:M<=40)(hc:Can t s d):∃us' xs' S',us'.length=7/\olA ([bk,Gc (.ref sr),Gc (.ref q),Gc d.d]++us) S=Gc (.nx,[bk,Gc (.ref sr),Gc (.ref q),Gc d.d]++us',S')/\OAt S' q M xs' (CD t M o d)/\Bu [q] S S':=by
 have hl:o.AE.length<=50:=by have:=oj.inv.len;lia
 by_cases hp:∃i j,d=.Fz i j
 .obtain⟨i,j,rfl⟩:=hp
  obtain⟨us',xs',S',e0,e1,e2,e3⟩:=cA (bk:=bk) hus hS h oj.inv hk (hM rfl) hM2 hc oj.hd
  refine⟨us',xs',S',e0,?_,e2,e3⟩
  rw[<-e1]
  simp[olA,AW.d]
 .obtain⟨xs',S',e1,e2,e3⟩:=eS (bk:=bk) (sr:=sr) hus h hl hM (λi j e=>hp ⟨i,j,e⟩) hc oj.hd
  exact⟨us,xs',S',hus,e1,e2,e3⟩
theorem d6{sr l m:Nat}{as:List Nat}{us:En}{X Y:D}(ht:KY t)(hus:us.length=7)(hs:Ds t k s)(hS:SAt S sr l m as s)(h:OAt S q M xs o)(hq:q∉sr::l::m::as)(oj:OJ t M k s o)(hk:k<=16)(hM:GR d=true->o.AE.length<M)(hM2:M<=40)(hc:Can t s d):∃us' xs' S' as',us'.length=7/\orL ([Gc (.tup [t.d,X,Y]),Gc (.ref sr),Gc (.ref q),Gc d.d]++us) S=Gc (.nx,[Gc (.tup [t.d,X,Y]),Gc (.ref sr),Gc (.ref q),Gc d.d]++us',S')/\SAt S' sr l m as' (step t s d)/\OAt S' q M xs' (CD t M o d)/\q∉sr::l::m::as'/\(∀n∈as',n∈as\/S.length<=n)/\Bu (q::sr::l::m::as) S S':=by
 obtain⟨us',xs',S1,e0,e1,h1,s1⟩:=Zc (bk:=Gc (.tup [t.d,X,Y])) hus hS h oj hk hM hM2 hc
 have hS1:=hS.same s1 (λn hn=>by simp at hn;rw[hn];exact hq)
 obtain⟨S2,as',k1,k2,k3,k4⟩:=cF hS1 ht hs hk hc
 have h2:=h1.keep k3 hq hS1.lst
 have l1:=s1.len
 have hq':q∉sr::l::m::as':=by
  intro z
  simp only[nK]at z hq
  rcases z with z|z|z|z
  .exact hq (.inl z)
  .exact hq (.inr (.inl z))
  .exact hq (.inr (.inr (.inl z)))
  .rcases k4 _ z with w|w
   .exact hq (.inr (.inr (.inr w)))
   .have:=Aa h1.cell;lia
 refine⟨us',xs',S2,as',e0,?_,k2,h2,hq',λn hn=>(k4 n hn).imp id λw=>by lia,(s1.mono λn hn=>by simp at hn;simp[hn]).trans (k3.mono λn hn=>nC _ hn)⟩
 unfold orL
 rw[M9,e1,A4,Jl]
 simp[k1]
theorem RF{sr l m:Nat}{X Y:D}(ht:KY t)(hM2:M<=40){S0:Sto}:∀{ds:List AW} {s o:Stt} {k:Nat} {S:Sto} {as:List Nat} {xs:List D} {us:En} {a3:nB D},us.length=7->Ds t k s->SAt S sr l m as s->OAt S q M xs o->q∉sr::l::m::as->OJ t M k s o->KU t s ds->k+ds.length<=16->(runs t s ds).AE.length<=M->(∀n∈q::sr::l::m::as,S0.length<=n)->Bu [] S0 S->∃us' a3' xs' S',KR [] (tNm 3) orL (ds.map AW.d) ([Gc (.tup [t.d,X,Y]),Gc (.ref sr),Gc (.ref q),a3]++us) S=Gc (.nx,[Gc (.tup [t.d,X,Y]),Gc (.ref sr),Gc (.ref q),a3']++us',S')/\OAt S' q M xs' (Rt t M o ds)/\Bu [] S0 S'
 | [],s,o,k,S,as,xs,us,a3,_,_,_,h,_,_,_,_,_,_,hm=>⟨us,a3,xs,S,by rw[oy,GX Ae],h,hm⟩
 |d::ds,s,o,k,S,as,xs,us,a3,hus,hs,hS,h,hq,oj,hg,hk,hM,hn,hm=>by
  have hl:(d::ds).length=ds.length+1:=rfl
  have hr:=P9 oj.hd hM
  obtain⟨us1,xs1,S1,as1,c0,c1,c2,c3,c4,c5,c6⟩:=d6 (X:=X) (Y:=Y) ht hus hs hS h hq oj (by lia) hr hM2 hg.1
  have m1:Bu [] S0 S1:=Bu.new (A:=[]) hm c6 hn
  have n1:∀n∈q::sr::l::m::as1,S0.length<=n:=by
   intro n hz
   simp only[nK]at hz hn
   rcases hz with z|z|z|z|z
   .exact hn n (.inl z)
   .exact hn n (.inr (.inl z))
   .exact hn n (.inr (.inr (.inl z)))
   .exact hn n (.inr (.inr (.inr (.inl z))))
   .rcases c5 n z with w|w
    .exact hn n (.inr (.inr (.inr (.inr w))))
    .exact nL hm.len w
  obtain⟨us2,a32,xs2,S2,e2,h2,m2⟩:=RF ht hM2 (X:=X) (Y:=Y) (ds:=ds) (a3:=Gc d.d) c0 (N4 ht hs (by lia) hg.1) c2 c3 c4 (oj.step (by lia) hg.1 hr) hg.2 (by lia) hM n1 m1
  refine⟨us2,a32,xs2,S2,?_,h2,m2⟩
  have tn:tNm 3 d.d ([Gc (.tup [t.d,X,Y]),Gc (.ref sr),Gc (.ref q),a3]++us) S=Gc ([Gc (.tup [t.d,X,Y]),Gc (.ref sr),Gc (.ref q),Gc d.d]++us):=rfl
  rw[nR,D7 Ae,tn,A4,c1,A4,Jl,e2]
theorem L3(h:Cu t ls ds):∃q xs S',DU [CK t ls ds] S=Gc (.ref q,S')/\OAt S' q (manyN ls ds) xs (IB t ls ds)/\Bu [] S S'/\S.length<=q:=by
 have hd:=h.len
 have hl:ls.length<=4:=h.inv.len
 have mm:=IW h
 obtain⟨sr,l,m,as,S1,e1,hS,sm,hn⟩:=RC (S:=S) (t:=t) (ls:=ls) (x:=.tup (ds.map AW.d)) (by lia)
 have hS:SAt S1 sr l m as (st0 t ls):=hS
 have lt:=hS.lts
 have sz2:(2:Nat)<=sizeLine:=AQ (by decide)
 have c1:=Eh (gs:=[]) (t:=tNm 0) (f:=Uq [((eV 0),(CY [eC (.int 1),eC (.int 1)]))]) (C:=[]) (m:=1) (e:=λi:Nat=>D.int (0+(i:Int))) (g:=λi:Nat=>D.dct [(.inl (i:Int),.tup [.int 1,.int 1])]) (S:=S1) Ae (xs:=oF ls.length) (acc:=[]) (os:=[none]) rfl (nL (show _<=50 by simp;lia) (AQ (by decide))) (by
  intro i _ os ho
  obtain⟨o1,rfl⟩:=R4 ho
  have m1:J4 [] [((.inl (i:Int):Key),D.tup [.int 1,.int 1])]=[((.inl (i:Int):Key),D.tup [.int 1,.int 1])]:=rfl
  exact⟨[Gc (.int i)],by simp,by simp,by simp[sz2,m1]⟩)
 have rg:(oF ls.length).map (λi:Nat=>D.int (0+(i:Int)))=KS 0 ls.length:=by simp[KS]
 rw[rg]at c1
 simp only[oM]at c1
 have rn:Hy (ls.length:Int)=true:=Dp (by lia) (by lia)
 have oa:OAt (S1++[Cl.lst ((oF ls.length).map λi:Nat=>D.dct [(.inl (i:Int),.tup [.int 1,.int 1])])]) S1.length (manyN ls ds) ((oF ls.length).map λi:Nat=>D.dct [(.inl (i:Int),.tup [.int 1,.int 1])]) (MM (manyN ls ds) ls):=by
  refine⟨nY,by simp[MM],λi x e=>?_⟩
  have hi:i<ls.length:=by
   rcases wN i ls.length with w|w
   .exact w
   .rw[pO (by simpa using w)]at e;cases e
  rw[ng,xf hi]at e
  simp at e
  subst e
  refine⟨_,.inl rfl,?_⟩
  have:(AN (MM (manyN ls ds) ls).AE i).ow=Jz (manyN ls ds) i:=by
   unfold AN MM
   simp[nJ,hi]
  rw[this]
  exact DOk.one (by unfold manyN;lia)
 have hSa:=hS.Ri (S':=S1++[Cl.lst ((oF ls.length).map λi:Nat=>D.dct [(.inl (i:Int),.tup [.int 1,.int 1])])]) .app
 have qn:S1.length∉sr::l::m::as:=λz=>by have:=lt _ z;lia
 have lSq:=sm.len
 obtain⟨us,a3,xs,S2,e2,h2,m2⟩:=RF (M:=manyN ls ds) (X:=.tup (ls.map Ld.d)) (Y:=.tup (ds.map AW.d)) h.tr (by lia) (S0:=S) (us:=[none,none,none,none,none,none,none]) (a3:=none) rfl h.inv hSa oa qn (Kc h (by unfold manyN;lia)) h.good (by lia) (by rw[Ht];exact nG _) (λn hz=>by
  rcases nK.mp hz with z|z
  .lia
  .exact hn n z) (sm.trans .app)
 refine⟨S1.length,xs,S2,?_,h2,m2,lSq⟩
 have eb:JF=(Ag (Nm 1 2 (AM D9 [eV 0]) (JD [] 1 (Ly [eOp (o1 Gu) [eOp (o2 wIx) [eV 0,eC (.int 1)]]]) (tNm 0) DM (Uq [((eV 0),(CY [eC (.int 1),eC (.int 1)]))])))
  (Ag (Kn (IP (eOp (o2 wIx) [eV 0,eC (.int 2)])) (tNm 3) orL)
  (Bq (eV 2)))):=rfl
 unfold DU
 rw[eb]
 simp only[CK]at e1⊢
 simp only[pC,oM]at e2
 generalize ((oF ls.length).map λi:Nat=>D.dct [(.inl (i:Int),.tup [.int 1,.int 1])])=W at*
 simp[e1,rn,c1,e2]
end
end Mi
end
noncomputable section
namespace Mi
open PySem PySem.Spec L2
section
variable{S:Sto}
theorem ar{rs:List Rat}{G B K:Nat}(hG:0<G)(gK:G<2^K)(hK:2*K<=7990)(hr:∀r∈rs,Ok G B r)(hb:rs.length*B<2^K):F6 [.lst (rs.map aD)] S=Gc (aD rs.sum,S):=by
 obtain⟨o',e⟩:=Qj (F:=BM) (λS h1 h2 h3=>MD h1 h2 h3) (gs:=[]) (S:=S) Ae (X:=Gc (.lst (rs.map aD))) (B:=B) hG gK hK (rs:=rs) (acc:=0) (m:=0) (o:=none) (by rw[Nat.zero_mul];exact Ok.zero) hr (by simpa using hb)
 have ez:(0:Rat)+rs.sum=rs.sum:=by grind
 rw[ez,UX]at e
 simp[F6,O9,e]
end
end Mi
end
noncomputable section
namespace Mi
open PySem PySem.Spec L2 PyProof.Rows
section
variable{S:Sto}{t:Tr}{ls:List Ld}{ds:List AW}{k M q:Nat}{s o o':Stt}{d:AW}{xs:List D}
noncomputable def cL:AW->oO
 | .D6 .. =>true
 |_=>false
noncomputable def rts:Nat->List AW->List Nat
 |_,[]=>[]
 |n,d::ds=>if cL d=true then n::rts (n+1) ds else rts (if GR d=true then n+1 else n) ds
noncomputable def O5(ls:List Ld)(ds:List AW):List Nat:=oF ls.length++rts ls.length ds
noncomputable def R7:Nat->List (List Nat)->List Nat
 |_,[]=>[]
 |n,r::rs=>if r.isEmpty=true then n::R7 (n+1) rs else R7 (n+1) rs
theorem TV:∀{ds:List AW} {n:Nat},R7 n ((ds.filter GR).map OR)=rts n ds
 | [],n=>rfl
 |d::ds,n=>by
  have ih:= @TV ds
  cases d with
  |Fz a b=>
   have:(OR (.Fz a b)).isEmpty=false:=by show(if a<=b then [a,b]else [b,a]).isEmpty=false;split<;>rfl
   simp[qV,GR,R7,rts,cL,ih,this]
  |_=>simp[qV,GR,R7,rts,cL,ih,OR]
theorem Qa{rs:List (List Nat)}:∀{m n:Nat},R7 n (nX m []++rs)=(oF m).map (n+ ·)++R7 (n+m) rs
 |0,n=>by simp
 |m+1,n=>by
  rw[pS,pC,R7,nh (show([]:List Nat).isEmpty=true from rfl),Qa,uP,nR,oS,pC]
  congr 1
  .congr 2
   .funext i;simp;lia
   .lia
theorem TX:R7 0 (CU ls.length ds)=O5 ls ds:=by
 unfold CU O5
 rw[Qa,uF,TV]
 congr 1
 conv=>rhs;rw[<-List.map_id (oF ls.length)]
 apply rS;intro i _;simp
def Sup(R:List Nat)(o:Stt):Prop:=∀i r,r∉R->(AN o.AE i).ow.getD r 0=0
theorem Wl{a:List Rat}{r:Nat}(h:a.length<=r):a.getD r 0=0:=by
 rw[nJ,pO h];rfl
theorem QJ{n m:Int}{a b:List Rat}{r:Nat}(ha:a.getD r 0=0)(hb:b.getD r 0=0):(As n m a b).getD r 0=0:=by
 by_cases h:r<a.length/\r<b.length
 .rw[Hn h.1 h.2,ha,hb];grind
 .exact Wl (by unfold As;simp;lia)
theorem Mx{ls:List Ld}{y:Ld}{i r:Nat}{P:Rat->Prop}(h0:P 0)(h:∀i,P ((AN ls i).ow.getD r 0))(hy:P (y.ow.getD r 0)):P ((AN (ls++[y]) i).ow.getD r 0):=by
 rw[DN]
 split
 .exact h i
 .split
  .exact hy
  .exact h0
theorem Sup.step{R:List Nat}(h:Sup R o)(hb:cL d=true->o.AE.length∈R):Sup R (CD t M o d):=by
 intro i r hr
 cases d with
 |D6 p kd n=>
  show(AN (o.AE++[_]) i).ow.getD r 0=0
  refine Mx (P:=λx=>x=0) rfl (λi=>h i r hr) ?_
  show(Jz M o.AE.length).getD r 0=0
  rw[Lf,oE]
  rintro ⟨_,rfl⟩
  exact hr (hb rfl)
 |Fz a b=>
  show(AN (less (less o.AE a _) b _++[_]) i).ow.getD r 0=0
  refine Mx (P:=λx=>x=0) rfl (λi=>by rw[C3,C3];exact h i r hr) ?_
  exact QJ (h a r hr) (h b r hr)
 |swap l g kd n=>
  show(AN (less o.AE l g++[_]) i).ow.getD r 0=0
  exact Mx (P:=λx=>x=0) rfl (λi=>by rw[C3];exact h i r hr) (h l r hr)
 |Df u l g kd n=>
  show(AN (less o.AE l g++[_]) i).ow.getD r 0=0
  exact Mx (P:=λx=>x=0) rfl (λi=>by rw[C3];exact h i r hr) (h l r hr)
 |FZ l n=>show(AN (less o.AE l n) i).ow.getD r 0=0;rw[C3];exact h i r hr
 |thr l n ws=>show(AN (less o.AE l n) i).ow.getD r 0=0;rw[C3];exact h i r hr
 |Ii p p' x=>exact h i r hr
theorem UL:(CD t M o d).AE.length=if GR d=true then o.AE.length+1 else o.AE.length:=by
 cases d<;>simp[CD,G6,step,GR,Ap]
theorem Sup.runs{R:List Nat}:∀{ds:List AW} {o:Stt},Sup R o->(∀r∈rts o.AE.length ds,r∈R)->Sup R (Rt t M o ds)
 | [],o,h,_=>h
 |d::ds,o,h,hr=>by
  refine Sup.runs (ds:=ds) (h.step λhb=>hr _ (by unfold rts;rw[nh hb];exact nO)) λr hm=>hr r ?_
  rw[UL]at hm
  unfold rts
  split
  .rename_i hb
   have hmk:GR d=true:=by cases d<;>first|rfl|(simp[cL]at hb)
   rw[nh hmk]at hm
   exact nC _ hm
  .exact hm
theorem ZP:Sup (O5 ls ds) (IB t ls ds):=by
 refine Sup.runs (λi r hr=>?_) (λr hr=>?_)
 .by_cases hi:i<ls.length
  .have:(AN (MM (manyN ls ds) ls).AE i).ow=Jz (manyN ls ds) i:=by
    unfold AN MM
    simp[nJ,hi]
   rw[this,Lf,oE]
   rintro ⟨_,rfl⟩
   exact hr (sX _ (by simpa using hi))
  .have:AN (MM (manyN ls ds) ls).AE i=⟨0,0,[]⟩:=by
    unfold AN
    rw[nJ,pO (by simp[MM];lia)];rfl
   rw[this];rfl
 .have e:(MM (manyN ls ds) ls).AE.length=ls.length:=by simp[MM]
  rw[e]at hr
  exact oZ _ hr
theorem QL:∀{rs:List (List Nat)} {n r:Nat},r∈R7 n rs->∃i,r=n+i/\rs[i]?=Gc []
 | [],n,r,h=>by simp[R7]at h
 |x::rs,n,r,h=>by
  unfold R7 at h
  split at h
  .rename_i hx
   have hx:x=[]:=by simpa using hx
   rcases nK.mp h with z|z
   .exact⟨0,by lia,by simp[hx]⟩
   .obtain⟨i,h1,h2⟩:=QL z
    exact⟨i+1,by lia,by simpa using h2⟩
  .obtain⟨i,h1,h2⟩:=QL h
   exact⟨i+1,by lia,by simpa using h2⟩
theorem Xe{r:Nat}(h:r∈O5 ls ds):(CU ls.length ds)[r]?=Gc []:=by
 rw[<-TX]at h
 obtain⟨i,rfl,e⟩:=QL h
 rw[uF];exact e
noncomputable def OD(ow:List Rat):List Nat:=(oF ow.length).filter λr=>decide (0<ow.getD r 0)
noncomputable def orE(ow:List Rat)(r:Nat):D:=.tup [.int r,aD (ow.getD r 0)]
noncomputable def MI(ow:List Rat):List D:=(OD ow).map (orE ow)
theorem Q2{ow:List Rat}:(OD ow).Pairwise (· < ·):=List.Pairwise.filter _ uG
theorem Su{ow:List Rat}{ks:List Nat}:MH (ks.map (ent ow))=ks.map (orE ow):=by
 unfold MH
 rw[oS];rfl
theorem QU{ow:List Rat}:∀{ks:List Nat},Pj (ks.map (orE ow))=Gc (ks.map λ(n:Nat)=>(n:Int))
 | []=>rfl
 |r::ks=>by
  show(au (orE ow r)).bind (λk=>(Pj (ks.map (orE ow))).map (k:: ·))=_
  rw[QU];rfl
theorem U0{ks:List Nat}(h:ks.Nodup):(ks.map λ(n:Nat)=>(n:Int)).Nodup:=by
 rw[vJ,uL]
 exact(vJ.mp h).imp λh z=>h (by lia)
theorem Rr{es:List (Key×D)}{ow:List Rat}(h:DOk M es ow)(hl:ow.length=M)(hM:M<=40):Q8 (.val (.lst (MH es)))=Gc (.own (MI ow)):=by
 obtain⟨ks,rfl,h1,h2,h3,h4,h5⟩:=h
 rw[Su]
 show(Pj (ks.map (orE ow))).bind _=_
 rw[QU,A4,nh ⟨by simp;lia,U0 h4⟩]
 have pm:(OD ow).Perm ks:=by
  refine(List.perm_ext_iff_of_nodup (Q2.imp λh=>nV h) h4).mpr λr=>?_
  unfold OD
  rw[qM,tw,hl]
  constructor
  .rintro ⟨_,z⟩
   have z:0<ow.getD r 0:=nT z
   by_cases hr:r∈ks
   .exact hr
   .rw[h3 r hr]at z;exact absurd z (by decide)
  .intro hr
   exact⟨h2 r hr,pJ (h5 r hr)⟩
 have ez:(ks.map λ(n:Nat)=>(n:Int)).zip (ks.map (orE ow))=ks.map λ(r:Nat)=>((r:Int),orE ow r):=by rw[List.zip_map']
 rw[Mj (l:=(OD ow).map λ(r:Nat)=>((r:Int),orE ow r)) (U0 h4) (by rw[ez];exact pm.map _) (by rw[uL];exact Q2.imp λh=>by dsimp only;lia),oS]
 rfl
theorem YV:∀{ow:List Rat} {n:Nat},N6 n (ow.map aD)=(oF ow.length).map λi=>D.tup [.int ((n+i:Nat):Int),aD (ow.getD i 0)]
 | [],n=>rfl
 |a::ow,n=>by
  rw[nR,oT,uP,nR,oS]
  show D.tup [.int (n:Int),aD a]::N6 (n+1) (ow.map aD)=_
  rw[YV]
  congr 1
  refine rS λi _=>?_
  simp[Nat.add_assoc,wD 1]
theorem Th{r:Rat}:decide (r.num>0)=decide (0<r):=by
 have h1:= @xS r
 have h2:= @Rat.num_eq_zero r
 by_cases h:0<r
 .have a:=h1.mpr (uv h)
  have b:r.num≠0:=λz=>by rw[h2.mp z]at h;exact absurd h (by decide)
  rw[pJ h,pJ (by lia)]
 .rw[qE h,qE]
  intro z
  have a:=h1.mp (by lia)
  have b:r=0:=wc (Rat.not_lt.mp h) a
  rw[h2.mpr b]at z
  exact absurd z (by decide)
theorem Td{f:Nat->Rat}:∀{xs:List Nat},(∀x∈xs,0<=f x)->((xs.filter λx=>decide (0<f x)).map f).sum=(xs.map f).sum
 | [],_=>rfl
 |x::xs,h=>by
  have ih:=Td (f:=f) (xs:=xs) λy hy=>h y (nC _ hy)
  rw[qV]
  by_cases z:0<f x
  .rw[nh (pJ z),nR,nR,pB,pB,ih]
  .have h0:=h x nO
   have:f x=0:=by
    have:=Rat.not_lt.mp z
    exact wc this h0
   rw[oE (by simpa using z),nR,pB,ih,this]
   grind
theorem range_getD:∀{ow:List Rat},(oF ow.length).map (λr=>ow.getD r 0)=ow:=by
 intro ow
 apply rX
 .simp
 .intro i h1 h2;simp[h2]
end
end Mi
end
noncomputable section
namespace Mi
open PySem PySem.Spec L2 PyProof.Rows
@[simp] theorem iW{c:Bool}{f:Ev}{E:En}{S:Sto}:eLI c f E S=(f E S).bind λa=>(QF a.2 a.1).bind λes=>fin c (.own (MH es)) a.2:=nr rfl
section
variable{S:Sto}{t:Tr}{ls:List Ld}{ds:List AW}{k M q:Nat}{s o o':Stt}{d:AW}{xs:List D}
theorem orC{ow:List Rat}(hl:ow.length<=40):CI [] (tTp [tNm 0,tNm 1]) (eOp (o2 wGt) [eIx (eV 1) (eI 0),eI 0]) (CY [eV 0,eV 1]) (N6 0 (ow.map aD)) [] [none,none] S=Gc (MI ow,S):=by
 have sz2:(2:Nat)<=sizeLine:=AQ (by decide)
 have e:=Dd (gs:=[]) (t:=tTp [tNm 0,tNm 1]) (c:=eOp (o2 wGt) [eIx (eV 1) (eI 0),eI 0]) (f:=CY [eV 0,eV 1]) (C:=[]) (m:=2) (e:=orE ow) (g:=orE ow) (b:=λr=>decide (0<ow.getD r 0)) (S:=S) Ae (xs:=oF ow.length) (acc:=[]) (os:=[none,none]) rfl (nL (show _<=50 by simp;lia) (AQ (by decide))) (by
  intro r _ os ho
  obtain⟨q1,q2,rfl⟩:=aa ho
  refine⟨[Gc (.int r),Gc (aD (ow.getD r 0))],rfl,by simp[orE],?_,by simp[orE,sz2]⟩
  rw[<-Th]
  simp[aD])
 have e2:N6 0 (ow.map aD)=(oF ow.length).map (orE ow):=by
  rw[YV]
  exact rS λi _=>by simp[orE]
 rw[e2]
 rw[oM,oM]at e
 exact e
theorem Nu(h:Cu t ls ds):(IB t ls ds).AE.length=manyN ls ds:=by
 have:=(Qp h).hd.len
 rw[Ht]at this
 exact this.symm
theorem Ry{i:Nat}(h:Cu t ls ds)(hi:i<manyN ls ds):∃q S',Cy [CK t ls ds,.int i] S=Gc (.ref q,S')/\S'[q]?=Gc (.lst (MI (AN (IB t ls ds).AE i).ow))/\Bu [] S S'/\S.length<=q:=by
 have e1:=Of (S:=S) h
 have e2:=Qm (S:=S) h hi
 have mm:=IW h
 obtain⟨q,S1,e3,q1,s1,_⟩:=Lw (S:=S) h
 have hi2:i<(IB t ls ds).AE.length:=by rw[Nu h];exact hi
 have lo:(AN (IB t ls ds).AE i).ow.length=manyN ls ds:=(Qp h).inv.own _ (AR hi2)
 have dq:=Ah q1
 have at1:atI (owL (IB t ls ds)) (i:Int)=Gc (shD (AN (IB t ls ds).AE i).ow):=CT (by
  unfold owL
  rw[ng,Cq hi2];rfl)
 have oc:=orC (S:=S1) (ow:=(AN (IB t ls ds).AE i).ow) (by lia)
 have ls1:=s1.len
 refine⟨S1.length,S1++[.lst (MI (AN (IB t ls ds).AE i).ow)],?_,nY,s1.trans .app,ls1⟩
 generalize (AN (IB t ls ds).AE i).ow=OW at*
 generalize MI OW=DL at*
 simp only[CK]at e1 e2 e3⊢
 unfold shD at at1
 generalize OW.map aD=AD at*
 simp[Cy,IC,e1,e2,e3,dq,at1,oc]
theorem bO{ow:List Rat}{r:Nat}:(orE ow r).lay=true:=rfl
theorem TY{ow:List Rat}:(D.lst (MI ow)).lay=true:=Kp λ_ _=>bO
theorem eE{ow:List Rat}:EB (.lst (MI ow)) (.lst (MI ow))=true/\deq (.lst (MI ow)) (.lst (MI ow))=true:=by
 refine⟨LR TY (nL (dU (n:=4) ?_) (by decide)),Nn TY⟩
 intro d hd
 obtain⟨r,_,rfl⟩:=oR.mp hd
 refine bG (n:=3) ?_
 intro d hd
 simp at hd
 rcases hd with rfl|rfl
 .exact ZN
 .exact nL jv (by decide)
theorem QM{is:List Nat}:EB (.lst (BO is)) (.lst (BO is))=true/\deq (.lst (BO is)) (.lst (BO is))=true:=by
 have lay:(D.lst (BO is)).lay=true:=Kp λ_ _=>rfl
 refine⟨LR lay (nL (dU (n:=1) ?_) (by decide)),Nn lay⟩
 intro d hd
 obtain⟨r,_,rfl⟩:=oR.mp hd
 exact ZN
def trB:Ex:=(Ag (Nm 9 10 (AM FE [eV 3,eV 6]) (AM Cy [eV 3,eV 6]))
    (Ag (xIf (eOr (eOp (o2 wNe) [eV 9,eIx (eV 4) (eV 6)]) (eOp (o2 wNe) [eV 10,eV 7])) (Bq (eC (.bl false))) Ed)
    (Ag (Bp (G7 Hx (eV 9) [eI 0]))
    (Bp (G7 cS (eV 10) [])))))
theorem cu{i qr:Nat}(h:Cu t ls ds)(hi:i<manyN ls ds)(hr:S[qr]?=Gc (.lst ((CU ls.length ds).map nD))){e0 e1 e2 e5 e8 e9 e10:nB D}:∃f9 f10 S',trB [e0,e1,e2,Gc (CK t ls ds),Gc (.ref qr),e5,Gc (.int i),Gc (.lst (MI (AN (IB t ls ds).AE i).ow)),e8,e9,e10] S=Gc (.nx,[e0,e1,e2,Gc (CK t ls ds),Gc (.ref qr),e5,Gc (.int i),Gc (.lst (MI (AN (IB t ls ds).AE i).ow)),e8,f9,f10],S')/\Bu [] S S':=by
 obtain⟨q1,S1,c1,a1,s1,l1⟩:=RN (S:=S) h hi
 obtain⟨q2,S2,c2,a2,s2,l2⟩:=Ry (S:=S1) h hi
 have a1':=s2.get a1 (by simp)
 have hr1:=s1.get hr (by simp)
 have hr2:=s2.get hr1 (by simp)
 have hir:i<(CU ls.length ds).length:=by rw[Ln];exact hi
 have at1:atI ((CU ls.length ds).map nD) (i:Int)=Gc (.lst (BO ((CU ls.length ds).getD i []))):=CT (by simp[hir,nD])
 have d1:=Ah a1'
 have d2:=Ah a2
 have d3:=Ah hr2
 have⟨k1,k2⟩:=eE (ow:=(AN (IB t ls ds).AE i).ow)
 have⟨k3,k4⟩:=QM (is:=(CU ls.length ds).getD i [])
 have ne:q1≠q2:=λe=>by have:=Aa a1;lia
 have cl1:=AS a1'
 have rl:(BO ((CU ls.length ds).getD i [])).length<sizeLine:=nE (show _<3 by
  unfold BO
  rw[oG]
  have hm:(CU ls.length ds).getD i []∈CU ls.length ds:=by simp[hir]
  generalize (CU ls.length ds).getD i []=x at hm⊢
  unfold CU at hm
  rcases oC.mp hm with z|z
  .rw[(List.mem_replicate.mp z).2];decide
  .obtain⟨d,_,e⟩:=oR.mp z
   rw[<-e]
   cases d<;>simp[OR]
   split<;>simp) (AQ (by decide))
 have a2s:(S2.set q1 (.lst (BO ((CU ls.length ds).getD i [])++[D.int 0])))[q2]?=Gc (.lst (MI (AN (IB t ls ds).AE i).ow)):=by rw[nI ne];exact a2
 have cl2:=AS a2s
 refine⟨Gc (.ref q1),Gc (.ref q2),(S2.set q1 (.lst (BO ((CU ls.length ds).getD i [])++[D.int 0]))).set q2 (.lst []),?_,?_⟩
 .generalize BO ((CU ls.length ds).getD i [])=NR at*
  generalize MI (AN (IB t ls ds).AE i).ow=DL at*
  generalize (CU ls.length ds).map nD=RR at*
  generalize CK t ls ds=BK at*
  simp[trB,c1,c2,d1,d2,d3,at1,k1,k2,k3,k4,cl1,cl2,rl]
 .have sA:Bu [] S (S2.set q1 (.lst (BO ((CU ls.length ds).getD i [])++[D.int 0]))):=Bu.new (A:=[]) (B:=[q1]) (s1.trans s2) (.set (by simp)) (by simp;lia)
  have:=s1.len
  exact Bu.new (A:=[]) (B:=[q2]) sA (.set (by simp)) (by simp;lia)
end
end Mi
end
noncomputable section
namespace Mi
open PySem PySem.Spec L2 PyProof.Rows
section
variable{S:Sto}{t:Tr}{ls:List Ld}{ds:List AW}{k M q:Nat}{s o o':Stt}{d:AW}{xs:List D}
theorem VB{r d:Rat}(hg:0<d)(hz:0<=r*d):0<=r:=by
 rcases Rat.le_total (a:=0) (b:=r)with w|w
 .exact w
 .have:=Rat.mul_le_mul_of_nonneg_right w (uv hg)
  rw[Rat.zero_mul]at this
  have e0:=wc this hz
  have:r=0:=by grind
  rw[this]
  exact Rat.le_refl
theorem Ok.num{G B:Nat}{r:Rat}(hG:0<G)(h:Ok G B r):0<=r.num:=by
 obtain⟨z,e,_⟩:=h
 have hg:(0:Rat)<(G:Rat):=by exact_mod_cast hG
 have hz:(0:Rat)<=(z:Rat):=by exact_mod_cast pY z
 rw[xS]
 exact VB hg (by rw[e];exact hz)
theorem NS{ow:List Rat}:(OD ow).length<=ow.length:=by
 have:=qx (λr=>decide (0<ow.getD r 0)) (oF ow.length)
 unfold OD;simpa using this
theorem shC{ow:List Rat}(hl:ow.length<=40):CI [] (tTp [tNm 0,tNm 1]) DM (eV 1) (MI ow) [] [none,none] S=Gc (((OD ow).map λr=>ow.getD r 0).map aD,S):=by
 have:=NS (ow:=ow)
 have e:=Eh (gs:=[]) (t:=tTp [tNm 0,tNm 1]) (f:=eV 1) (C:=[]) (m:=2) (e:=orE ow) (g:=λr=>aD (ow.getD r 0)) (S:=S) Ae (xs:=OD ow) (acc:=[]) (os:=[none,none]) rfl (nL (show _<=50 by simp;lia) (AQ (by decide))) (by
  intro r _ os ho
  obtain⟨q1,q2,rfl⟩:=aa ho
  exact⟨[Gc (.int r),Gc (aD (ow.getD r 0))],by simp[orE],by simp[orE],by simp⟩)
 rw[oM,oM]at e
 rw[oS]
 exact e
theorem jO{ow:List Rat}{qr:Nat}(hr:S[qr]?=Gc (.lst ((CU ls.length ds).map nD)))(hl:ow.length<=40)(h:∀r∈OD ow,(CU ls.length ds)[r]?=Gc []):CI [] (tTp [tNm 1,tNm 2]) (eOr (eOp (o2 wNe) [eIx (eV 0) (eV 1),G8 []]) (eOp (o2 wEq) [eIx (eV 2) (eI 0),eI 0])) (eV 1) (MI ow) [] [Gc (.ref qr),none,none] S=Gc ([],S):=by
 have:=NS (ow:=ow)
 have dq:=Ah hr
 have⟨k3,k4⟩:=QM (is:=[])
 unfold BO at k3 k4
 rw[oy]at k3 k4
 have e:=Dd (gs:=[]) (t:=tTp [tNm 1,tNm 2]) (c:=eOr (eOp (o2 wNe) [eIx (eV 0) (eV 1),G8 []]) (eOp (o2 wEq) [eIx (eV 2) (eI 0),eI 0])) (f:=eV 1) (C:=[Gc (.ref qr)]) (m:=2) (e:=orE ow) (g:=λr=>D.int (r:Nat)) (b:=λ_=>false) (S:=S) Ae (xs:=OD ow) (acc:=[]) (os:=[none,none]) rfl (nL (show _<=50 by simp;lia) (AQ (by decide))) (by
  intro r hm os ho
  obtain⟨q1,q2,rfl⟩:=aa ho
  refine⟨[Gc (.int r),Gc (aD (ow.getD r 0))],rfl,by simp[orE],?_,by simp⟩
  have at1:atI ((CU ls.length ds).map nD) (r:Int)=Gc (.lst []):=CT (by
   rw[ng,h r hm];rfl)
  have np:0<ow.getD r 0:=by
   have:=(qM.mp hm).2
   exact nT this
  have nz:((ow.getD r 0).num==0)=false:=by
   have:= @Th (ow.getD r 0)
   rw[pJ np]at this
   have:=nT this
   simp only[tJ,ne_eq];lia
  generalize (CU ls.length ds).map nD=RR at*
  generalize ow.getD r 0=W at*
  simp[dq,at1,k3,k4,aD,nz])
 have ef:(OD ow).filter (λ_=>false)=[]:=by simp
 rw[oM,ef,oy]at e
 exact e
theorem Z7{i:Nat}(h:Cu t ls ds)(hi:i<manyN ls ds):F6 [.lst (((OD (AN (IB t ls ds).AE i).ow).map λr=>(AN (IB t ls ds).AE i).ow.getD r 0).map aD)] S=Gc (aD 1,S):=by
 have hi2:i<(IB t ls ds).AE.length:=by rw[Nu h];exact hi
 have mm:=IW h
 have oj:=Qp h
 have lo:(AN (IB t ls ds).AE i).ow.length=manyN ls ds:=oj.inv.own _ (AR hi2)
 have on:=oj.ones _ (AR hi2)
 obtain⟨G,B,g0,g1,g2,hl,hh⟩:=oj.inv.gb
 have hd:=h.len
 have ok:=hl _ (AR hi2)
 generalize (AN (IB t ls ds).AE i).ow=ow at*
 have nn:∀r∈oF ow.length,0<=ow.getD r 0:=λr hr=>by
  have hr:r<ow.length:=by simpa using hr
  have:=ok _ (getD_mem (d:=0) hr)
  exact xS.mp (Ok.num g0 this)
 have es:((OD ow).map λr=>ow.getD r 0).sum=1:=by
  unfold OD
  rw[Td nn,range_getD,on]
 have pl:=NS (ow:=ow)
 have b2:B<2^2750:=nE g2 (FQ (by lia))
 have e:=ar (S:=S) (rs:=(OD ow).map λr=>ow.getD r 0) (G:=G) (B:=B) (K:=2760) g0 (pM g1 (nE b2 (FQ (by decide)))) (by decide) (λr hr=>by
  obtain⟨x,hx,rfl⟩:=oR.mp hr
  have hx:x<ow.length:=by simpa using(qM.mp hx).1
  exact ok _ (getD_mem (d:=0) hx)) (by
  rw[oG]
  have h1:(OD ow).length*B<=20*B:=pK _ (by lia)
  have h2:20*B<20*2^2750:=by lia
  have h3:20*2^2750<=2^2760:=by decide
  exact pM h1 (nE h2 h3))
 rw[es]at e
 exact e
def ldB:Ex:=(Ag (CC 7 (eOp (o1 Q8) [eLI false (eIx (eV 5) (eV 6))]))
    (Ag (Kn (Ly [eI 2]) (tNm 8) trB)
    (Ag (xIf (eOp (o2 wNe) [AM F6 [FK [] 2 (IP (eV 7)) (tTp [tNm 0,tNm 1]) DM (eV 1)],CY [eI 1,eI 1]]) (Bq (eC (.bl false))) Ed)
    (xIf (eOp (o2 wNe) [FK [4] 2 (IP (eV 7)) (tTp [tNm 1,tNm 2]) (eOr (eOp (o2 wNe) [eIx (eV 0) (eV 1),G8 []]) (eOp (o2 wEq) [eIx (eV 2) (eI 0),eI 0])) (eV 1),G8 []]) (Bq (eC (.bl false))) Ed))))
theorem cC{i qr qs:Nat}(h:Cu t ls ds)(hi:i<manyN ls ds)(hr:S[qr]?=Gc (.lst ((CU ls.length ds).map nD)))(ho:OAt S qs (manyN ls ds) xs (IB t ls ds)){e0 e1 e2 e7 e8 e9 e10:nB D}:∃f7 f8 f9 f10 S',ldB [e0,e1,e2,Gc (CK t ls ds),Gc (.ref qr),Gc (.ref qs),Gc (.int i),e7,e8,e9,e10] S=Gc (.nx,[e0,e1,e2,Gc (CK t ls ds),Gc (.ref qr),Gc (.ref qs),Gc (.int i),f7,f8,f9,f10],S')/\Bu [] S S':=by
 have hi2:i<(IB t ls ds).AE.length:=by rw[Nu h];exact hi
 have mm:=IW h
 have oj:=Qp h
 have lo:(AN (IB t ls ds).AE i).ow.length=manyN ls ds:=oj.inv.own _ (AR hi2)
 obtain⟨x,es,x1,x2,x3,x4⟩:=ho.get hi2
 have w1:=Rr x4 lo (by lia)
 have dx:=x3.dd
 have dqs:=Ah ho.cell
 obtain⟨E',S1,ef,f8,f9,f10,rfl,s1⟩:=HF (gs:=[]) (t:=tNm 8) (b:=trB)
  (I:=λrs E S'=>∃f8 f9 f10,E=[e0,e1,e2,Gc (CK t ls ds),Gc (.ref qr),Gc (.ref qs),Gc (.int i),Gc (.lst (MI (AN (IB t ls ds).AE i).ow)),f8,f9,f10]/\Bu [] S S')
  (λ_ _ _ _=>Ae) (ds:=KS 0 (2:Nat)) (E:=[e0,e1,e2,Gc (CK t ls ds),Gc (.ref qr),Gc (.ref qs),Gc (.int i),Gc (.lst (MI (AN (IB t ls ds).AE i).ow)),e8,e9,e10]) (S:=S)
  ⟨e8,e9,e10,rfl,.refl⟩ (by
    rintro dd rs E T ⟨f8,f9,f10,rfl,sT⟩
    obtain⟨g9,g10,T',e,sT'⟩:=cu (S:=T) h hi (sT.get hr (by simp)) (e0:=e0) (e1:=e1) (e2:=e2) (e5:=Gc (.ref qs)) (e8:=Gc dd) (e9:=f9) (e10:=f10)
    exact⟨_,_,T',by simp,e,Gc dd,g9,g10,rfl,sT.trans sT'⟩)
 have c1:=shC (S:=S1) (ow:=(AN (IB t ls ds).AE i).ow) (by lia)
 have c2:=Z7 (S:=S1) h hi
 have c3:=jO (S:=S1) (ow:=(AN (IB t ls ds).AE i).ow) (s1.get hr (by simp)) (by lia) (λr hm=>by
  refine Xe ?_
  by_cases z:r∈O5 ls ds
  .exact z
  .have z0:=ZP (t:=t) i r z
   have np:0<(AN (IB t ls ds).AE i).ow.getD r 0:=nT (qM.mp hm).2
   rw[z0]at np
   exact absurd np (by decide))
 have⟨k3,k4⟩:=QM (is:=[])
 unfold BO at k3 k4
 rw[oy]at k3 k4
 have k5:EB (aD 1) (aD 1)=true:=LR Ys (nL jv (by decide))
 have k6:deq (aD 1) (aD 1)=true:=Nn Ys
 rw[Tq]at k5 k6 c2
 have sz2:(2:Nat)<=sizeLine:=AQ (by decide)
 have rn:Hy (2:Int)=true:=by decide
 refine⟨Gc (.lst (MI (AN (IB t ls ds).AE i).ow)),f8,f9,f10,S1,?_,s1⟩
 generalize (AN (IB t ls ds).AE i).ow=OW at*
 generalize ((OD OW).map λr=>OW.getD r 0).map aD=SH at*
 generalize MI OW=DL at*
 generalize CK t ls ds=BK at*
 simp[ldB,dqs,x2,dx,w1,rn,ef,c1,c2,c3,k3,k4,k5,k6,sz2]
def fM:Ex:=(Ag (CC 2 (AM HP [AM Cr [eV 0,eV 1]]))
    (Ag (CC 3 (AM Ep [eV 2,eI 16]))
    (Ag (P7 (tTp [tNm 4,tNm 5]) (CY [AM Dj [eV 3],AM DU [eV 3]]))
    (Kn (Ly [eOp (o1 Gu) [eV 4]]) (tNm 6) ldB))))
theorem cj{ns:List Int}{k:Nat}{us:En}(hu:us.length=9):∃us' S',us'.length=9/\fM ([Gc (.scr ns),Gc (.int k)]++us) S=Gc (.nx,[Gc (.scr ns),Gc (.int k)]++us',S'):=by
 obtain⟨u2,u3,u4,u5,u6,u7,u8,u9,u10,rfl⟩:∃a b c d e f g h i,us=[a,b,c,d,e,f,g,h,i]:=by
  match us,hu with
  | [a,b,c,d,e,f,g,h,i],_=>exact⟨a,b,c,d,e,f,g,h,i,rfl⟩
 obtain⟨c,e0⟩:=Zw (S:=S) (ns:=ns) (k:=k)
 obtain⟨p,S1,e1,hp,_,_⟩:=cU (S:=S) c
 obtain⟨t,ls,ds,S2,e2,⟨hb,_⟩,⟨h1,_⟩,_⟩:=ZS (M:=16) (by decide) hp
 rw[show((16:Nat):Int)=16 from rfl]at e2
 obtain⟨qr,S3,e3,q3,s3,_⟩:=Rm (S:=S2) hb
 obtain⟨qs,xs,S4,e4,o4,s4,_⟩:=L3 (S:=S3) hb
 have q4:=s4.get q3 (by simp)
 have mm:=IW hb
 obtain⟨E',S5,ef,f6,f7,f8,f9,f10,_,rfl,s5⟩:=HF (gs:=[]) (t:=tNm 6) (b:=ldB)
  (I:=λrs E S'=>∃f6 f7 f8 f9 f10,(∀d∈rs,∃i:Nat,d=.int i/\i<manyN ls ds)/\E=[Gc (.scr ns),Gc (.int k),Gc (.ref p),Gc (CK t ls ds),Gc (.ref qr),Gc (.ref qs),f6,f7,f8,f9,f10]/\Bu [] S4 S')
  (λ_ _ _ _=>Ae) (ds:=KS 0 (manyN ls ds)) (E:=[Gc (.scr ns),Gc (.int k),Gc (.ref p),Gc (CK t ls ds),Gc (.ref qr),Gc (.ref qs),u6,u7,u8,u9,u10]) (S:=S4)
  ⟨u6,u7,u8,u9,u10,(by
    intro d hd
    obtain⟨i,hi,rfl⟩:=oR.mp hd
    exact⟨i,by simp,by simpa using hi⟩),rfl,.refl⟩ (by
    rintro dd rs E T ⟨f6,f7,f8,f9,f10,hd,rfl,sT⟩
    obtain⟨i,rfl,hi⟩:=hd dd nO
    obtain⟨g7,g8,g9,g10,T',e,sT'⟩:=cC (S:=T) hb hi (sT.get q4 (by simp)) (o4.keep sT (by simp) (λ_ z=>nomatch z)) (e0:=Gc (.scr ns)) (e1:=Gc (.int k)) (e2:=Gc (.ref p)) (e7:=f7) (e8:=f8) (e9:=f9) (e10:=f10)
    exact⟨_,_,T',by simp,e,Gc (.int i),g7,g8,g9,g10,λd hd'=>hd d (nC _ hd'),rfl,sT.trans sT'⟩)
 refine⟨[Gc (.ref p),Gc (CK t ls ds),Gc (.ref qr),Gc (.ref qs),f6,f7,f8,f9,f10],S5,rfl,?_⟩
 have dq:=Ah q4
 have sz2:(2:Nat)<=sizeLine:=AQ (by decide)
 have rl:((CU ls.length ds).map nD).length=manyN ls ds:=by rw[oG,Ln]
 have rn:Hy (manyN ls ds:Int)=true:=Dp (by lia) (by lia)
 generalize (CU ls.length ds).map nD=RR at*
 generalize CK t ls ds=BK at*
 simp only[pC,oM]
 simp[fM,e0,e1,e2,e3,e4,dq,sz2,rl,rn,ef]
theorem dR(ns:List Int)(h:ns.length<=63):∃S',Nk [.scr ns] S=Gc (.bl true,S'):=by
 obtain⟨n,hn,hn2⟩:∃n:Nat,(if(if(3:Int)<ns.length then(3:Int)else ns.length)>1 then(if(3:Int)<ns.length then(3:Int)else ns.length)else 1)=(n:Int)/\n<=3:=by
  refine⟨(if(if(3:Int)<ns.length then(3:Int)else ns.length)>1 then(if(3:Int)<ns.length then(3:Int)else ns.length)else 1).toNat,?_,?_⟩
  .split<;>split<;>lia
  .split<;>split<;>lia
 have rn:Hy (n:Int)=true:=Dp (by lia) (by lia)
 obtain⟨E',S',ef,q1,us,_,_,rfl⟩:=HF (gs:=[]) (t:=tNm 1) (b:=fM)
  (I:=λrs E S'=>∃(o1:nB D) (us:En),(∀d∈rs,∃k:Nat,d=.int k)/\us.length=9/\E=[Gc (.scr ns),o1]++us)
  (λ_ _ _ _=>Ae) (ds:=KS 0 n) (E:=[Gc (.scr ns),none,none,none,none,none,none,none,none,none,none]) (S:=S)
  ⟨none,[none,none,none,none,none,none,none,none,none],by
    intro d hd
    obtain⟨k,_,rfl⟩:=oR.mp hd
    exact⟨k,by simp⟩,rfl,rfl⟩ (by
    rintro dd rs E T ⟨o1,us,i1,i2,rfl⟩
    obtain⟨k,rfl⟩:=i1 dd nO
    obtain⟨us',T2,l2,e⟩:=cj (S:=T) (ns:=ns) (k:=k) i2
    exact⟨_,_,T2,by simp,e,Gc (.int k),us',λd hd=>i1 d (nC _ hd),l2,rfl⟩)
 refine⟨S',?_⟩
 have eb:SU=Ag (Kn (Ly [eOp (o2 gP) [eI 1,eOp (o2 az) [eOp (o1 Gu) [eV 0],eI 3]]]) (tNm 1) fM) (Bq (eC (.bl true))):=rfl
 unfold Nk
 rw[eb]
 simp[hn,rn,ef]
end
end Mi
end
noncomputable section
namespace Mi
open PySem PySem.Spec L2
open PyProof.Rows (boot_isinstance boot_int boot_bool boot_tuple boot_str boot_list boot_abs boot_all boot_any boot_sum boot_max boot_min boot_range boot_enumerate boot_zip boot_sorted boot_set boot_divmod)
structure All(w:oN)(K:mx)(mg:Str->nB mz):Prop where
 bt:Bts mg
 QP:RZ K mg "ALL" TR
 Cp:RZ K mg "MAKERS" BP
 E8:RZ K mg "NOTHING" Hj
 EW:St.Src K mg "is_whole" EW
 FC:St.Src K mg "is_from" FC
 DZ:St.Src K mg "is_within" DZ
 Be:St.Src K mg "greatest_divisor" Be
 GL:St.Src K mg "lowest" GL
 HX:St.Src K mg "mixed" HX
 Ct:St.Src K mg "has_pieces" Ct
 EU:St.Src K mg "can_pool" EU
 EF:St.Src K mg "can_swap" EF
 Dz:St.Src K mg "can_do" Dz
 CN:St.Src K mg "held_without" CN
 CZ:St.Src K mg "held_behind" CZ
 BJ:St.Src K mg "held_at_first" BJ
 DP:St.Src K mg "made_from" DP
 CM:St.Src K mg "made_from" CM
 Cd:St.Src K mg "first_wrong" Cd
 B6:St.Src K mg "refuse_undone" B6
 B3:St.Src K mg "many_loads" B3
 Bv:St.Src K mg "refuse_no_load" Bv
 Bz:St.Src K mg "all_to_one" Bz
 Ba:St.Src K mg "mixed_shares" Ba
 Cc:St.Src K mg "made_shares" Cc
 BC:St.Src K mg "all_sources" BC
 Bl:St.Src K mg "all_origins" Bl
 FN:St.Src K mg "made_of" FN
 B2:St.Src K mg "origins_of" B2
 DO:St.Src K mg "_law_cell_at" DO
 HW:St.Src K mg "_law_pen" HW
 F8:St.Src K mg "_law_draw" F8
 EN:St.Src K mg "_law_common" EN
 GJ:St.Src K mg "_law_made" GJ
 F5:St.Src K mg "_law_plus" F5
 FD:St.Src K mg "_law_times" FD
 GF:St.Src K mg "_law_less" GF
 HQ:St.Src K mg "_law_sum" HQ
 CJ:St.Src K mg "_law_whole" CJ
 EM:St.Src K mg "_law_pieces" EM
 FP:St.Src K mg "_law_train" FP
 E7:St.Src K mg "_law_first" E7
 FI:St.Src K mg "_law_share" FI
 Cm:St.Src K mg "_law_worths" Cm
 C5:St.Src K mg "_law_begun" C5
 EH:St.Src K mg "_law_pooled" EH
 Dw:St.Src K mg "_law_cost" Dw
 FL:St.Src K mg "_law_borne" FL
 GO:St.Src K mg "_law_sold" GO
 GB:St.Src K mg "_law_turn" GB
 GS:St.Src K mg "_law_do" GS
 B5:St.Src K mg "_law_deed" B5
 Dy:St.Src K mg "_law_book" Dy
 CG:St.Src K mg "_law_parents" CG
 CF:St.Src K mg "_law_origins" CF
 Fy:St.Src K mg "law" Fy
section
variable{P:nq}{w:oN}{K:mx}{mg:Str->nB mz}{base:oQ}
theorem Wg{f:nH}{fd:qd}(F:Fun K "law" "law" Fy f fd)(B:Bts mg)(FX:Lj P w K mg base)(Cw:ID P w K mg base)(Dk:Iz P w K mg base)(He:Oi P w K mg base)(HY:O7 P w K mg base)(GP:Mg P w K mg base)(DY:Ir P w K mg base)(DQ:JR P w K mg base):OM P w K mg base CX0 9 f fd ["_law_script"] (spD K 1 Nk):=by
 refine bV (k:=8) F EC rfl λcdv A outer s H E hr=>?_
 have hu:=Ud hr
 exact(AH (FU om rfl (Eb rfl B.range (AA (Al (U1 rfl) rfl B.max boot_max (AA AG (AA (Al (Ou rfl) rfl B.min boot_min (AA (Al BQ rfl B.len qe (AA (AB 0) AF)) (AA AG AF))) AF))) AF)) (Ar 1 EC.nd) (AH (Au 2 (deM He hr (AA (deM Dk hr (AA (AB 0) (AA (AB 1) AF))) AF)) EC.nd)
      (AH (Au 3 (deM GP hr (AA (AB 2) (AA AG AF))) EC.nd)
      (AH (IM (A8 (AA (deM DY hr (AA (AB 3) AF)) (AA (deM DQ hr (AA (AB 3) AF)) AF))) (Gf rfl (AV (Ar 4 EC.nd) (AV (Ar 5 EC.nd) CH))))
      (AI (FU om rfl (Eb rfl B.range (AA (Al BQ rfl B.len qe (AA (AB 4) AF)) AF)) (Ar 6 EC.nd) (AH (Au 7 (Al (Rf rfl) rfl B.sorted vW (AA (gm rfl rfl B.list (AL AZ (AB 5) (AB 6)) ⟨rfl,rfl⟩) AF)) EC.nd)
      (AH (FU om rfl (Eb rfl B.range (AA AG AF)) (Ar 8 EC.nd) (AH (Hb (i:=9) (j:=10) rfl EC.nd rfl rfl (by decide) rfl rfl (deM FX hr (AA (AB 3) (AA (AB 6) AF))) (deM Cw hr (AA (AB 3) (AA (AB 6) AF))))
      (AH (By (DW.dt (Xx (Ad (HK hu) (AB 9) (AL AZ (AB 4) (AB 6))) (Qb (Ad (HK hu) (AB 10) (AB 7))))) (AI (AX Ui)) Az)
      (AH (Bb (EL ny oB Cs (AB 9) (AA AG AF)))
      (AI (Bb (Zr w9 PySem.F.type_list_clear Zs (AB 10))))))))
      (AH (By (Ad (HK hu) (deM HY hr (AA (Ca [] 2 ["_law_root","_law_share_here"] rfl RM (DB (AB 7)) (λs H fp=>⟨Gf rfl (AV (Ar 0 MJ) (AV (Ar 1 MJ) CH)),DV,AB 1⟩)) AF)) (A8 (AA AG (AA AG AF)))) (AI (AX Ui)) Az)
      (AI (By (Ad (HK hu) (Ca [4] 2 ["_law_rows","_law_root","_law_share_here"] rfl RK (DB (AB 7)) (λs H fp=>⟨Gf rfl (AV (Ar 1 MV) (AV (Ar 2 MV) CH)),Gh (DW.dt (Xx (Ad (HK hu) (AL AZ (AB 0) (AB 1)) (BW AF)) (Qb (Ad (Bm hu) (AL AZ (AB 2) AG) AG)))),AB 1⟩)) (BW AF)) (AI (AX Ui)) Az)))))))))))
      (AI (AX Ui)))
theorem bQ{f:nH}{fd:qd}(F:Fun K "law" "law" Fy f fd)(T:All w K mg):OM P w K mg base CX0 9 f fd ["_law_script"] (spD K 1 Nk):=by
 have B:=T.bt
 have QP:=T.QP
 have Cp:=T.Cp
 have E8:=T.E8
 have EX:=EX (P:=P) (w:=w) (base:=base) T.EW B
 have FA:=FA (P:=P) (w:=w) (base:=base) T.FC EX
 have Dc:=Dc (P:=P) (w:=w) (base:=base) T.DZ FA
 have Bd:=Bd (P:=P) (w:=w) (base:=base) T.Be B
 have GI:=GI (P:=P) (w:=w) (base:=base) T.GL Bd
 have HS:=HS (P:=P) (w:=w) (base:=base) T.HX GI
 have Ax:=Ax (P:=P) (w:=w) (base:=base) T.Ct B
 have EV:=EV (P:=P) (w:=w) (base:=base) T.EU Ax
 have DF:=DF (P:=P) (w:=w) (base:=base) T.EF Ax
 have F7:=F7 (P:=P) (w:=w) (base:=base) T.Dz Ax EV DF
 have BF:=BF (P:=P) (w:=w) (base:=base) T.CN
 have BS:=BS (P:=P) (w:=w) (base:=base) T.CZ BF
 have A9:=A9 (P:=P) (w:=w) (base:=base) T.BJ
 have De:=De (P:=P) (w:=w) (base:=base) T.DP B
 have CP:=CP (P:=P) (w:=w) (base:=base) T.CM B
 have Cb:=Cb (P:=P) (w:=w) (base:=base) T.Cd B F7 BS A9
 have BA:=BA (P:=P) (w:=w) (base:=base) T.B6 Cb
 have Bg:=Bg (P:=P) (w:=w) (base:=base) T.B3 B Cp
 have A1:=A1 (P:=P) (w:=w) (base:=base) T.Bv B Dc Bg
 have CS:=CS (P:=P) (w:=w) (base:=base) T.Bz B QP E8
 have CL:=CL (P:=P) (w:=w) (base:=base) T.Ba B HS
 have Cg:=Cg (P:=P) (w:=w) (base:=base) T.Cc B De CL
 have Cf:=Cf (P:=P) (w:=w) (base:=base) T.BC Cp CP
 have Ce:=Ce (P:=P) (w:=w) (base:=base) T.Bl B Cp BS A9 Bg CS Cg
 have FX:=FX (P:=P) (w:=w) (base:=base) T.FN BA A1 Cf
 have Cw:=Cw (P:=P) (w:=w) (base:=base) T.B2 B BA A1 Ce
 have Dk:=Dk (P:=P) (w:=w) (base:=base) T.DO B
 have He:=He (P:=P) (w:=w) (base:=base) T.HW B
 have AO:=AO (P:=P) (w:=w) (base:=base) T.F8
 have EE:=EE (P:=P) (w:=w) (base:=base) T.EN
 have Ak:=Ak (P:=P) (w:=w) (base:=base) T.GJ B EE
 have Av:=Av (P:=P) (w:=w) (base:=base) T.F5 Ak
 have Ao:=Ao (P:=P) (w:=w) (base:=base) T.FD Ak
 have C8:=C8 (P:=P) (w:=w) (base:=base) T.GF Av
 have HY:=HY (P:=P) (w:=w) (base:=base) T.HQ Av
 have CW:=CW (P:=P) (w:=w) (base:=base) T.CJ B AO Ak
 have Bh:=Bh (P:=P) (w:=w) (base:=base) T.EM AO
 have FR:=FR (P:=P) (w:=w) (base:=base) T.FP AO CW
 have Ey:=Ey (P:=P) (w:=w) (base:=base) T.E7 B AO CW Bh
 have FO:=FO (P:=P) (w:=w) (base:=base) T.FI AO Ak
 have ET:=ET (P:=P) (w:=w) (base:=base) T.Cm B AO
 have Cj:=Cj (P:=P) (w:=w) (base:=base) T.C5 B
 have EK:=EK (P:=P) (w:=w) (base:=base) T.EH B Ak Av Ao
 have F4:=F4 (P:=P) (w:=w) (base:=base) T.Dw B Ak
 have D4:=D4 (P:=P) (w:=w) (base:=base) T.FL B Av Ao C8
 have Ew:=Ew (P:=P) (w:=w) (base:=base) T.GO B Av Ao C8
 have GH:=GH (P:=P) (w:=w) (base:=base) T.GB F4 D4 Ew
 have Fq:=Fq (P:=P) (w:=w) (base:=base) T.GS B EK GH
 have F0:=F0 (P:=P) (w:=w) (base:=base) T.B5 B AO Bh FO ET
 have GP:=GP (P:=P) (w:=w) (base:=base) T.Dy B AO FR Ey Cj Fq F0
 have DY:=DY (P:=P) (w:=w) (base:=base) T.CG B
 have DQ:=DQ (P:=P) (w:=w) (base:=base) T.CF B Ak Av Ao Cj Fq
 exact Wg (P:=P) (w:=w) (base:=base) F B FX Cw Dk He HY GP DY DQ
theorem cW{l:ua}{fa:nH}(hfa:mg "law"=Gc (.ref fa))(T:All w K mg):∃fd:qd,(∀(s:m8) (v:mz),yP s fd ⟨[v],[]⟩ [("_law_script",v)])/\∀base:oQ,K.In base->base.Ns mainGlobals mg->OM l.prog w K mg base CX0 9 fa fd ["_law_script"] (aE K):=by
 obtain⟨f,fd,F,hm⟩:=T.Fy.ex
 have e:=hfa.symm.trans hm
 cases e
 refine⟨fd,λs v=>?_,λbase _ _=>?_⟩
 .obtain⟨oc,od,kV,doc,pm,an,cdv,ct,osl,hfd,_⟩:=F.ex
  subst hfd
  exact .of_eq rfl
 .exact cQ (bQ (P:=l.prog) (w:=w) (base:=base) F T) λns hl=>dR ns hl
end
theorem walk{l:ua}{q:nq}{loose:List Str}{XP:(Str->nB mz)->oQ->Prop}{YP:oN->oQ->Prop}{d:DefRec}{K:Params->mx}(hn:l.most=Gc 63)(hdf:d.params.defaults=[])(hY:∀(w:oN) (h:oQ),YP w h->(K w.params).In h)(hd:d.name="law")(F:∀(w:oN) (mg:Str->nB mz) (h:oQ),(K w.params).In h->h.Ns mainGlobals mg->All w (K w.params) mg):zy q loose XP YP l.row.toRowW d [] (λf vs=>PySem.call f vs):=
 L2.Y2 (n:=63) (k:=9) (x:="_law_script") (CX:=λ_=>CX0) (sp:=λw=>aE (K w.params)) hn (by decide) hdf ⟨rfl,by decide,by decide⟩ hY (λw mg fa h KX G hmg=>cW (by rw[<-hd];exact hmg) (F w mg h KX G)) (λ_ _ a ns hl _ hS=>⟨a,ns,rfl,hS,hl,λ_=>rfl⟩) λ_ _ _ _ _ z=>z
end Mi
end
noncomputable section
namespace PySem.W.Fast
def tw13583263273091061768:=0
def tw13387874891366237530:=0
def tw6120007525320672255:=0
def tw4312079075216444001:=0
def tw6069165842808851807:=0
def tw2663979572616761033:=0
def tw1867951303915648357:=0
def tw15200573897445495620:=0
def tw9303044227063876474:=0
def tw3311969899351637506:=0
def tw6755627655119657420:=0
def tw6230002815427329008:=0
def tw6726836747730219847:=0
def tw6429130060862040130:=0
def tw13188429305498977412:=0
def tw4573416048234695800:=0
def tw16372849415006090458:=0
def tw14697879252800506580:=0
def tw2207847483164106792:=0
def tw10366972922929262200:=0
def tw10272485695146242015:=0
def tw16339441115456178947:=0
def tw3631612776563953455:=0
def tw14577289462618172520:=0
def tw278298020130657840:=0
def tw2660226566168727771:=0
def tw15498489694336733337:=0
def tw2258582545287988291:=0
def tw12197503085200419827:=0
def tw6948842903665456329:=0
def tw4534702758670337403:=0
def tw15186499621746500208:=0
def tw17951202841024324548:=0
def tw4034924770066391295:=0
def tw11686642231423455683:=0
def tw16734769590507842278:=0
def tw11978402005609431272:=0
def tw10799034681470927943:=0
def tw3607208118883949723:=0
def tw5721529606091637058:=0
def tw13113982079176758247:=0
def tw9408149784492284731:=0
def tw14357661969583349582:=0
def tw14972735740157478654:=0
def tw14691772931539836494:=0
def tw15600027585112676602:=0
def tw14089731013644853507:=0
def tw10846958610597745758:=0
def tw12747562677645539273:=0
def tw16707453509279549387:=0
def tw7271041442517203299:=0
def tw18172249842291907339:=0
def tw2042891982040337224:=0
def tw3318751717079515647:=0
def tw13094148090747590857:=0
def tw5185698632863841479:=0
def tw7280694840266174028:=0
def tw9496682004897238264:=0
def tw9464244395578324845:=0
def tw5772133900588278127:=0
def tw9225248647106520030:=0
def tw7478976243637903262:=0
def tw16973256509260017382:=0
def tw3805747284286515678:=0
def tw17092073043277418916:=0
def tw4485370106376228112:=0
def tw12815983618840742390:=0
def tw1370386641075464045:=0
def tw2487368841191950084:=0
def tw11058602347765149220:=0
def tw6537187627349540623:=0
def tw16525604463002148739:=0
def tw13968689857342923493:=0
def tw13394929455255354254:=0
def tw11607571175765365962:=0
def tw11105353653279301145:=0
def tw6711857004056868119:=0
def tw16815163872624681153:=0
def tw4948069224156859422:=0
def tw6551558839422799950:=0
def tw15126337917366183093:=0
def tw17147714254237392136:=0
def tw7681690650590808433:=0
def tw4265714338256699428:=0
def tw17326461739632689975:=0
def tw6283577630142603683:=0
def tw8184553624385786551:=0
def tw10039815620205107389:=0
def tw1825475816675965544:=0
def tw342235534588338816:=0
def tw6029776776310752320:=0
def tw12179127228074712756:=0
def tw8709831620698344825:=0
def tw3935045621301333670:=0
def tw1953779424000181738:=0
def tw8741260701009775483:=0
def tw13559072348742011214:=0
def tw10816087541270000278:=0
def tw15461353945769356612:=0
def tw11303369086817798374:=0
def tw9744339137827714471:=0
def tw6328047276890813455:=0
def tw4638814933333018271:=0
def tw1647193333204371455:=0
def tw13510492093720531316:=0
def tw543725744849676199:=0
def tw6605292521132312359:=0
def tw16917055707001998064:=0
def tw1955667452288260367:=0
def tw5854103786235100312:=0
def tw5208754724274378523:=0
def tw10315013325567564247:=0
def tw12342858566566526510:=0
def tw13349183737744662512:=0
def tw12196638696272114244:=0
def tw7503625513666095578:=0
def tw13885928957185667311:=0
def tw7772745483348318835:=0
def tw16409165644391876182:=0
def tw2198917021987029440:=0
def tw7213499815668131700:=0
def tw14717821733059292738:=0
def tw16579883790792882418:=0
def tw18087783833439414771:=0
def tw6301289594183615358:=0
def tw9779851562201360873:=0
def tw15922501582408975775:=0
def tw11817036585411390969:=0
def tw3127497150808573423:=0
def tw1590696358094423991:=0
def tw3821813630208830001:=0
def tw18154746135241838471:=0
def tw301246050888238458:=0
def tw16284066450778655590:=0
def tw8635898114137171342:=0
def tw13288363500541072727:=0
def tw299701141821953608:=0
def tw16581922590091821321:=0
def tw2715150596640180699:=0
def tw4253052724114521161:=0
def tw8201713727843481386:=0
def tw6261881634502263041:=0
def tw8561149710543056951:=0
def tw3646786179355748687:=0
def tw17034971769971675586:=0
def tw12830639019618499768:=0
def tw1091686572913056265:=0
def tw9252615705666743111:=0
def tw10525747715647516042:=0
def tw4450609425791824757:=0
def tw308527290157193207:=0
def tw13639905658608935411:=0
def tw7555317712537831236:=0
def tw10957685796950468713:=0
def tw1573000886163221846:=0
def tw15316102376720464086:=0
def tw2479384937360341807:=0
def tw8123122648618881923:=0
def tw11192517285150059788:=0
def tw11558920022686717511:=0
def tw16096789139532252553:=0
def tw15187028332572695268:=0
def tw13841584345402031840:=0
def tw4941360380654579386:=0
def tw3950247174765908077:=0
def tw11268261471046225510:=0
def tw14575506699952601137:=0
def tw4527664429695467058:=0
def tw14063401487605535616:=0
def tw8880051799603839941:=0
def tw10127309973189729241:=0
def tw3116978409478282065:=0
def tw17893858748116115095:=0
def tw7693328250344650458:=0
def tw13339873198225988344:=0
def tw10493580077387040437:=0
def tw17532291283645157361:=0
def tw4373007119958827477:=0
def tw3578255003511137768:=0
def tw7809565141042081126:=0
def tw12441728641644980640:=0
def tw15516132423608699869:=0
def tw4124274792616154426:=0
def tw7978531005763800830:=0
def tw11560720462338154993:=0
def tw16205199349491982811:=0
def tw9237917376627336334:=0
def tw16715080775080237176:=0
def tw1302903621984547902:=0
def tw15994914054075083497:=0
def tw13584000586173912287:=0
def tw4610758364145185756:=0
def tw5400609730572763014:=0
def tw4386019909008523238:=0
def tw4368397903355825893:=0
def tw1890553304139006221:=0
def tw2539353280674878763:=0
def tw11749704803589870386:=0
def tw7391920303234045638:=0
def tw8235400088053861011:=0
def tw17759031680496963560:=0
def tw1186308369942670189:=0
def tw7617636016992519536:=0
def tw2253328977216564079:=0
def tw6732940155684783343:=0
def tw8758642872947539694:=0
def tw5108374197991161103:=0
def tw6335760608591019389:=0
def tw5313126409931788509:=0
def tw12067103183869892046:=0
def tw4642323425429875005:=0
def tw6447741155864712427:=0
def tw6789953343211953899:=0
def tw9649321935649933810:=0
def tw6263202721452327036:=0
def tw10157294618180063133:=0
def tw6112300834494901398:=0
def tw12583773254466775805:=0
def tw9714697362723459126:=0
def tw7886784411665024399:=0
def tw8546352610374399162:=0
def tw14238941326570704874:=0
def tw6018400931392334755:=0
def tw946399063979408713:=0
def tw13268984217732339793:=0
def tw244149819771713236:=0
def tw1502214507808901778:=0
def tw11476554489229594012:=0
def tw346600020935813784:=0
def tw4875738794552699804:=0
def tw16713230877567369586:=0
def tw9968426698899410202:=0
def tw18212777595375390048:=0
def tw16963840816742820506:=0
def tw8159108610529300483:=0
def tw9733755713555590138:=0
def tw7743857091449584879:=0
def tw16766844311210430321:=0
def tw953787383339809469:=0
def tw4828674892327898509:=0
def tw1283062021195638520:=0
def tw9268889348062090849:=0
def tw16060091550972252390:=0
def tw15857072825546536574:=0
def tw5637272328215494877:=0
def tw10271960257053591913:=0
def tw5386043617445498099:=0
def tw15197231683629768983:=0
def tw16538261483309547450:=0
def tw6289049646312493914:=0
def tw9190602132385685712:=0
def tw18349481356927059766:=0
def tw9851911639252832194:=0
def tw5948780746896533240:=0
def tw2770253161885837196:=0
def tw7793406538505274574:=0
def tw12105401874250053513:=0
def tw17564748372294992484:=0
def tw15572749201273565213:=0
def tw8191615109991394581:=0
def tw16483596204404581967:=0
def tw8536693414608451335:=0
def tw18167788538772289890:=0
def tw5876751268229496863:=0
def tw11332557090122762950:=0
def tw14125384126935186322:=0
def tw8503589811717892502:=0
def tw15189209726835123970:=0
def tw6465774248824361167:=0
def tw15892744283124802274:=0
def tw8273831375759559414:=0
def tw15362311861093158787:=0
def tw11646064603512502620:=0
def tw581486413129225191:=0
def tw9398147395953336928:=0
def tw5520731769545460090:=0
def tw3393513792555400439:=0
def tw15112954058285649353:=0
def tw13116154349359201997:=0
def tw13560180442232262293:=0
def tw8988223221996752989:=0
def tw15010787688028392164:=0
def tw3719836747146747139:=0
def tw13319301563425559062:=0
def tw17744600916656715268:=0
def tw14017761678687837657:=0
def tw7611301866970304016:=0
def tw10555846094372899082:=0
def tw10805047489797015284:=0
def tw3613275384053465836:=0
def tw9826050213409502184:=0
def tw17930536842475875687:=0
def tw15123969208819217298:=0
def tw13665567295479524204:=0
def tw8304280124029596206:=0
def tw9144603403732150805:=0
def tw10756741057924656943:=0
def tw3206240703236222262:=0
def tw1397559230161956323:=0
def tw4586375414212074050:=0
def tw8666313209295966228:=0
def tw5687321661478845402:=0
def tw10650183951930635474:=0
def tw5351120517757264140:=0
def tw2476259917924039194:=0
def tw98182947520518498:=0
def tw727468373877562855:=0
def tw3462981086715748856:=0
def tw5802761990076718894:=0
def tw6951134277522699998:=0
def tw5270873017155811973:=0
def tw9239879083937913262:=0
def tw2910779939463292469:=0
def tw3044177488692727151:=0
def tw12485538250353042773:=0
def tw13814013646859056680:=0
def tw12254706067692792810:=0
def tw515433611466091685:=0
def tw8874609831110944653:=0
def tw2469632640749088013:=0
def tw12185397286831113248:=0
def tw3232151124977904795:=0
def tw5511028624354227334:=0
def tw7507048897698601294:=0
def tw10250891708366071549:=0
def tw6891890437837915967:=0
def tw16583946703199451688:=0
def tw1470113453343956886:=0
def tw18263454680703802872:=0
def tw10995442510037533406:=0
def tw4658715791498244159:=0
def tw1536317849192335266:=0
def tw370974274735307121:=0
def tw4098371690508985267:=0
def tw16455220771294950681:=0
def tw9928504057954851780:=0
def tw7990501998757879538:=0
def tw12566826005549023210:=0
def tw10064978811945947733:=0
def tw11948971703794186331:=0
def tw15967387540668076318:=0
def tw818176105718157739:=0
def tw3072442126632223702:=0
def tw16575075989444642063:=0
def tw4786860983041407872:=0
def tw10932905798512462804:=0
def tw10231926368306590144:=0
def tw705180820149224286:=0
def tw7452086652011828617:=0
def tw7078803234478041209:=0
def tw8339933403635853574:=0
def tw9804094702020670570:=0
def tw3621378211622744866:=0
def tw14535362745081959255:=0
def tw5406327679958345532:=0
def tw10004876581911140179:=0
def tw14133095119651003084:=0
def tw7166515481554419407:=0
def tw14588937871834489536:=0
def tw2607072170359457699:=0
def tw5931269750564811965:=0
def tw10872647326294519933:=0
def tw10437680886067310033:=0
def tw2887632902181588655:=0
def tw17449036759364717635:=0
def tw8591932688692293446:=0
def tw5947480366858936472:=0
def tw16832322860084197603:=0
end PySem.W.Fast
open PySem PySem.W PyProof.Rows
set_option maxRecDepth 100000 in
set_option maxHeartbeats 0 in
theorem PySem.Challenge.cw_sharetrail_k26_where_loads_come_from_holds : PySem.Challenge.rw_sharetrail_k26_where_loads_come_from.Holds := by
 w_on;o_law;k_head;(case hw=>w_witness2)
 k_fill
 refine Mi.walk (l:=PySem.Challenge.rw_sharetrail_k26_where_loads_come_from) rfl rfl (λw h Y=>PySem.W.kIn_of Y) rfl ?F
 case F=>
  intro w mg h KX G
  have QP:Mi.RZ (L2.KOf KX) mg "ALL" Mi.TR:=by
   dsimp only[L2.KOf]
   refine' Mi.Us KX G ?e ?r
   (case e=>k_is)
   case r=>
    refine' Mi.Px ?l ?z ?r
    (case l=>k_is)
    (case z=>decide)
    case r=>
     refine' Paired.cons ?_ ?_
     .exact Mi.NK
     refine' Paired.cons ?_ ?_
     .exact Mi.NK
     exact Paired.nil
  have Cp:Mi.RZ (L2.KOf KX) mg "MAKERS" Mi.BP:=by
   dsimp only[L2.KOf]
   refine' Mi.Us KX G ?e ?r
   (case e=>k_is)
   case r=>
    refine' Mi.Px ?l ?z ?r
    (case l=>k_is)
    (case z=>decide)
    case r=>
     refine' Paired.cons ?_ ?_
     .exact Mi.Nf
     refine' Paired.cons ?_ ?_
     .exact Mi.Nf
     refine' Paired.cons ?_ ?_
     .exact Mi.Nf
     refine' Paired.cons ?_ ?_
     .exact Mi.Nf
     exact Paired.nil
  have E8:Mi.RZ (L2.KOf KX) mg "NOTHING" Mi.Hj:=by
   dsimp only[L2.KOf]
   refine' Mi.Us KX G ?e ?r
   (case e=>k_is)
   case r=>
    refine' Mi.Px ?l ?z ?r
    (case l=>k_is)
    (case z=>decide)
    case r=>
     refine' Paired.cons ?_ ?_
     .exact Mi.NK
     refine' Paired.cons ?_ ?_
     .exact Mi.NK
     exact Paired.nil
  have z_abs:mg "abs"=none:=by
   refine' PySem.W.mg_none_of KX G ?z
   (case z=>k_is)
  have z_bool:mg "bool"=none:=by
   refine' PySem.W.mg_none_of KX G ?z
   (case z=>k_is)
  have z_dict:mg "dict"=none:=by
   refine' PySem.W.mg_none_of KX G ?z
   (case z=>k_is)
  have z_enumerate:mg "enumerate"=none:=by
   refine' PySem.W.mg_none_of KX G ?z
   (case z=>k_is)
  have z_int:mg "int"=none:=by
   refine' PySem.W.mg_none_of KX G ?z
   (case z=>k_is)
  have z_isinstance:mg "isinstance"=none:=by
   refine' PySem.W.mg_none_of KX G ?z
   (case z=>k_is)
  have z_len:mg "len"=none:=by
   refine' PySem.W.mg_none_of KX G ?z
   (case z=>k_is)
  have z_list:mg "list"=none:=by
   refine' PySem.W.mg_none_of KX G ?z
   (case z=>k_is)
  have z_max:mg "max"=none:=by
   refine' PySem.W.mg_none_of KX G ?z
   (case z=>k_is)
  have z_min:mg "min"=none:=by
   refine' PySem.W.mg_none_of KX G ?z
   (case z=>k_is)
  have z_range:mg "range"=none:=by
   refine' PySem.W.mg_none_of KX G ?z
   (case z=>k_is)
  have z_set:mg "set"=none:=by
   refine' PySem.W.mg_none_of KX G ?z
   (case z=>k_is)
  have z_sorted:mg "sorted"=none:=by
   refine' PySem.W.mg_none_of KX G ?z
   (case z=>k_is)
  have z_sum:mg "sum"=none:=by
   refine' PySem.W.mg_none_of KX G ?z
   (case z=>k_is)
  have z_tuple:mg "tuple"=none:=by
   refine' PySem.W.mg_none_of KX G ?z
   (case z=>k_is)
  have z_zip:mg "zip"=none:=by
   refine' PySem.W.mg_none_of KX G ?z
   (case z=>k_is)
  refine⟨⟨z_abs,z_bool,z_dict,z_enumerate,z_int,z_isinstance,z_len,z_list,z_max,z_min,z_range,z_set,z_sorted,z_sum,z_tuple,z_zip⟩,QP,Cp,E8,?_,?_,?_,?_,?_,?_,?_,?_,?_,?_,?_,?_,?_,?_,?_,?_,?_,?_,?_,?_,?_,?_,?_,?_,?_,?_,?_,?_,?_,?_,?_,?_,?_,?_,?_,?_,?_,?_,?_,?_,?_,?_,?_,?_,?_,?_,?_,?_,?_,?_,?_,?_,?_⟩
  all_goals (refine' Mi.eJ KX G ?a ?l ?c ?k;(case a=>k_is);(case l=>k_is);(case c=>k_is);(case k=>k_is))
end
