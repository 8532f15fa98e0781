import PyProof.Rows.All
import Wide.All
import OpenK.AllK
import Wide.FinOn
import Lean
import PyProof.EqAt
import PyProof.EqKinds
import PyProof.TupleCall
import PyProof.Draws
import PyProof.EnumMake
import PyProof.EnumFor
import PyProof.ZipIter
import PyProof.ListMulRoad
import PyProof.NeData
import PyProof.SumWalkG
import KE.KSortedM
import KE.KItemsList
import PyProof.ExcInit
import PyProof.InstStoreFacts
import PyProof.RulesAs
import PySem.Challenge.RW_sharetrail_k04_first_wrong_deeds
set_option Elab.async false
set_option linter.all false
set_option maxRecDepth 100000
set_option exponentiation.threshold 10000
set_option maxHeartbeats 4000000
open _root_ renaming List->Wp,Option->jO,of_decide_eq_true->jh,if_neg->kC,Bool->kG,if_pos->kJ,Array->kP,decide_eq_true_eq->kQ,or_false->kr,False->lW,String->lx,decide_eq_true->mE,beq_eq_false_iff_ne->mh,beq_iff_eq->nB,decide_eq_false->nD,if_true->pH,if_false->pv,True->sJ,not_or->sR,DecidableEq->xD
open Array renaming getElem?_eq_some_iff->mI,getElem?_setIfInBounds_ne->oo,length_toList->pT,find?_toList->sM,toList->vz
open Bool renaming and_eq_true->jW,false_ne_true->kM,or_eq_true->kq,noConfusion->lT,or_eq_true_iff->lu,not_eq_true'->mV,and_false->qB,false_eq_true->sS,eq_iff_iff->uT
open Char renaming toNat->zB
open Classical renaming choose_spec->wu
open False renaming elim->k8
open ForInStep renaming yield->pO
open Int renaming toNat_of_nonneg->kU,mul_pos->km,natAbs_natCast->lU,emod_nonneg->mQ,natAbs_mul->mw,eq_ofNat_of_zero_le->m8,emod_lt_of_pos->nC,toNat_natCast->oY,mul_le_mul_of_nonneg_right->pG,lt_of_lt_of_le->qI,mul_ediv_cancel_left->qa,natCast_mul->qx,natAbs_add_le->tW,emod_eq_of_lt->tZ,mul_nonneg->uy,mul_le_mul->uz,lt_trans->wU,sub_self->wW,pow_succ->wX,pow_pos->xp,le_refl->xr
open List renaming getElem?_eq_getElem->jS,getElem?_append_left->jT,getElem?_set_ne->jU,mem_cons->jX,getElem?_eq_some_iff->jb,size_toArray->jd,mem_cons_of_mem->jf,replicate->jg,getElem?_set_self->jj,getElem?_map->jq,mem_cons_self->jr,not_mem_nil->jt,mem_of_getElem?->jw,getD_eq_getElem?_getD->jy,getElem?_concat_length->jz,mem_append->kB,length_map->kF,mem_append_right->kL,mem_singleton->kN,filterMap_cons->kO,getElem?_append_right->kS,drop_eq_getElem_cons->kW,map_cons->kY,nil_append->kh,length_append->kn,mem_map->k6,map_map->k7,lookup_cons->lG,range->lJ,drop_eq_nil_of_le->lM,replicate_succ->lN,prefix_rfl->lO,cons_append->lV,nodup_cons->lh,length_set->lq,take_of_length_le->l7,length_cons->mB,contains_cons->mJ,mem_or_eq_of_mem_set->mM,append_nil->mP,map_nil->mS,flatten_cons->mT,of_mem_zip->nE,map_append->nG,sum_cons->nI,mem_iff_getElem?->nN,lookup->nV,getElem_mem->nZ,map_set->ng,map_take->oC,mem_filter->oE,length_nil->oG,lookup_append->oJ,append_assoc->oZ,mem_range'_1->om,length_filter_le->ou,length_take->oy,length_drop->pA,mem_append_left->pI,getElem?_zipWith_eq_some->pN,zipWith->pZ,mem_range->pf,prefix_append->qD,getElem?_zip_eq_some->qJ,any_eq_false->qL,length->qM,getElem?_inj->qP,nodup_append->qQ,ext_getElem?->qS,getElem?_take_of_lt->qT,all_cons->qU,any_cons->qV,getElem?_replicate->qd,forIn_cons->qw,length_singleton->qz,set_append_right->q0,getElem?_eq_none->rA,forIn_nil->rE,drop_eq_nil_iff->rJ,set_append_left->rQ,mem_of_mem_take->rR,length_pos_iff->rf,mem_filterMap->sL,foldl->sQ,zipIdx_cons->uB,take->uE,range'->uK,zipIdx_nil->uN,take_succ->um,mapM_cons->ur,take_take->vA,drop->vh
open List.MergeSort.Internal renaming splitInTwo->sZ
open List.Pairwise renaming nil->tL
open Nat renaming lt_of_lt_of_le->jV,le_trans->jY,le_refl->ja,ne_of_lt->kA,pow_le_pow_right->ky,lt_of_le_of_lt->kz,mul_le_mul_right->lH,lt_irrefl->lI,zero_le->l9,lt_or_ge->mW,le_succ_of_le->mX,mul_comm->m9,le_of_succ_le->nP,pos_of_ne_zero->oK,ne_of_gt->oR,min_eq_left->pS,le_of_lt->pU,gcd->pY,one_lt_two_pow->qH,mul_pos->qR,mul_assoc->qb,gcd_comm->qr,pow_succ->qs,le_succ->rK,mul_le_mul->rP,add_comm->tK,zero_add->tU,min_le_right->t9,not_lt_zero->uR,div_le_self->uS,lt_trans->wK,log2_lt->xW,gcd_rec->xn,mod_lt->y8
open Ne renaming symm->kZ
open Option renaming some->Gc,bind_some->pE,map->sV,getD_none->uA
open Option.some renaming inj->kg
open PyProof.Rows renaming slot_tuple_getitem->kT,envOfC->lr,boot_tuple->mK,callWith_type1->nO,joinParts_cons->nR,IntsAre->ny,AllBare->oM,assignInOrder_cons->pk,subscriptTail_builtinR->qm,entry_tuple_getitem->rX,args_tuple_getitem->sP,formatField_int_small->sX,FormattedValue_plain->se,assignInOrder_nil->si,boot_int->tV,callWith_builtin1->t8,boot_isinstance->uQ,JoinedStr_many->uY,slicePart_none->ug,mulOk_of_bits->uq,sortedAll_old->uu,joinParts_nil->uv,boot_sum->ux,mul_int->vB,assign_Tuple->vE,sortedAll_at->vG,truthy_tuple->vK,tupleItemsOf_->vR,sorted_ints->vW,boot_list->vv,BoolOp_or->wR,IsTup->xF,boot_abs->xl
open PyProof.Rows.IsTup renaming new->nk
open PySem renaming wpAny_bind->jM,Value->jN,Shared->jQ,Addr->jR,wpAny_pure->jZ,Program->js,starEach->ju,Heap->j0,Expr->j4,World->j6,Stmt->kE,Around->kK,mem_of_lookup->kc,wpAny_holding->kj,wpAny_field->k9,FuncData->lE,wpAny_callSpecial?_slot->lF,wpAny_mono->lK,wpAny_call_entry->lQ,wpAny_pyIter_tuple->lR,boot_len->lX,wpAny_newObj_type->lY,wpAny_pyIter_list->lZ,wpAny_standAt->l8,Scope->mC,wpAny_setField_rec->mH,wpAny_passesOwn->mO,IsPair->md,NameKind->ml,wpAny_setField->mn,wpAny_getItem_str_slice->mq,wpAny_loadPart_at->nQ,sizeLine_eq->nT,wpAny_seqItems->nW,wpAny_execs_cons->nY,wpAny_binaryOp_repeat_ref->ni,strLen_append->oB,wpAny_execs_nil->oF,wpAny_Call_Name_kw->oH,Env->oO,wpAny_truthy_bool->oQ,wpAny_pyNext_list_item->oS,Builtin->og,wpAny_pyNext_list_end->oq,typeIs_int->pB,call_meets->pC,wpAny_updateSeq_pair->pL,codeAny_call_builtin->pM,post_val_or_str->pR,codeAny_mono->pV,wpAny_call->pq,IsZip->qC,wpAny_comprehension_free->qW,wpAny_onRaise->qX,ExceptHandler->qY,noFill_tuple_add->qe,wpAny_rule->qh,IsPart->qk,wpAny_typeOf->ql,typeIs_str->qo,wpAny_pyIter_listiter->qy,wpAny_letGo->rF,intBits_le_iff->rH,wpAny_isSubtype_exc->rh,Model->sA,seq_tuple_add->sC,wpAny_attempt->sD,wpAny_assign_Name->sg,BindsTo->sx,concat_meets->tE,wpAny_sequenceKey->tF,slot_list_getitem->tH,ZipApart->tO,wpAny_pyIter_enum->tQ,PassesOwn->tw,wpAny_pyIter_zip->uD,wpAny_Try_except->uF,seqIndex_of->uJ,pushCells_keeps->uM,Keyword->uV,GenState->uZ,wpAny_Name->ua,wpAny_Expr_any->ub,wpAny_bindName->uc,call->ui,refuseLoop_ref->uw,intBits_le_64->vP,evalPart_none->vS,call_list_seq->vU,DictEntry->vg,Within->vy,name_of_addr->wB,callType_new->wG,OwnTail->wO,ExcBaseFacts->wQ,wpAny_If->xK,IsRangeIter->xM,ReadsAll->xY,Result->yg,Params->yq
open PySem.Around renaming under->su
open PySem.AutoListH renaming list___mul___list_int_3->sd
open PySem.AutoSeq1 renaming wpAny_loadPart'->jv,list_extend_list_list_0->tJ,sub_tuple_tuple->vX,sub_tuple_list->vo,sub_list_tuple->vp,sub_list_list->wN
open PySem.Builtin.List renaming listTooLong->lA,listFitsIndex->uh
open PySem.Builtin.ObjectAttr renaming storeInDict->pF,newKeyGuard->uG
open PySem.Builtin.Range renaming rangeSize->ve
open PySem.Builtin.Slice renaming slicePlaces->mL,sliceAdjust->nh,sliceApplied->pz,slicePartIndex->uL,sliceFields->vC
open PySem.Builtin.SmallTypes renaming nextOf->kH,ownedTupleIsFree->lC,ownedTupleHandOut->nq,stopIteration->tN
open PySem.Builtin.Tuple renaming tupleExact->mZ,tupleItemsOf->p0,tupleTooMany->qE,tupleIsExact->uo
open PySem.Calls renaming Name_function_global->nS,evalArgs_plain->nU,loadGlobal_global->qc,callWith_builtin->qp
open PySem.Challenge renaming pw_sharetrail_k04_first_wrong_deeds->pb
open PySem.Code renaming quiet_builtin->sW,isFrame->sv,frames->xO
open PySem.Data renaming fields->uI
open PySem.DictEntry renaming refKey->zt
open PySem.EntryCells renaming newEntry->rg
open PySem.F renaming slot_list_append->ke,type_list_append->kv,slot_tuple_iterator_next->mG,slot_str_getitem->me,excBase_ValueError->mv,slot_int_rmul->nF,args_tuple_add_2->nv,entry_tuple_add->oN,slot_tuple_add->oX,slot_tuple_mul->pD,slot_list_extend->pJ,args_tuple_iterator_next_1->pP,slot_zip_next->pQ,entry_tuple_iterator_next->pW,args_int_rmul_2->qN,slot_int_index->qf,entry_int_rmul->qg,fills_int_mul->qv,args_list_extend_2->rD,entry_list_extend->rY,args_tuple_mul_2->sU,args_zip_next_1->tP,slot_tuple_rmul->tS,entry_tuple_mul->tT,entry_zip_next->uC
open PySem.Flow renaming next->zr
open PySem.Heap renaming get?_push_of_some->jP,lt_size->ji,get?_push_size->jx,get?_update_other->kX,get?_update_self->kx,size_push->lB,SameBut->oP,IsTuple->pX,ExtBut->qO,get?_none_of_le->rB,IsList->rG,get?_update_ne->r9
open PySem.Heap.IsSliceOf renaming new->yk
open PySem.Heap.Ns1 renaming of_empty->zW
open PySem.Heap.SameBut renaming update->rZ,refl->zQ
open PySem.Heap.UpToSlots renaming ns->zU
open PySem.IsL renaming update->z6
open PySem.NameKind renaming free->kl,cell->nH
open PySem.Obj renaming mapFields->ku,isFreed_of_fields->lP,data_mapFields->mF,mapSeq->qA,cls_mapFields->tM
open PySem.PassesOwn renaming never->ki
open PySem.PyData renaming strOk->nM,canLayAll0->oj
open PySem.SeqAt renaming EqAt->ym
open PySem.SeqAt.EqAt renaming int_str->sF,str_int->sG,none_bool->xQ,bool_none->xR,bool_bool->xS,none_int->yB,none_str->yC,bool_int->yD,bool_str->yE,int_none->yF,int_bool->yG,str_none->yH,str_bool->yI,int_int->yn,str_str->yo
open PySem.Shared renaming heap->mU
open PySem.Str renaming ofString->lD,ofString_eq_toList->qt,empty->vf
open PySem.Txt renaming slice_le->qq,slice->vk
open PySem.Value renaming ref->kD,none->kR,int->rT,str->rW,builtin->sE,bool->sH,type->sI,isStrOf->vN,float->xE
open PySem.W renaming Frag->W1,findIn->kI,nsIn->kf,kia_one->ko,keepIn->lL,kitOne->mD,fnOf->mR,mroIn->mY,mg_of->nJ,clsIn->nK,exmOne->nX,excIn->oA,InstAt->oU,specialIn->oV,codeIn->oW,OpenLaw->pK,isNs_of_in->qF,tail_of_in->qG,methodObj->qK,Looks->qZ,cellsFrom_some->qj,instObj->qu,lookIn->rC,looks_findIn->rL,nsOkIn->rM,tailIn->rO,looks_mroIn->rm,looks_clsIn->rz,kitx_tuple->sN,callWith_K->sO,check_slot->sY,hasDictIn->sj,kitx_list->sk,kitx_dict->sr,plainGet->tx,readsIn->uO,findCls->uP,WalkO->uW,isFn->v9
open PySem.W.WData renaming int->z9
open PySem.W.WShape renaming has->yt
open Rat renaming intCast_eq_zero_iff->mz,mkRat_eq_div->uH
open Sum renaming inl->rS,inr->rV
open True renaming intro->qi
noncomputable section
namespace L2
open PySem PySem.Spec PyProof.Rows
abbrev Key:=Sum Int Str
noncomputable def ZC:Key->jN->kG
 | .inl k,v=>Value.isInt k v
 | .inr x,v=>vN x v
noncomputable def gm(w:j6):Key->Int
 | .inl k=>hashInt k
 | .inr x=>hashStr w x
theorem CY:∀{k:Key} {v:jN},ZC k v=true->(∃i t,k=rS i/\v=rT i t)\/(∃x t,k=rV x/\v=rW x t)
 | .inl i,v,h=>by
   obtain⟨t,e⟩:=Value.isInt_shape (k:=i) (v:=v) h
   exact .inl ⟨i,t,rfl,e⟩
 | .inr x,v,h=>by
   obtain⟨t,e⟩:=Value.isStrOf_shape (x:=x) (v:=v) h
   exact .inr ⟨x,t,rfl,e⟩
theorem Yp(a b:Int):decide ((rS a:Key)=rS b)=(a==b):=by
 by_cases e:a=b
 .subst e;simp
 .have h:¬(rS a:Key)=rS b:=λq=>e (Sum.inl.inj q)
  rw[nD h]
  exact(mh.mpr e).symm
theorem ZR(a b:Str):decide ((rV a:Key)=rV b)=decide (a=b):=by
 by_cases e:a=b
 .subst e;simp
 .have h:¬(rV a:Key)=rV b:=λq=>e (Sum.inr.inj q)
  rw[nD h,nD e]
theorem aX(a:Int)(b:Str):decide ((rS a:Key)=rV b)=false:=nD (λq=>nomatch q)
theorem Z0(a:Str)(b:Int):decide ((rV a:Key)=rS b)=false:=nD (λq=>nomatch q)
noncomputable def Sk(prog:js)(w:j6):PySem.KeyKind prog w Key where
 is:=ZC
 hash:=gm w
 inj:=λv a b ha hb=>by
  rcases CY ha with⟨i,t,rfl,rfl⟩|⟨x,t,rfl,rfl⟩
  .rcases CY hb with⟨j,u,rfl,e⟩|⟨y,u,rfl,e⟩
   .injection e with e1 _;rw[e1]
   .exact nomatch e
  .rcases CY hb with⟨j,u,rfl,e⟩|⟨y,u,rfl,e⟩
   .exact nomatch e
   .injection e with e1 _;rw[e1]
 byValue:=λk v h=>by
  rcases CY h with⟨i,t,rfl,rfl⟩|⟨x,t,rfl,rfl⟩<;>rfl
 pyHash:=λhv h=>by
  rcases CY hv with⟨i,t,rfl,rfl⟩|⟨x,t,rfl,rfl⟩
  .exact wpAny_pyHash_int h
  .exact wpAny_pyHash_str h
 eqBool:=λhu hv h=>by
  rcases CY hu with⟨i,t,rfl,rfl⟩|⟨x,t,rfl,rfl⟩
  .rcases CY hv with⟨j,u,rfl,rfl⟩|⟨y,u,rfl,rfl⟩
   .rw[Yp]at h;exact wpAny_eqBool_int h
   .rw[aX]at h;exact sF i t y u _ _ _ _ h
  .rcases CY hv with⟨j,u,rfl,rfl⟩|⟨y,u,rfl,rfl⟩
   .rw[Z0]at h;exact sG x t j u _ _ _ _ h
   .rw[ZR]at h;exact wpAny_eqBool_str h
 «strs» :=λk x t v h=>by
  rcases CY h with⟨i,u,rfl,e⟩|⟨y,u,rfl,e⟩
  .exact nomatch e
  .injection e with e1 _
   subst e1
   cases v<;>rfl
end L2
namespace L2
open PySem PySem.Spec PyProof.Rows
inductive V where
 |non|bl (b:kG)|int (i:Int)|str (x:Str)|byt (b:kP UInt8)|flt (b:UInt64)|ref (a:jR)|ty (n:lx)
 deriving xD
def RelV:V->jN->Prop
 | .non,u=>u=kR
 | .bl b,u=>u=sH b
 | .int i,u=>∃t,u=rT i t
 | .str x,u=>∃t,u=rW x t
 | .byt b,u=>∃t,u=Value.bytes b t
 | .flt b,u=>∃t,u=xE b t
 | .ref a,u=>u=kD a
 | .ty n,u=>u=sI n
abbrev Vals:Wp V->Wp jN->Prop:=Paired RelV
theorem Vals.length{xs:Wp V}{us:Wp jN}(r:Vals xs us):xs.length=us.length:=Paired.length r
theorem Vals.get:∀{xs:Wp V} {us:Wp jN} {i:Nat} {x:V},Vals xs us->xs[i]?=Gc x->∃u,us[i]?=Gc u/\RelV x u
 |_,_,_,_,.nil,e=>by simp at e
 |_,_,0,_,.cons r _,e=>by simp at e;subst e;exact⟨_,rfl,r⟩
 |_,_,i+1,x,.cons _ t,e=>by
  obtain⟨u,h1,h2⟩:=Vals.get (i:=i) (x:=x) t (by simpa using e)
  exact⟨u,by simpa using h1,h2⟩
theorem Vals.set{x:V}{u:jN}(r:RelV x u):∀{xs:Wp V} {us:Wp jN} (i:Nat),Vals xs us->Vals (xs.set i x) (us.set i u)
 |_,_,_,.nil=>.nil
 |_,_,0,.cons _ t=>.cons r t
 |_,_,i+1,.cons q t=>.cons q (Vals.set r i t)
theorem Vals.append:∀{xs ys:Wp V} {us ws:Wp jN},Vals xs us->Vals ys ws->Vals (xs++ys) (us++ws)
 |_,_,_,_,.nil,s=>s
 |_,_,_,_,.cons r t,s=>.cons r (Vals.append t s)
theorem Vals.take:∀{xs:Wp V} {us:Wp jN} (n:Nat),Vals xs us->Vals (xs.take n) (us.take n)
 |_,_,0,_=>.nil
 |_,_,_+1,.nil=>.nil
 |_,_,n+1,.cons r t=>.cons r (Vals.take n t)
theorem Vals.drop:∀{xs:Wp V} {us:Wp jN} (n:Nat),Vals xs us->Vals (xs.drop n) (us.drop n)
 |_,_,0,r=>r
 |_,_,_+1,.nil=>.nil
 |_,_,n+1,.cons _ t=>Vals.drop n t
def cK:jO V->jO jN->Prop
 |some v,Gc u=>RelV v u
 |none,none=>sJ
 |_,_=>lW
def KV{κ:Type}:Wp (κ×V)->Wp (κ×jN)->Prop:=Paired λ(p:κ×V) (q:κ×jN)=>p.1=q.1/\RelV p.2 q.2
noncomputable def kV:Key->V
 | .inl i=>.int i
 | .inr x=>.str x
inductive HO where
 |lst (xs:Wp V)
 |tup (xs:Wp V)
 |dK (kvs:Wp (Key×V))|dT (kvs:Wp (Wp Key×V))
 |set (S:Int->kG) (n:Nat)
 |ins (C dx:jR) (fs:Wp (Str×V))
 |own (x:jR)
 |xd (fs:Wp (Str×V))
 |met (f x:jR)
 |rng (lo hi:Int)
 |frz (o:Obj) (u:HO)
 |tbl (ps:kP jN)
 |ext (φ:j0->Prop)
abbrev Hp:=jR->jO HO
noncomputable def upd(H:Hp)(a:jR)(o:HO):Hp:=λb=>if b=a then Gc o else H b
theorem BR{H:Hp}{a:jR}{o:HO}:upd H a o a=Gc o:=by unfold upd;rw[kJ rfl]
theorem AZ{H:Hp}{a b:jR}{o:HO}(h:b≠a):upd H a o b=H b:=by unfold upd;rw[kC h]
theorem BY{H:Hp}{a b:jR}{o:HO}(h:H a=Gc o)(h':H b=none):a≠b:=by
 intro e;subst e;rw[h]at h';cases h'
section
variable(P:js)(w:j6)
def Ds(H:Hp)(h:j0)(a:jR):HO->Prop
 | .lst xs=>xs.length<=sizeLine/\∃(its:Wp jN) (n:Nat),Vals xs its/\h.get? a=Gc {cls:=.type "list",data:=.seq its.toArray n}
 | .tup xs=>xs.length<=sizeLine/\∃its:Wp jN,Vals xs its/\xF h a its.toArray
 | .dK kvs=>kvs.length<=sizeLine/\(a==sysModules)=false/\∃vs,KV kvs vs/\h.DictOf (Sk P w) a vs
 | .dT kvs=>kvs.length<=sizeLine/\(a==sysModules)=false/\∃xs:Wp (Wp Key×jR×jN),
    Paired (λ(p:Wp Key×V) (q:Wp Key×jR×jN)=>p.1=q.1/\H q.2.1=Gc (.tup (p.1.map kV))/\RelV p.2 q.2.2) kvs xs/\
    ∃o es ep,h.get? a=Gc o/\o.ExactDict/\o.data=.dict es ep/\es.toList=xs.map (entryOfKey (tupleKind (Sk P w)))/\(xs.map (·.1)).Nodup
 | .set S n=>h.SetOf (intKind P w) a S n
 | .ins C dx fs=>H dx=Gc (.own a)/\fs.length<=1000/\dx≠a/\h.get? a=Gc (qu C dx)/\
    ∃mA,h.Ns1 dx mA/\(∀f,cK (fs.lookup f) (mA f))/\vy mA (fs.map (·.1))
 | .own _=>∃o,h.get? a=Gc o
 | .xd fs=>∃mA,h.Ns1 a mA/\∀f,cK (fs.lookup f) (mA f)
 | .rng lo hi=>∃t u v,h.get? a=Gc {cls:=.type "range",data:=.fields #[.int lo t,.int hi u,.int 1 v]}
 | .frz o u=>h.get? a=Gc o/\Ds H h a u
 | .tbl ps=>h.get? a=Gc {cls:=.none,data:=.fields ps}
 | .met f x=>h.get? a=Gc (qK (.ref f) (.ref x))
 | .ext φ=>φ h/\(∃o,h.get? a=Gc o)/\∀h1 h2:j0,φ h1->(∀o,h1.get? a=Gc o->h2.get? a=Gc o)->φ h2
def HOk(H:Hp)(h:j0):Prop:=∀a o,H a=Gc o->Ds P w H h a o
end
section
variable{P:js}{w:j6}{H H':Hp}{h h':j0}{a:jR}{o:HO}
theorem Ds.lt(x:Ds P w H h a o):a<h.objs.size:=by
 cases o with
 |lst xs=>obtain⟨_,_,_,_,e⟩:=x;exact ji e
 |tup xs=>obtain⟨_,_,_,p⟩:=x;exact p.lt
 |dK kvs=>obtain⟨_,_,_,_,o,_,_,e,_⟩:=x;exact ji e
 |dT kvs=>obtain⟨_,_,_,_,o,_,_,e,_⟩:=x;exact ji e
 |set S n=>obtain⟨o,_,_,_,e,_⟩:=x;exact ji e
 |ins C dx fs=>obtain⟨_,_,_,e,_⟩:=x;exact ji e
 |own y=>obtain⟨_,e⟩:=x;exact ji e
 |xd fs=>obtain⟨_,⟨_,_,_,e,_⟩,_⟩:=x;exact ji e
 |rng lo hi=>obtain⟨_,_,_,e⟩:=x;exact ji e
 |frz ob u=>obtain⟨e,_⟩:=x;exact ji e
 |tbl ps=>exact ji (show h.get? a=Gc _ from x)
 |met f y=>exact ji (show h.get? a=Gc _ from x)
 |ext φ=>obtain⟨_,⟨_,e⟩,_⟩:=x;exact ji e
theorem Paired.fY{α β:Type}{F G:α->β->Prop}:∀{l₁:Wp α} {l₂:Wp β},Paired F l₁ l₂->(∀a b,F a b->G a b)->Paired G l₁ l₂
 |_,_,.nil,_=>.nil
 |_,_,.cons r t,f=>.cons (f _ _ r) (Paired.fY t f)
theorem Ds.Rn(x:Ds P w H h a o)(k:∀b u,(b=a\/H b=Gc (.own a))->h.get? b=Gc u->h'.get? b=Gc u)(ho:∀b,H b=Gc (.own a)->H' b=Gc (.own a))(ht:∀b xs,H b=Gc (.tup xs)->H' b=Gc (.tup xs)):Ds P w H' h' a o:=by
 induction o with
 |lst xs=>obtain⟨z,its,n,r,e⟩:=x;exact⟨z,its,n,r,k _ _ (.inl rfl) e⟩
 |tup xs=>obtain⟨z,its,r,ob,e,c⟩:=x;exact⟨z,its,r,ob,k _ _ (.inl rfl) e,c⟩
 |dK kvs=>obtain⟨z,y,vs,r,ob,es,ep,e,c⟩:=x;exact⟨z,y,vs,r,ob,es,ep,k _ _ (.inl rfl) e,c⟩
 |dT kvs=>
  obtain⟨z,y,xs,r,ob,es,ep,e,c⟩:=x
  exact⟨z,y,xs,Paired.fY r λp q z=>⟨z.1,ht _ _ z.2.1,z.2.2⟩,ob,es,ep,k _ _ (.inl rfl) e,c⟩
 |set S n=>obtain⟨ob,es,ep,t,e,c⟩:=x;exact⟨ob,es,ep,t,k _ _ (.inl rfl) e,c⟩
 |ins C dx fs=>
  obtain⟨d,z,ne,e,mA,⟨od,es,ep,e2,c⟩,r⟩:=x
  exact⟨ho _ d,z,ne,k _ _ (.inl rfl) e,mA,⟨od,es,ep,k _ _ (.inr d) e2,c⟩,r⟩
 |own y=>obtain⟨ob,e⟩:=x;exact⟨ob,k _ _ (.inl rfl) e⟩
 |xd fs=>obtain⟨mA,⟨od,es,ep,e,c⟩,r⟩:=x;exact⟨mA,⟨od,es,ep,k _ _ (.inl rfl) e,c⟩,r⟩
 |rng lo hi=>obtain⟨t,u,v,e⟩:=x;exact⟨t,u,v,k _ _ (.inl rfl) e⟩
 |frz ob u ih=>obtain⟨e,q⟩:=x;exact⟨k _ _ (.inl rfl) e,ih q⟩
 |tbl ps=>
  have e:h.get? a=Gc {cls:=.none,data:=.fields ps}:=x
  show h'.get? a=Gc {cls:=.none,data:=.fields ps}
  exact k a _ (.inl rfl) e
 |met f y=>
  have e:h.get? a=Gc (qK (.ref f) (.ref y)):=x
  show h'.get? a=Gc (qK (.ref f) (.ref y))
  exact k a _ (.inl rfl) e
 |ext φ=>obtain⟨p,⟨o,e⟩,st⟩:=x;exact⟨st _ _ p λo q=>k _ _ (.inl rfl) q,⟨o,k _ _ (.inl rfl) e⟩,st⟩
theorem HOk.lt(x:HOk P w H h)(e:H a=Gc o):a<h.objs.size:=(x a o e).lt
theorem HOk.fresh(x:HOk P w H h)(e:h.objs.size<=a):H a=none:=by
 cases q:H a with
 |none=>rfl
 |some u=>exact absurd (jV (x.lt q) e) (lI _)
theorem HOk.kept(x:HOk P w H h)(k:∀b u,h.get? b=Gc u->h'.get? b=Gc u):HOk P w H h':=λa o e=>
 (x a o e).Rn (λb u _ q=>k b u q) (λ_ q=>q) λ_ _ q=>q
theorem HOk.laid(x:HOk P w H h)(k:∀b u,h.get? b=Gc u->h'.get? b=Gc u)(hp:h.objs.size<=a)(new:Ds P w (upd H a o) h' a o):HOk P w (upd H a o) h':=λb u e=>by
 have hn:=x.fresh hp
 by_cases hb:b=a
 .subst hb;rw[BR]at e;cases e;exact new
 .rw[AZ hb]at e
  exact(x b u e).Rn (λc v _ q=>k c v q) (λc q=>by rw[AZ (BY q hn)];exact q) λc xs q=>by rw[AZ (BY q hn)];exact q
end
def Rd(H:Hp)(a:jR)(u:HO):Prop:=H a=Gc u\/∃o,H a=Gc (.frz o u)
theorem Rd.ok{P:js}{w:j6}{H:Hp}{h:j0}{a:jR}{u:HO}(r:Rd H a u)(x:HOk P w H h):Ds P w H h a u:=by
 rcases r with r|⟨o,r⟩
 .exact x a u r
 .obtain⟨_,q⟩:=x a _ r
  exact q
def Mut:jO HO->Prop
 |some (.lst _)=>sJ
 |some (.dK _)=>sJ
 |some (.dT _)=>sJ
 |some (.set _ _)=>sJ
 |some (.ins _ _ _)=>sJ
 |some (.ext _)=>sJ
 |_=>lW
section
variable{P:js}{w:j6}{H:Hp}{h h':j0}{x e:jR}{o':HO}
theorem HOk.write(ok:HOk P w H h)(mu:Mut (H x))(he:e=x\/H e=Gc (.own x))(k:∀b u,b≠e->h.get? b=Gc u->h'.get? b=Gc u)(heo:∃u,h'.get? e=Gc u)(new:Ds P w (upd H x o') h' x o'):HOk P w (upd H x o') h':=λb u q=>by
 have nown:∀c y,H c=Gc (.own y)->c≠x:=λc y r z=>by subst z;rw[r]at mu;exact mu
 have ntup:∀c xs,H c=Gc (.tup xs)->c≠x:=λc xs r z=>by subst z;rw[r]at mu;exact mu
 by_cases hb:b=x
 .subst hb;rw[BR]at q;cases q;exact new
 .rw[AZ hb]at q
  by_cases hbe:b=e
  .have q':H b=Gc (.own x):=by
    rcases he with z|z
    .exact absurd (hbe.trans z) hb
    .rw[hbe];exact z
   rw[q]at q';cases q'
   obtain⟨v,hv⟩:=heo
   exact⟨v,by rw[hbe];exact hv⟩
  .refine(ok b u q).Rn (λc v hc r=>k c v ?_ r) (λc r=>by rw[AZ (nown c b r)];exact r) λc xs r=>by rw[AZ (ntup c xs r)];exact r
   rcases hc with rfl|hc
   .exact hbe
   .rintro rfl
    rcases he with z|z
    .exact nown c b hc z
    .rw[hc]at z;cases z;exact hb rfl
end
structure Un(fs ex:Wp jR)(H H':Hp)(h h':j0):Prop where
 keep:∀b o,h.get? b=Gc o->H b=none->b∉fs->b∉ex->h'.get? b=Gc o
 slot:∀b o,h.get? b=Gc o->H b=none->b∈fs->b∉ex->∃sl,h'.get? b=Gc {o with slots:=sl}
 free:∀b o,h.get? b=Gc o->H b=none->b∉ex->H' b=none
 there:∀b o,h.get? b=Gc o->b∉ex->∃o',h'.get? b=Gc o'
 R0:∀b xs,H b=Gc (.tup xs)->H' b=Gc (.tup xs)
 RY:∀b o u,H b=Gc (.frz o u)->H' b=Gc (.frz o u)
 Rz:∀b ps,H b=Gc (.tbl ps)->∃more,H' b=Gc (.tbl (ps++more))
section
variable{fs fs' ex ex':Wp jR}{H H1 H2:Hp}{h h1 h2 h':j0}{a x e:jR}{o:HO}
theorem Un.any(u:Un fs ex H H1 h h1){b:jR}{ob:Obj}(q:h.get? b=Gc ob)(n:H b=none)(hx:b∉ex):∃sl,h1.get? b=Gc {ob with slots:=sl}:=by
 by_cases hb:b∈fs
 .exact u.slot b ob q n hb hx
 .exact⟨ob.slots,u.keep b ob q n hb hx⟩
theorem Un.kept(k:∀b u,h.get? b=Gc u->h'.get? b=Gc u):Un fs ex H H h h':=
 ⟨λb ob q _ _ _=>k b ob q,λb ob q _ _ _=>⟨ob.slots,k b ob q⟩,λ_ _ _ n _=>n,λb ob q _=>⟨ob,k b ob q⟩,λ_ _ q=>q,λ_ _ _ q=>q,λ_ ps q=>⟨#[],by rw[q];simp⟩⟩
theorem Un.refl:Un fs ex H H h h:=Un.kept λ_ _ q=>q
theorem Un.laid(k:∀b u,h.get? b=Gc u->h'.get? b=Gc u)(hp:h.objs.size<=a)(hn:H a=none):Un fs ex H (upd H a o) h h' where
 keep:=λb u q _ _ _=>k b u q
 slot:=λb u q _ _ _=>⟨u.slots,k b u q⟩
 free:=λb u q n _=>by rw[AZ (kA (jV (ji q) hp))];exact n
 there:=λb u q _=>⟨u,k b u q⟩
 R0:=λb xs q=>by rw[AZ (BY q hn)];exact q
 RY:=λb u xs q=>by rw[AZ (BY q hn)];exact q
 Rz:=λb ps q=>⟨#[],by rw[AZ (BY q hn),q];simp⟩
theorem Un.write(mu:Mut (H x))(he:e=x\/H e=Gc (.own x))(k:∀b u,b≠e->h.get? b=Gc u->h'.get? b=Gc u)(heo:∃u,h'.get? e=Gc u):Un fs ex H (upd H x o) h h':=by
 have hx:∀b,H b=none->b≠x:=λb n z=>by subst z;rw[n]at mu;exact mu
 have hb:∀b,H b=none->b≠e:=λb n z=>by
  subst z
  rcases he with r|r
  .exact hx b n r
  .rw[n]at r;cases r
 have hm:∀b u,H b=Gc u->¬Mut (Gc u)->b≠x:=λb u q nm z=>by subst z;rw[q]at mu;exact nm mu
 refine⟨λb u q n _ _=>k b u (hb b n) q,λb u q n _ _=>⟨u.slots,k b u (hb b n) q⟩,λb u q n _=>by rw[AZ (hx b n)];exact n,λb u q _=>?_,
  λb xs q=>by rw[AZ (hm b _ q λz=>z)];exact q,λb u xs q=>by rw[AZ (hm b _ q λz=>z)];exact q,λb ps q=>⟨#[],by rw[AZ (hm b _ q λz=>z),q];simp⟩⟩
 by_cases hbe:b=e
 .subst hbe;exact heo
 .exact⟨u,k b u hbe q⟩
end
noncomputable def trk(h:j0)(H:Hp):Wp jR:=(lJ h.objs.size).filter λa=>(H a).isSome
noncomputable def Uv(h:j0)(H:Hp):j0:=PySem.W.hideAll h (trk h H)
theorem SN(h:j0)(H:Hp):(Uv h H).objs.size=h.objs.size:=PySem.W.hideAll_size _ _
theorem V1{h:j0}{H:Hp}{b:jR}{o:Obj}(e:h.get? b=Gc o)(n:H b=none):(Uv h H).get? b=Gc o:=
 PySem.W.hideAll_get _ e λhm=>by
  have q:(H b).isSome=true:=(oE.mp hm).2
  rw[n]at q;simp at q
theorem Xx{h:j0}{H:Hp}{b:jR}{o:Obj}(e:(Uv h H).get? b=Gc o):h.get? b=Gc o/\H b=none:=by
 have e':h.get? b=Gc o:=PySem.W.of_hideAll (trk h H) e
 refine⟨e',?_⟩
 cases q:H b with
 |none=>rfl
 |some x=>
  have hm:b∈trk h H:=oE.mpr ⟨pf.mpr (ji e'),by simp[q]⟩
  have z:(Uv h H).get? b=none:=PySem.W.hideAll_none (trk h H) hm
  rw[z]at e;cases e
noncomputable def X2(g h:j0)(L:jR):Wp (jR×Obj):=(lJ h.objs.size).filterMap λa=>if a=L\/(g.get? a).isSome=true then none else(h.get? a).map λo=>(a,o)
noncomputable def rest(g h:j0)(L d:jR):Wp (jR×Obj):=(X2 g h L).filter λp=>decide (p.1≠d)
end L2
namespace L2
open PySem PySem.Spec PyProof.Rows
structure Mod(K:W1)(mg:Str->jO jN)(base:j0):Prop where
 kin:K.In base
 glob:base.Ns mainGlobals mg
 blt:∃mb,base.Ns builtinsNs mb/\∀x:Str,x≠ "__name__"->mb x=bootBuiltins x
 nolimit:base.NoLimit
structure Cx where
 prog:js
 w:j6
 K:W1
 mg:Str->jO jN
 base:j0
 A:kK
 N:Wp Str
 s₀:jQ
 H₀:Hp
 env:Env
 outer:Wp Env
 stack:Wp Env
 ex:Wp jR
 fn:Str->kG
 calm:kG
 pn:Wp (jR×Obj)
 xe:jN->jQ->Prop
noncomputable def frs(l:Wp Env):Wp jR:=l.filterMap (·.frame)
abbrev Cx.fs(X:Cx):Wp jR:=frs X.outer
def Vis(sc:mC)(x:Str):Prop:=sc.names.lookup x=Gc .local\/sc.names.lookup x=Gc .cell\/sc.names.lookup x=Gc .free
def Loc(sc:mC)(x:Str):Prop:=sc.names.lookup x=Gc .local\/sc.names.lookup x=Gc .cell
def Look(env:Env)(h:j0)(m:Str->jO jN)(x:Str)(u:jN):Prop:=
 (env.kindOf x=Gc .local/\m x=Gc u)\/((env.kindOf x=Gc .cell\/env.kindOf x=Gc .free)/\∃c,env.cells.lookup x=Gc c/\h.IsCell c (Gc u))
structure Cx.Ok(X:Cx):Prop where
 mod:Mod X.K X.mg X.base
 kind:X.env.scope.kind=.function
 glob:X.env.globals=mainGlobals
 blt:X.env.builtins=builtinsNs
 above:X.s₀.heap.objs.size<=X.env.locals
 inj:∀x y c,X.env.cells.lookup x=Gc c->X.env.cells.lookup y=Gc c->x=y
 has:∀x,(X.env.kindOf x=Gc .cell\/X.env.kindOf x=Gc .free)->∃c,X.env.cells.lookup x=Gc c
 cab:∀x c,X.fn x=true->X.env.cells.lookup x=Gc c->X.s₀.heap.objs.size<=c
 hd:X.calm=true->X.A.handled=none
 frames:X.A.frames=Gc X.stack
 stk:X.stack=X.outer\/(X.stack=X.env::X.outer/\X.env.frame=Gc X.env.locals)
 exf:∀b∈X.ex,b≠X.env.locals/\∀x c,X.env.cells.lookup x=Gc c->c≠b
 bs:∀b o,X.base.get? b=Gc o->X.s₀.heap.get? b=Gc o/\X.H₀ b=none
 bsz:X.base.objs.size<=X.s₀.heap.objs.size
 Wc:∀b o,X.base.get? b=Gc o->b∉X.ex
 YQ:∀b∈X.ex,b∉X.fs
 Qr:X.s₀.heap.FunFrames X.base X.outer
 frf:∀b∈X.fs,X.H₀ b=none
structure Inv(X:Cx)(pins:Wp (jR×Obj))(σ:Wp (jO V))(H:Hp)(s:jQ):Prop where
 ok:X.Ok
 os:s.os=X.s₀.os
 bare:oM s.gens
 base:Un X.fs X.ex X.H₀ H X.s₀.heap s.heap
 loc:∃m,s.heap.Ns X.env.locals m/\∀(i:Nat) (x:Str) (v:V),X.N[i]?=Gc x->σ[i]?=Gc (Gc v)->Vis X.env.scope x->∃u,RelV v u/\Look X.env s.heap m x u
 cell:∀x c,X.env.cells.lookup x=Gc c->∃v,s.heap.IsCell c v
 free:H X.env.locals=none
 IZ:∀x c,X.env.cells.lookup x=Gc c->H c=none
 pin:∀p∈X.pn++pins,s.heap.get? p.1=Gc p.2/\H p.1=none/\p.1≠X.env.locals/\p.1∉X.fs/\∀v,p.2.data≠.cell v
 hok:HOk X.prog X.w H s.heap
 len:σ.length=X.N.length
section
variable{X:Cx}{pins:Wp (jR×Obj)}{σ:Wp (jO V)}{H H':Hp}{s:jQ}{h':j0}
theorem Cx.Ok.gw(ok:X.Ok){b:jR}{o:Obj}(e:X.base.get? b=Gc o):b∉X.fs:=λhb=>by
 have:=(ok.Qr.mem hb).1
 rw[e]at this;cases this
theorem Inv.bs(I:Inv X pins σ H s):∀b o,X.base.get? b=Gc o->s.heap.get? b=Gc o/\H b=none:=λb o e=>
 ⟨I.base.keep b o (I.ok.bs b o e).1 (I.ok.bs b o e).2 (I.ok.gw e) (I.ok.Wc b o e),I.base.free b o (I.ok.bs b o e).1 (I.ok.bs b o e).2 (I.ok.Wc b o e)⟩
theorem Inv.bk(I:Inv X pins σ H s):∀b o,X.base.get? b=Gc o->s.heap.get? b=Gc o:=λb o e=>(I.bs b o e).1
theorem Inv.mod(I:Inv X pins σ H s):Mod X.K X.mg X.base:=I.ok.mod
theorem Inv.kIn(I:Inv X pins σ H s):X.K.In s.heap:=I.ok.mod.kin.keeps I.bk
theorem Inv.lt(I:Inv X pins σ H s):X.env.locals<s.heap.objs.size:=let⟨_,hn,_⟩:=I.loc;hn.lt
theorem Inv.sz(I:Inv X pins σ H s):X.s₀.heap.objs.size<=s.heap.objs.size:=jY I.ok.above (pU I.lt)
theorem Inv.iD(I:Inv X pins σ H s){a:jR}(h:s.heap.objs.size<=a):a∉X.fs:=λhb=>by
 obtain⟨_,o,ho,_⟩:=I.ok.Qr.mem hb
 exact absurd (jV (ji ho) (jY I.sz h)) (lI _)
theorem Inv.cne(I:Inv X pins σ H s):∀x c,X.env.cells.lookup x=Gc c->c≠X.env.locals:=λx c e z=>by
 obtain⟨v,o,ho,hd⟩:=I.cell x c e
 obtain⟨m,⟨o',es,ep,ho',hd',_⟩,_⟩:=I.loc
 rw[z,ho']at ho;cases ho;rw[hd']at hd;cases hd
theorem Inv.Qr(I:Inv X pins σ H s):s.heap.FunFrames X.base X.outer:=by
 have all:∀(l:Wp Env),(∀b∈frs l,b∈X.fs)->X.s₀.heap.FunFrames X.base l->s.heap.FunFrames X.base l:=by
  intro l
  induction l with
  |nil=>intro _ _;trivial
  |cons env r ih=>
   intro hs hl
   obtain⟨hk,⟨L,o,hf,hn,ho,hd⟩,hr⟩:=hl
   have hL:L∈X.fs:=hs L (by unfold frs;rw[kO,hf];exact jr)
   obtain⟨sl,e⟩:=I.base.slot L o ho (I.ok.frf L hL) hL λz=>I.ok.YQ L z hL
   exact⟨hk,⟨L,_,hf,hn,e,hd⟩,ih (λb hb=>hs b (by unfold frs;rw[kO,hf];exact jf _ hb)) hr⟩
 exact all X.outer (λ_ hb=>hb) I.ok.Qr
theorem Inv.stack(I:Inv X pins σ H s):s.heap.FunFrames X.base X.stack:=by
 rcases I.ok.stk with e|⟨e,hf⟩
 .rw[e];exact I.Qr
 .rw[e]
  obtain⟨m,hn,_⟩:=I.loc
  refine .cons (by rw[I.ok.kind];decide) hf hn ?_ I.Qr
  exact rB (jY I.ok.bsz I.ok.above)
theorem Inv.Sl(I:Inv X pins σ H s):∀b∈frs X.stack,b∈X.env.locals::X.fs:=λb hb=>by
 rcases I.ok.stk with e|⟨e,hf⟩
 .rw[e]at hb;exact jf _ hb
 .rw[e]at hb
  unfold frs at hb
  rw[kO,hf]at hb
  exact hb
theorem Inv.Pt(I:Inv X pins σ H s):∀b∈frs X.stack,H b=none:=λb hb=>by
 rcases jX.mp (I.Sl b hb)with e|hb
 .rw[e];exact I.free
 .obtain⟨_,o,ho,_⟩:=I.ok.Qr.mem hb
  exact I.base.free b o ho (I.ok.frf b hb) λz=>I.ok.YQ b z hb
theorem Inv.step{g':kP uZ}{t':Nat}{d':Drawn}{ch:Wp jR}(I:Inv X pins σ H s)(hch:∀b∈ch,(b∈X.ex\/X.s₀.heap.objs.size<=b)/\b≠X.env.locals/\(∀x c,X.env.cells.lookup x=Gc c->c≠b)/\∀p∈X.pn++pins,p.1≠b)(keep:∀b o,b≠X.env.locals->b∉X.fs->b∉ch->s.heap.get? b=Gc o->H b=none->h'.get? b=Gc o)(slot:∀b o,b≠X.env.locals->b∈X.fs->b∉ch->s.heap.get? b=Gc o->H b=none->∃sl,h'.get? b=Gc {o with slots:=sl})(free:∀b o,b∉ch->s.heap.get? b=Gc o->H b=none->H' b=none)(there:∀b o,b∉ch->s.heap.get? b=Gc o->∃o',h'.get? b=Gc o')(R0:∀b xs,H b=Gc (.tup xs)->H' b=Gc (.tup xs))(RY:∀b o u,H b=Gc (.frz o u)->H' b=Gc (.frz o u))(Rz:∀b ps,H b=Gc (.tbl ps)->∃more,H' b=Gc (.tbl (ps++more)))(ns:∀m,s.heap.Ns X.env.locals m->h'.Ns X.env.locals m)(hok:HOk X.prog X.w H' h')(hg:oM g'):Inv X pins σ H' {s with heap:=h',gens:=g',drawn:=d',toks:=t'}:=by
 have neL:∀b o,X.s₀.heap.get? b=Gc o->b≠X.env.locals:=λb o e=>kA (jV (ji e) I.ok.above)
 have neC:∀b o,X.s₀.heap.get? b=Gc o->b∉X.ex->b∉ch:=λb o e hx hb=>by
  rcases(hch b hb).1 with z|z
  .exact hx z
  .exact absurd (jV (ji e) z) (lI _)
 have cellK:∀x c,X.env.cells.lookup x=Gc c->∀v,s.heap.IsCell c v->h'.IsCell c v:=λx c e v ⟨o,ho,hd⟩=>by
  have nch:c∉ch:=λz=>(hch c z).2.2.1 x c e rfl
  by_cases hc:c∈X.fs
  .obtain⟨sl,q⟩:=slot c o (I.cne x c e) hc nch ho (I.IZ x c e)
   exact⟨_,q,hd⟩
  .exact⟨o,keep c o (I.cne x c e) hc nch ho (I.IZ x c e),hd⟩
 refine⟨I.ok,I.os,hg,⟨λb o e n hb hx=>?_,λb o e n hb hx=>?_,λb o e n hx=>?_,λb o e hx=>?_,λb xs e=>R0 b xs (I.base.R0 b xs e),λb o xs e=>RY b o xs (I.base.RY b o xs e),λb ps e=>?_⟩,?_,λx c e=>?_,?_,λx c e=>?_,λp hp=>?_,hok,I.len⟩
 .exact keep b o (neL b o e) hb (neC b o e hx) (I.base.keep b o e n hb hx) (I.base.free b o e n hx)
 .obtain⟨sl,e1⟩:=I.base.slot b o e n hb hx
  obtain⟨sl',e2⟩:=slot b _ (neL b o e) hb (neC b o e hx) e1 (I.base.free b o e n hx)
  exact⟨sl',e2⟩
 .obtain⟨o',e1⟩:=I.base.there b o e hx
  exact free b o' (neC b o e hx) e1 (I.base.free b o e n hx)
 .obtain⟨o',e1⟩:=I.base.there b o e hx
  exact there b o' (neC b o e hx) e1
 .obtain⟨m1,e1⟩:=I.base.Rz b ps e
  obtain⟨m2,e2⟩:=Rz b _ e1
  exact⟨m1++m2,by rw[e2,Array.append_assoc]⟩
 .obtain⟨m,hn,hl⟩:=I.loc
  refine⟨m,ns m hn,λi x v e1 e2 e3=>?_⟩
  obtain⟨u,r,l⟩:=hl i x v e1 e2 e3
  refine⟨u,r,?_⟩
  rcases l with l|⟨k,c,e,z⟩
  .exact .inl l
  .exact .inr ⟨k,c,e,cellK x c e _ z⟩
 .obtain⟨v,z⟩:=I.cell x c e
  exact⟨v,cellK x c e v z⟩
 .obtain⟨m,⟨o,_,_,ho,_⟩,_⟩:=I.loc
  exact free _ o (λz=>(hch _ z).2.1 rfl) ho I.free
 .obtain⟨v,o,ho,hd⟩:=I.cell x c e
  exact free c o (λz=>(hch c z).2.2.1 x c e rfl) ho (I.IZ x c e)
 .obtain⟨e,n,ne,nf,d⟩:=I.pin p hp
  have nch:p.1∉ch:=λz=>(hch p.1 z).2.2.2 p hp rfl
  exact⟨keep p.1 p.2 ne nf nch e n,free p.1 p.2 nch e n,ne,nf,d⟩
theorem Inv.un{t':Nat}(I:Inv X pins σ H s)(u:Un X.fs [] H H' s.heap h')(hok:HOk X.prog X.w H' h'):Inv X pins σ H' {s with heap:=h',toks:=t'}:=by
 obtain⟨m,⟨o,es,ep,ho,r⟩,_⟩:=id I.loc
 obtain⟨sl,hL⟩:=u.any ho I.free (by simp)
 exact I.step (g':=s.gens) (d':=s.drawn) (ch:=[]) (λ_ z=>nomatch z) (λb o _ hb _ e n=>u.keep b o e n hb (by simp)) (λb o _ hb _ e n=>u.slot b o e n hb (by simp)) (λb o _ e n=>u.free b o e n (by simp)) (λb o _ e=>u.there b o e (by simp)) u.R0 u.RY u.Rz (λm' hm=>by
  obtain⟨o',es',ep',ho',r'⟩:=hm
  rw[ho]at ho';cases ho'
  exact⟨_,es',ep',hL,r'⟩) hok I.bare
theorem Inv.call{g':kP uZ}{t':Nat}{d':Drawn}{ch:Wp jR}(I:Inv X pins σ H s)(u:Un (frs X.stack) ch H H' s.heap h')(hok:HOk X.prog X.w H' h')(hg:oM g')(hch:∀b∈ch,(b∈X.ex\/X.s₀.heap.objs.size<=b)/\b≠X.env.locals/\(∀x c,X.env.cells.lookup x=Gc c->c≠b)/\∀p∈X.pn++pins,p.1≠b):Inv X pins σ H' {s with heap:=h',gens:=g',drawn:=d',toks:=t'}:=by
 obtain⟨m,⟨o,es,ep,ho,r⟩,_⟩:=id I.loc
 obtain⟨sl,hL⟩:=u.any ho I.free λz=>(hch _ z).2.1 rfl
 exact I.step (ch:=ch) hch (λb o hL hb hc e n=>u.keep b o e n (λz=>(jX.mp (I.Sl b z)).elim hL hb) hc) (λb o _ _ hc e n=>u.any e n hc) (λb o hc e n=>u.free b o e n hc) (λb o hc e=>u.there b o e hc) u.R0 u.RY u.Rz (λm' hm=>by
  obtain⟨o',es',ep',ho',r'⟩:=hm
  rw[ho]at ho';cases ho'
  exact⟨_,es',ep',hL,r'⟩) hok hg
theorem Inv.turned{t':Nat}{it:jR}(I:Inv X pins σ H s)(k:∀b o,b≠it->s.heap.get? b=Gc o->h'.get? b=Gc o)(hn:H it=none)(hL:it≠X.env.locals)(h1:it∈X.ex\/X.s₀.heap.objs.size<=it)(h2:∀x c,X.env.cells.lookup x=Gc c->c≠it)(h3:∀p∈X.pn++pins,p.1≠it):Inv X pins σ H {s with heap:=h',toks:=t'}:=by
 have nit:∀b u,H b=Gc u->b≠it:=λb u e z=>by rw[z,hn]at e;cases e
 refine I.step (g':=s.gens) (d':=s.drawn) (ch:=[it]) (λb hb=>?_) (λb o _ _ hc e _=>k b o (λz=>hc (by simp[z])) e) (λb o _ _ hc e _=>⟨o.slots,k b o (λz=>hc (by simp[z])) e⟩) (λ_ _ _ _ n=>n)
  (λb o hc e=>⟨o,k b o (λz=>hc (by simp[z])) e⟩) (λ_ _ e=>e) (λ_ _ _ e=>e) (λb ps e=>⟨#[],by rw[e];simp⟩) (λm hm=>?_) (λb u e=>?_) I.bare
 .have e:b=it:=by simpa using hb
  subst e
  exact⟨h1,hL,h2,h3⟩
 .obtain⟨o,es,ep,ho,r⟩:=hm
  exact⟨o,es,ep,k _ o (kZ hL) ho,r⟩
 .refine(I.hok b u e).Rn (λc v hc q=>k c v ?_ q) (λ_ q=>q) λ_ _ q=>q
  rcases hc with z|z
  .rw[z];exact nit b u e
  .exact nit c _ z
theorem Inv.tok(I:Inv X pins σ H s)(t:Nat):Inv X pins σ H {s with toks:=t}:=I.un (h':=s.heap) (t':=t) Un.refl I.hok
theorem Inv.kept{t':Nat}(I:Inv X pins σ H s)(k:∀b u,s.heap.get? b=Gc u->h'.get? b=Gc u):Inv X pins σ H {s with heap:=h',toks:=t'}:=I.un (Un.kept k) (I.hok.kept k)
theorem Inv.laid{a:jR}{o:HO}{t':Nat}(I:Inv X pins σ H s)(k:∀b u,s.heap.get? b=Gc u->h'.get? b=Gc u)(hp:s.heap.objs.size<=a)(new:Ds X.prog X.w (upd H a o) h' a o):Inv X pins σ (upd H a o) {s with heap:=h',toks:=t'}:=I.un (Un.laid k hp (I.hok.fresh hp)) (I.hok.laid k hp new)
theorem Inv.write{x e:jR}{o:HO}{t':Nat}(I:Inv X pins σ H s)(mu:Mut (H x))(he:e=x\/H e=Gc (.own x))(k:∀b u,b≠e->s.heap.get? b=Gc u->h'.get? b=Gc u)(heo:∃u,h'.get? e=Gc u)(new:Ds X.prog X.w (upd H x o) h' x o):Inv X pins σ (upd H x o) {s with heap:=h',toks:=t'}:=I.un (Un.write mu he k heo) (I.hok.write mu he k heo new)
theorem Inv.UE{pins':Wp (jR×Obj)}(I:Inv X pins σ H s)(h:∀p∈pins',s.heap.get? p.1=Gc p.2/\H p.1=none/\p.1≠X.env.locals/\p.1∉X.fs/\∀v,p.2.data≠.cell v):Inv X pins' σ H s:=
 ⟨I.ok,I.os,I.bare,I.base,I.loc,I.cell,I.free,I.IZ,λp hp=>(kB.mp hp).elim (λz=>I.pin p (pI _ z)) (h p),I.hok,I.len⟩
theorem Q4{N:Wp Str}(hN:N.Nodup){i j:Nat}{x:Str}(a:N[i]?=Gc x)(b:N[j]?=Gc x):i=j:=by
 obtain⟨h1,e1⟩:=jb.mp a
 obtain⟨h2,e2⟩:=jb.mp b
 exact(List.getElem_inj hN).mp (e1.trans e2.symm)
theorem Lh{M:sA}{A:kK}{E:jN->jQ->Prop}{i:Nat}{x:Str}{v:V}{u:jN}{Q:Unit->jQ->Prop}(I:Inv X pins σ H s)(hN:X.N.Nodup)(hi:X.N[i]?=Gc x)(hx:Loc X.env.scope x)(r:RelV v u)(h:∀s',Inv X pins (σ.set i (Gc v)) H s'->(∃a,oP a s.heap s'.heap/\(a=X.env.locals\/X.env.cells.lookup x=Gc a))->Q () s')(hf:X.fn x=true\/X.env.scope.names.lookup x=Gc .local:=by first|exact .inl rfl|exact .inr rfl|assumption):wpAny M A (storeName X.env x u) Q E s:=by
 obtain⟨m,hn,hl⟩:=id I.loc
 have hcls:(X.env.scope.kind== .class||(X.env.scope.kind== .module && X.env.locals !=X.env.globals))=false:=by rw[I.ok.kind];rfl
 have hiσ:i<σ.length:=by rw[I.len];exact(jb.mp hi).1
 have cne:=I.cne
 have tracked:∀{a:jR} {h':j0},(∃o,s.heap.get? a=Gc o/\H a=none)->oP a s.heap h'->HOk X.prog X.w H h':=λ{a h'} ha hs b ob e=>by
  obtain⟨_,_,hfree⟩:=ha
  refine(I.hok b ob e).Rn (λc w' hc q=>(hs.2 c ?_).trans q) (λ_ q=>q) λ_ _ q=>q
  rintro rfl
  rcases hc with rfl|hc
  .rw[hfree]at e;cases e
  .rw[hfree]at hc;cases hc
 rcases hx with hk|hk
 .refine wpAny_storeName_local hk hn (λh' hn' hs=>?_) hcls
  obtain⟨oL,_,_,hoL,_⟩:=id hn
  refine h _ ⟨I.ok,I.os,I.bare,⟨λb o e n hb hx=>?_,λb o e n hb hx=>?_,I.base.free,λb o e hx=>?_,I.base.R0,I.base.RY,I.base.Rz⟩,⟨_,hn',λj y v' e1 e2 e3=>?_⟩,λy c e=>?_,I.free,I.IZ,λp hp=>?_,tracked ⟨oL,hoL,I.free⟩ hs,by simpa using I.len⟩ ⟨_,hs,.inl rfl⟩
  .exact(hs.2 b (kA (jV (ji e) I.ok.above))).trans (I.base.keep b o e n hb hx)
  .obtain⟨sl,e1⟩:=I.base.slot b o e n hb hx
   exact⟨sl,(hs.2 b (kA (jV (ji e) I.ok.above))).trans e1⟩
  .obtain⟨o',e1⟩:=I.base.there b o e hx
   exact⟨o',(hs.2 b (kA (jV (ji e) I.ok.above))).trans e1⟩
  .by_cases hj:j=i
   .subst hj
    rw[hi]at e1;cases e1
    rw[jj hiσ]at e2
    cases e2
    exact⟨u,r,.inl ⟨hk,by simp⟩⟩
   .rw[jU (kZ hj)]at e2
    obtain⟨u',r',q⟩:=hl j y v' e1 e2 e3
    refine⟨u',r',?_⟩
    rcases q with⟨k,e⟩|⟨k,c,e,z⟩
    .refine .inl ⟨k,?_⟩
     have:y≠x:=λe=>hj (Q4 hN e1 (e▸hi))
     simp[this,e]
    .exact .inr ⟨k,c,e,z.sameBut hs (cne y c e)⟩
  .obtain⟨w',z⟩:=I.cell y c e
   exact⟨w',z.sameBut hs (cne y c e)⟩
  .obtain⟨e,n,ne,nf,d⟩:=I.pin p hp
   exact⟨(hs.2 p.1 ne).trans e,n,ne,nf,d⟩
 .have hfn:X.fn x=true:=by
   rcases hf with z|z
   .exact z
   .rw[z]at hk;cases hk
  obtain⟨c,hc⟩:=I.ok.has x (.inl hk)
  obtain⟨w',z⟩:=I.cell x c hc
  refine wpAny_storeName_cell I.ok.kind hk hc z (λh' hc' hs=>?_)
  obtain⟨oc,hoc,hocd⟩:=id z
  refine h {s with heap:=h'} ⟨I.ok,I.os,I.bare,⟨λb o e n hb hx=>?_,λb o e n hb hx=>?_,I.base.free,λb o e hx=>?_,I.base.R0,I.base.RY,I.base.Rz⟩,⟨m,hn.sameBut hs (kZ (cne x c hc)),λj y v' e1 e2 e3=>?_⟩,λy c' e=>?_,I.free,I.IZ,λp hp=>?_,tracked ⟨oc,hoc,I.IZ x c hc⟩ hs,by simpa using I.len⟩ ⟨c,hs,.inr hc⟩
  .exact(hs.2 b (kA (jV (ji e) (I.ok.cab x c hfn hc)))).trans (I.base.keep b o e n hb hx)
  .obtain⟨sl,e1⟩:=I.base.slot b o e n hb hx
   exact⟨sl,(hs.2 b (kA (jV (ji e) (I.ok.cab x c hfn hc)))).trans e1⟩
  .obtain⟨o',e1⟩:=I.base.there b o e hx
   exact⟨o',(hs.2 b (kA (jV (ji e) (I.ok.cab x c hfn hc)))).trans e1⟩
  .by_cases hj:j=i
   .subst hj
    rw[hi]at e1;cases e1
    rw[jj hiσ]at e2
    cases e2
    exact⟨u,r,.inr ⟨.inl hk,c,hc,hc'⟩⟩
   .rw[jU (kZ hj)]at e2
    obtain⟨u',r',q⟩:=hl j y v' e1 e2 e3
    refine⟨u',r',?_⟩
    rcases q with q|⟨k,c',e,z'⟩
    .exact .inl q
    .refine .inr ⟨k,c',e,z'.sameBut hs ?_⟩
     rintro rfl
     exact hj (Q4 hN e1 (I.ok.inj _ _ _ e hc▸hi))
  .by_cases hcc:c'=c
   .subst hcc;exact⟨_,hc'⟩
   .obtain⟨w2,z2⟩:=I.cell y c' e
    exact⟨w2,z2.sameBut hs hcc⟩
  .obtain⟨e,n,ne,nf,d⟩:=I.pin p hp
   refine⟨(hs.2 p.1 ?_).trans e,n,ne,nf,d⟩
   intro q
   rw[q,hoc]at e
   have q':oc=p.2:=kg e
   exact d w' (by rw[<-q'];exact hocd)
theorem K9{M:sA}{A:kK}{E:jN->jQ->Prop}{i:Nat}{x:Str}{v:V}{u:jN}{Q:Unit->jQ->Prop}(I:Inv X pins σ H s)(hN:X.N.Nodup)(hi:X.N[i]?=Gc x)(hx:Loc X.env.scope x)(r:RelV v u)(h:∀s',Inv X pins (σ.set i (Gc v)) H s'->Q () s')(hf:X.fn x=true\/X.env.scope.names.lookup x=Gc .local:=by first|exact .inl rfl|exact .inr rfl|assumption):wpAny M A (storeName X.env x u) Q E s:=
 Lh I hN hi hx r (λs' I' _=>h s' I') hf
theorem Inv.aB{s':jQ}{ch:Wp jR}(I:Inv X pins σ H s)(ho:s'.os=s.os)(u:Un (frs X.stack) ch H H' s.heap s'.heap)(hok:HOk X.prog X.w H' s'.heap)(hg:oM s'.gens)(hch:∀b∈ch,(b∈X.ex\/X.s₀.heap.objs.size<=b)/\b≠X.env.locals/\(∀x c,X.env.cells.lookup x=Gc c->c≠b)/\∀p∈X.pn++pins,p.1≠b):Inv X pins σ H' s':=by
 obtain⟨h',g',d',t',o'⟩:=s'
 have e:o'=s.os:=ho
 subst e
 exact I.call (g':=g') (t':=t') (d':=d') u hok hg hch
end
abbrev XK:=jN->jO jR->Hp->Prop
abbrev St:=Wp (jO V)
abbrev VK:=V->Hp->Prop
abbrev TE:=St->Hp->VK->Prop
abbrev TT:=St->Hp->(kG->Hp->Prop)->Prop
abbrev TA:=St->Hp->(Wp V->Hp->Prop)->Prop
structure Ends where
 nx:St->Hp->Prop
 rt:VK
 bk:St->Hp->Prop:=λ_ _=>lW
 ct:St->Hp->Prop:=λ_ _=>lW
abbrev TS:=Ends->St->Hp->Prop
def EP(X:Cx)(pins:Wp (jR×Obj))(σ:St)(Q:VK)(u:jN)(s':jQ):Prop:=∃v H',Inv X pins σ H' s'/\RelV v u/\Q v H'
def TP(X:Cx)(pins:Wp (jR×Obj))(σ:St)(Q:kG->Hp->Prop)(b:kG)(s':jQ):Prop:=∃H',Inv X pins σ H' s'/\Q b H'
def AP(X:Cx)(pins:Wp (jR×Obj))(σ:St)(Q:Wp V->Hp->Prop)(us:Wp jN)(s':jQ):Prop:=∃vs H',Inv X pins σ H' s'/\Vals vs us/\Q vs H'
def SP(X:Cx)(pins:Wp (jR×Obj))(D:Ends)(f:Flow)(s':jQ):Prop:=
 match f with
 | .next=>∃σ' H',Inv X pins σ' H' s'/\D.nx σ' H'
 | .brk=>∃σ' H',Inv X pins σ' H' s'/\D.bk σ' H'
 | .cont=>∃σ' H',Inv X pins σ' H' s'/\D.ct σ' H'
 | .ret u=>∃v σ' H',Inv X pins σ' H' s'/\RelV v u/\D.rt v H'
def PE(X:Cx)(e:j4)(t:TE):Prop:=
 ∀(pins:Wp (jR×Obj)) (s:jQ) (σ:St) (H:Hp) (Q:VK),Inv X pins σ H s->t σ H Q->wpAny (model X.prog X.w) X.A (eval e X.env) (EP X pins σ Q) X.xe s
def PT(X:Cx)(e:j4)(t:TT):Prop:=
 ∀(pins:Wp (jR×Obj)) (s:jQ) (σ:St) (H:Hp) (Q:kG->Hp->Prop),Inv X pins σ H s->t σ H Q->wpAny (model X.prog X.w) X.A (isTrue e X.env (eval e X.env)) (TP X pins σ Q) X.xe s
def PW(X:Cx)(e:j4)(t:TT):Prop:=
 ∀(whole:Sem jN) (pins:Wp (jR×Obj)) (s:jQ) (σ:St) (H:Hp) (Q:kG->Hp->Prop),Inv X pins σ H s->t σ H Q->wpAny (model X.prog X.w) X.A (isTrue e X.env whole) (TP X pins σ Q) X.xe s
theorem PW.pt{X:Cx}{e:j4}{t:TT}(h:PW X e t):PT X e t:=h _
def PA(X:Cx)(es:Wp j4)(t:TA):Prop:=
 ∀(pos:Pos) (pins:Wp (jR×Obj)) (s:jQ) (σ:St) (H:Hp) (Q:Wp V->Hp->Prop),Inv X pins σ H s->t σ H Q->wpAny (model X.prog X.w) X.A (spliced (backTo pos (ju es X.env))) (AP X pins σ Q) X.xe s
def PS(X:Cx)(st:kE)(t:TS):Prop:=
 ∀(pins:Wp (jR×Obj)) (s:jQ) (σ:St) (H:Hp) (D:Ends),Inv X pins σ H s->t D σ H->wpAny (model X.prog X.w) X.A (exec st X.env) (SP X pins D) X.xe s
def PSs(X:Cx)(st:Wp kE)(t:TS):Prop:=
 ∀(pins:Wp (jR×Obj)) (s:jQ) (σ:St) (H:Hp) (D:Ends),Inv X pins σ H s->t D σ H->wpAny (model X.prog X.w) X.A (execs st X.env) (SP X pins D) X.xe s
theorem thn{α:Type}{t:Sem α}{Q Q':α->jQ->Prop}{M:sA}{A:kK}{E:jN->jQ->Prop}{s:jQ}(h:wpAny M A t Q E s)(hQ:∀a s,Q a s->Q' a s):wpAny M A t Q' E s:=lK h hQ λ_ _ x=>x
end L2
namespace L2
open PySem PySem.Spec PyProof.Rows
section
variable{X:Cx}
noncomputable def iq(i:Nat):TE:=λσ H Q=>∃v,σ[i]?=Gc (Gc v)/\Q v H
noncomputable def tC(v:V):TE:=λ_ H Q=>Q v H
theorem NJ{i:Nat}{x:Str}{pos:Pos}(hN:X.N[i]?=Gc x)(hv:Vis X.env.scope x)(hd:(x==("__debug__":Str))=false:=by decide)(hcd:(x==("__classdict__":Str))=false:=by decide):PE X (.Name x pos) (iq i):=by
 intro pins s σ H Q I h
 obtain⟨v,e,h⟩:=h
 obtain⟨m,hn,hl⟩:=I.loc
 obtain⟨u,r,l⟩:=hl i x v hN e hv
 have fin:EP X pins σ Q u s:=⟨v,H,I,r,h⟩
 rcases l with⟨hk,hm⟩|⟨hk,c,hc,hcell⟩
 .exact ua (wpAny_loadName_local I.ok.kind hk hn hm fin) hd
 .rcases hk with hk|hk
  .exact ua (wpAny_loadName_cell I.ok.kind hk hc hcell fin) hd
  .exact ua (wpAny_loadName_free I.ok.kind hk hc hcell fin hcd) hd
theorem Yn{i j pos}:PE X (.Constant (.int i) j pos) (tC (.int i)):=λ_ _ _ H _ I h=>wpAny_Constant_int ⟨.int i,H,I.tok _,⟨_,rfl⟩,h⟩
theorem di{b j pos}:PE X (.Constant (.bool b) j pos) (tC (.bl b)):=λ_ _ _ H _ I h=>Constant_bool ⟨.bl b,H,I,rfl,h⟩
theorem Z7{j pos}:PE X (.Constant .none j pos) (tC .non):=λ_ _ _ H _ I h=>Constant_none ⟨.non,H,I,rfl,h⟩
theorem T5{x j pos}:PE X (.Constant (.str x) j pos) (tC (.str x)):=λ_ _ _ H _ I h=>Calls.Constant_str ⟨.str x,H,I.tok _,⟨_,rfl⟩,h⟩
def Gl(X:Cx)(x:Str):Prop:=X.env.kindOf x=Gc .globalImplicit
theorem KR{E:jN->jQ->Prop}{pins:Wp (jR×Obj)}{s:jQ}{σ:St}{H:Hp}{x:Str}{u:jN}{pos:Pos}{Q:jN->jQ->Prop}(I:Inv X pins σ H s)(hg:Gl X x)(hm:X.mg x=Gc u)(h:Q u s)(hd:(x==("__debug__":Str))=false:=by decide):wpAny (model X.prog X.w) X.A (eval (.Name x pos) X.env) Q E s:=
 nS I.ok.kind hg (qc (by rw[I.ok.glob];exact I.mod.glob.keeps I.bk) hm h) hd
theorem NV{E:jN->jQ->Prop}{pins:Wp (jR×Obj)}{s:jQ}{σ:St}{H:Hp}{x:Str}{u:jN}{pos:Pos}{Q:jN->jQ->Prop}(I:Inv X pins σ H s)(hg:Gl X x)(hm:X.mg x=none)(hv:bootBuiltins x=Gc u)(h:Q u s)(hn:x≠ "__name__":=by decide)(hd:(x==("__debug__":Str))=false:=by decide):wpAny (model X.prog X.w) X.A (eval (.Name x pos) X.env) Q E s:=by
 obtain⟨mb,h1,h2⟩:=I.mod.blt
 exact nS I.ok.kind hg (Calls.loadGlobal_builtin (by rw[I.ok.glob];exact I.mod.glob.keeps I.bk) hm (by rw[I.ok.blt];exact h1.keeps I.bk) ((h2 x hn).trans hv) h) hd
theorem XM{x:Str}{v:V}{u:jN}{pos:Pos}(hg:Gl X x)(hm:X.mg x=Gc u)(r:RelV v u)(hd:(x==("__debug__":Str))=false:=by decide):PE X (.Name x pos) (tC v):=
 λ_ _ _ H _ I h=>KR I hg hm ⟨v,H,I,r,h⟩ hd
theorem Xb{x:Str}{v:V}{u:jN}{pos:Pos}(hg:Gl X x)(hm:X.mg x=none)(hv:bootBuiltins x=Gc u)(r:RelV v u)(hn:x≠ "__name__":=by decide)(hd:(x==("__debug__":Str))=false:=by decide):PE X (.Name x pos) (tC v):=
 λ_ _ _ H _ I h=>NV I hg hm hv ⟨v,H,I,r,h⟩ hn hd
def t2I(ta tb:TE)(k:Int->Int->Hp->Prop):St->Hp->Prop:=λσ H=>ta σ H λx H1=>tb σ H1 λy H2=>∃i j,x=.int i/\y=.int j/\k i j H2
variable{a b:j4}{ta tb:TE}{pos:Pos}
noncomputable def tB(t:TE):TT:=λσ H Q=>t σ H λx H1=>∃c,x=.bl c/\Q c H1
theorem aP{e:j4}{t:TE}(h:PE X e t)(he:∀whole,isTrue e X.env whole=(do let v<-whole;standAt e.pos;holding [v] (truthy v)):=by intro _;rfl):PT X e (tB t):=by
 intro pins s σ H Q I hw
 refine isTrue_plain (thn (h pins s σ H _ I hw) λv s1 ⟨x,H1,I1,r1,q1⟩=>?_) (he _)
 obtain⟨d,rfl,q⟩:=q1
 cases r1
 exact oQ ⟨H1,I1,q⟩
variable{tA tB':TT}{rest:Wp j4}
noncomputable def gf(t u:TT):TT:=λσ H Q=>t σ H λc H1=>if c=true then u σ H1 Q else Q false H1
noncomputable def tOr(t u:TT):TT:=λσ H Q=>t σ H λc H1=>if c=true then Q true H1 else u σ H1 Q
noncomputable def gX(t:TT):TT:=λσ H Q=>t σ H λc H1=>Q (!c) H1
theorem XE(ha:PT X a tA):PW X (.BoolOp .And [a] pos) tA:=by
 intro wh pins s σ H Q I h
 refine isTrue_and (thn (ha pins s σ H Q I h) λc s1 e=>?_)
 cases c with
 |true=>exact isTrue_and_nil e
 |false=>exact e
theorem Z5(ha:PT X a tA):PW X (.BoolOp .Or [a] pos) tA:=by
 intro wh pins s σ H Q I h
 refine isTrue_or (thn (ha pins s σ H Q I h) λc s1 e=>?_)
 cases c with
 |false=>exact isTrue_or_nil e
 |true=>exact e
theorem ZZ(ha:PT X a tA)(hb:PW X (.BoolOp .And (b::rest) pos) tB'):PW X (.BoolOp .And (a::b::rest) pos) (gf tA tB'):=by
 intro wh pins s σ H Q I h
 refine isTrue_and (thn (ha pins s σ H _ I h) λc s1 ⟨H1,I1,q1⟩=>?_)
 cases c with
 |true=>exact hb wh pins s1 σ H1 Q I1 q1
 |false=>exact⟨H1,I1,q1⟩
theorem dF(ha:PT X a tA)(hb:PW X (.BoolOp .Or (b::rest) pos) tB'):PW X (.BoolOp .Or (a::b::rest) pos) (tOr tA tB'):=by
 intro wh pins s σ H Q I h
 refine isTrue_or (thn (ha pins s σ H _ I h) λc s1 ⟨H1,I1,q1⟩=>?_)
 cases c with
 |true=>exact⟨H1,I1,q1⟩
 |false=>exact hb wh pins s1 σ H1 Q I1 q1
theorem aV(ha:PT X a tA):PT X (.UnaryOp .Not a pos) (gX tA):=by
 intro pins s σ H Q I h
 exact isTrue_not (ha pins s σ H (λc H1=>Q (!c) H1) I h)
noncomputable def cV(ta tb:TE):TE:=λσ H Q=>ta σ H λx H1=>∃c,x=.bl c/\if c=true then tb σ H1 Q else Q (.bl false) H1
noncomputable def dv(ta:TE):TE:=λσ H Q=>ta σ H λx H1=>∃c,x=.bl c/\Q (.bl (!c)) H1
theorem Zz{op}{t:TE}(h:PE X a t):PE X (.BoolOp op [a] pos) t:=λpins s σ H Q I hw=>BoolOp_one (h pins s σ H Q I hw)
theorem Ym(ha:PE X a ta)(hb:PE X (.BoolOp .And (b::rest) pos) tb):PE X (.BoolOp .And (a::b::rest) pos) (cV ta tb):=by
 intro pins s σ H Q I h
 refine BoolOp_and (thn (ha pins s σ H _ I h) λv s1 ⟨x,H1,I1,r1,q1⟩=>?_)
 obtain⟨c,rfl,q1⟩:=q1
 cases r1
 refine oQ ?_
 cases c with
 |true=>exact hb pins s1 σ H1 Q I1 q1
 |false=>exact⟨.bl false,H1,I1,rfl,q1⟩
theorem Zh(ha:PE X a ta):PE X (.UnaryOp .Not a pos) (dv ta):=by
 intro pins s σ H Q I h
 refine UnaryOp_ (thn (ha pins s σ H _ I h) λv s1 ⟨x,H1,I1,r1,q1⟩=>?_)
 obtain⟨c,rfl,q1⟩:=q1
 cases r1
 exact not_of (oQ ⟨.bl (!c),H1,I1,rfl,q1⟩)
noncomputable def tIf(t:TT)(ta tb:TE):TE:=λσ H Q=>t σ H λc H1=>if c=true then ta σ H1 Q else tb σ H1 Q
theorem Va{c:j4}(hc:PT X c tA)(ha:PE X a ta)(hb:PE X b tb):PE X (.IfExp c a b pos) (tIf tA ta tb):=by
 intro pins s σ H Q I h
 refine wpAny_IfExp (thn (hc pins s σ H _ I h) λd s1 ⟨H1,I1,q1⟩=>?_)
 cases d with
 |true=>exact ha pins s1 σ H1 Q I1 q1
 |false=>exact hb pins s1 σ H1 Q I1 q1
end
end L2
namespace L2
open PySem PySem.Spec PyProof.Rows
def SqL(K:W1)(H:Hp)(a:jR)(xs:Wp V):Prop:=
 Rd H a (.lst xs)∨
  ∃(o:Obj) (its:kP jN) (n:Nat),K.lookup a=Gc o/\o.cls=.type "list" /\o.dict=none/\o.data=.seq its n/\its.size<=sizeLine/\Vals xs its.toList
def SqT(K:W1)(H:Hp)(a:jR)(xs:Wp V):Prop:=
 Rd H a (.tup xs)∨
  ∃(o:Obj) (its:kP jN) (n:Nat),K.lookup a=Gc o/\o.cls=.type "tuple" /\o.data=.seq its n/\its.size<=sizeLine/\Vals xs its.toList
noncomputable def iF:jN->jO V
 | .none=>Gc .non
 | .bool b=>Gc (.bl b)
 | .int i _=>Gc (.int i)
 | .str x _=>Gc (.str x)
 | .bytes b _=>Gc (.byt b)
 | .float b _=>Gc (.flt b)
 | .ref a=>Gc (.ref a)
 | .type n=>Gc (.ty n)
 |_=>none
theorem RelV.abs{x:V}{u:jN}(r:RelV x u):iF u=Gc x:=by
 cases x with
 |non=>cases r;rfl
 |bl _=>cases r;rfl
 |int _=>obtain⟨t,rfl⟩:=r;rfl
 |str _=>obtain⟨t,rfl⟩:=r;rfl
 |byt _=>obtain⟨t,rfl⟩:=r;rfl
 |flt _=>obtain⟨t,rfl⟩:=r;rfl
 |ref _=>cases r;rfl
 |ty _=>cases r;rfl
theorem RelV.inj{x y:V}{u:jN}(r:RelV x u)(q:RelV y u):x=y:=kg (r.abs.symm.trans q.abs)
theorem Vals.inj:∀{xs ys:Wp V} {us:Wp jN},Vals xs us->Vals ys us->xs=ys
 |_,_,_,.nil,.nil=>rfl
 |_,_,_,.cons r t,.cons r' t'=>by rw[r.inj r',Vals.inj t t']
section
variable{X:Cx}{pins:Wp (jR×Obj)}{σ:St}{H:Hp}{s:jQ}{a:jR}{xs ys:Wp V}
theorem SqL.of{K:W1}(h:H a=Gc (.lst xs)):SqL K H a xs:=.inl (.inl h)
theorem SqT.of{K:W1}(h:H a=Gc (.tup xs)):SqT K H a xs:=.inl (.inl h)
theorem Inv.list(I:Inv X pins σ H s)(h:SqL X.K H a xs):∃its:Wp jN,Vals xs its/\PlainL s.heap a its.toArray/\xs.length<=sizeLine:=by
 rcases h with h|⟨o,its,n,hk,hc,hd,hs,hz,r⟩
 .obtain⟨z,its,n,r,e⟩:=h.ok I.hok
  exact⟨its,r,⟨_,n,e,rfl,rfl,rfl⟩,z⟩
 .refine⟨its.toList,r,⟨o,n,I.kIn a o hk,hc,hd,by simpa using hs⟩,?_⟩
  have e:=r.length
  simp only[pT]at e
  lia
theorem Inv.tuple(I:Inv X pins σ H s)(h:SqT X.K H a xs):∃its:Wp jN,Vals xs its/\xF s.heap a its.toArray/\xs.length<=sizeLine:=by
 rcases h with h|⟨o,its,n,hk,hc,hs,hz,r⟩
 .obtain⟨z,its,r,p⟩:=h.ok I.hok
  exact⟨its,r,p,z⟩
 .refine⟨its.toList,r,⟨o,I.kIn a o hk,hc,n,by simpa using hs⟩,?_⟩
  have e:=r.length
  simp only[pT]at e
  lia
theorem Inv.Q7(I:Inv X pins σ H s)(h:SqL X.K H a xs)(h':SqL X.K H a ys):xs=ys:=by
 obtain⟨its,r,⟨o,n,e,_,_,d⟩,_⟩:=I.list h
 obtain⟨its',r',⟨o',n',e',_,_,d'⟩,_⟩:=I.list h'
 rw[e]at e';cases e'
 rw[d]at d'
 injection d' with d1 _
 have:its=its':=by simpa using congrArg vz d1
 subst this
 exact r.inj r'
theorem Inv.Oh(I:Inv X pins σ H s)(h:SqT X.K H a xs)(h':SqT X.K H a ys):xs=ys:=by
 obtain⟨its,r,⟨o,e,_,n,d⟩,_⟩:=I.tuple h
 obtain⟨its',r',⟨o',e',_,n',d'⟩,_⟩:=I.tuple h'
 rw[e]at e';cases e'
 rw[d]at d'
 injection d' with d1 _
 have:its=its':=by simpa using congrArg vz d1
 subst this
 exact r.inj r'
end
abbrev Cx.Ul(X:Cx)(E:jN->jQ->Prop):Cx:={X with xe:=E}
abbrev Cx.nox(X:Cx):Cx:=X.Ul λ_ _=>lW
theorem Cx.Ok.Ul{X:Cx}(ok:X.Ok)(E:jN->jQ->Prop):(X.Ul E).Ok:=
 ⟨ok.mod,ok.kind,ok.glob,ok.blt,ok.above,ok.inj,ok.has,ok.cab,ok.hd,ok.frames,ok.stk,ok.exf,ok.bs,ok.bsz,ok.Wc,ok.YQ,ok.Qr,ok.frf⟩
theorem Cx.Ok.K0{X:Cx}{E:jN->jQ->Prop}(ok:(X.Ul E).Ok):X.Ok:=
 ⟨ok.mod,ok.kind,ok.glob,ok.blt,ok.above,ok.inj,ok.has,ok.cab,ok.hd,ok.frames,ok.stk,ok.exf,ok.bs,ok.bsz,ok.Wc,ok.YQ,ok.Qr,ok.frf⟩
section
variable{X:Cx}{pins:Wp (jR×Obj)}{σ:St}{H:Hp}{s:jQ}{E:jN->jQ->Prop}
theorem Inv.Ul(I:Inv X pins σ H s)(E:jN->jQ->Prop):Inv (X.Ul E) pins σ H s:=⟨I.ok.Ul E,I.os,I.bare,I.base,I.loc,I.cell,I.free,I.IZ,I.pin,I.hok,I.len⟩
theorem Inv.K0(I:Inv (X.Ul E) pins σ H s):Inv X pins σ H s:=⟨I.ok.K0,I.os,I.bare,I.base,I.loc,I.cell,I.free,I.IZ,I.pin,I.hok,I.len⟩
theorem SP.K0{D:Ends}{f:Flow}{s':jQ}(h:SP (X.Ul E) pins D f s'):SP X pins D f s':=by
 cases f with
 |next=>obtain⟨σ',H',I,q⟩:=h;exact⟨σ',H',I.K0,q⟩
 |brk=>obtain⟨σ',H',I,q⟩:=h;exact⟨σ',H',I.K0,q⟩
 |cont=>obtain⟨σ',H',I,q⟩:=h;exact⟨σ',H',I.K0,q⟩
 |ret u=>obtain⟨v,σ',H',I,r,q⟩:=h;exact⟨v,σ',H',I.K0,r,q⟩
theorem PSs.nox{st:Wp kE}{t:TS}(h:PSs X.nox st t):PSs X st t:=λpins s σ H D I hw=>
 lK (h pins s σ H D (I.Ul _) hw) (λ_ _ q=>q.K0) λ_ _ z=>k8 z
end
section
variable{X:Cx}{st:kE}{rest:Wp kE}{t u:TS}{e:j4}{te:TE}{pos:Pos}
noncomputable def eJ:TS:=λD σ H=>D.nx σ H
noncomputable def eK(t u:TS):TS:=λD σ H=>t {D with nx:=u D} σ H
theorem Xw:PSs X [] eJ:=λ_ _ σ H _ I h=>oF ⟨σ,H,I,h⟩
theorem Qc(h1:PS X st t)(h2:PSs X rest u):PSs X (st::rest) (eK t u):=by
 intro pins s σ H D I h
 refine nY (thn (h1 pins s σ H {D with nx:=u D} I h) λf s1 q=>?_)
 cases f with
 |next=>
  obtain⟨σ',H',I',q⟩:=q
  exact h2 pins s1 σ' H' D I' q
 |ret v=>exact q
 |brk=>exact q
 |cont=>exact q
theorem Pw(h1:PS X st t):PSs X [st] t:=by
 intro pins s σ H D I h
 refine nY (thn (h1 pins s σ H D I h) λf s1 q=>?_)
 cases f with
 |next=>exact oF q
 |ret v=>exact q
 |brk=>exact q
 |cont=>exact q
theorem Inv.quiet{pins:Wp (jR×Obj)}{σ:St}{H:Hp}{s:jQ}(I:Inv X pins σ H s):interactive X.env=false:=by simp[interactive,I.ok.kind]
noncomputable def W3(te:TE):TS:=λD σ H=>te σ H λ_ H1=>D.nx σ H1
theorem Ue(he:PE X e te)(hs:swapsWith e none pos.line X.env=pure false:=by rfl):PS X (.Expr e pos) (W3 te):=by
 intro pins s σ H D I h
 exact ub (thn (he pins s σ H _ I h) λv s1 ⟨x,H1,I1,r1,q1⟩=>⟨σ,H1,I1,q1⟩) I.quiet hs
noncomputable def gR(te:TE):TS:=λD σ H=>te σ H D.rt
theorem WY(he:PE X e te):PS X (.Return (Gc e) pos) (gR te):=by
 intro pins s σ H D I h
 exact wpAny_Return_some (thn (he pins s σ H _ I h) λv s1 ⟨x,H1,I1,r1,q1⟩=>⟨x,σ,H1,I1,r1,q1⟩)
noncomputable def iA(c:TT)(t u:TS):TS:=λD σ H=>c σ H λb H1=>if b=true then t D σ H1 else u D σ H1
theorem eA{c:j4}{a b:Wp kE}{tc:TT}(hc:PT X c tc)(ha:PSs X a t)(hb:PSs X b u):PS X (.If c a b pos) (iA tc t u):=by
 intro pins s σ H D I h
 refine xK (thn (hc pins s σ H _ I h) λd s1 ⟨H1,I1,q1⟩=>?_)
 cases d with
 |true=>exact ha pins s1 σ H1 D I1 q1
 |false=>exact hb pins s1 σ H1 D I1 q1
end
abbrev TG:=V->St->Hp->(St->Hp->Prop)->Prop
abbrev TGs:=Wp V->St->Hp->(St->Hp->Prop)->Prop
def PG(X:Cx)(target:j4)(t:TG):Prop:=
 ∀(pins:Wp (jR×Obj)) (s:jQ) (σ:St) (H:Hp) (v:V) (u:jN) (Q:St->Hp->Prop),Inv X pins σ H s->RelV v u->t v σ H Q->
  wpAny (model X.prog X.w) X.A (assign target X.env u) (λ_ s'=>∃σ' H',Inv X pins σ' H' s'/\Q σ' H') X.xe s
def PGs(X:Cx)(ts:Wp j4)(t:TGs):Prop:=
 ∀(pins:Wp (jR×Obj)) (s:jQ) (σ:St) (H:Hp) (vs:Wp V) (us:Wp jN) (Q:St->Hp->Prop),Inv X pins σ H s->Vals vs us->t vs σ H Q->
  wpAny (model X.prog X.w) X.A (assignInOrder ((assignEach ts X.env).map (·.2)) us) (λ_ s'=>∃σ' H',Inv X pins σ' H' s'/\Q σ' H') X.xe s
abbrev dS:=V->V->V->Hp->(Hp->Prop)->Prop
def ff(X:Cx)(t:dS):Prop:=
 ∀(pins:Wp (jR×Obj)) (s:jQ) (σ:St) (H:Hp) (o i v:V) (ov iv u:jN) (Q:Hp->Prop),Inv X pins σ H s->RelV o ov->RelV i iv->RelV v u->t o i v H Q->
  wpAny (model X.prog X.w) X.A (setItem ov iv u) (λ_ s'=>∃H',Inv X pins σ H' s'/\Q H') X.xe s
section
variable{X:Cx}{pos:Pos}
noncomputable def Wo(i:Nat):TG:=λv σ H Q=>Q (σ.set i (Gc v)) H
theorem Xr{i:Nat}{x:Str}(hN:X.N.Nodup)(hi:X.N[i]?=Gc x)(hx:Loc X.env.scope x)(hf:X.fn x=true\/X.env.scope.names.lookup x=Gc .local:=by first|exact .inl rfl|exact .inr rfl|assumption):PG X (.Name x pos) (Wo i):=by
 intro pins s σ H v u Q I r h
 exact sg (K9 I hN hi hx r (λs' I'=>⟨_,H,I',h⟩) hf)
noncomputable def fU:TGs:=λvs σ H Q=>vs=[]/\Q σ H
noncomputable def Yl(t:TG)(u:TGs):TGs:=λvs σ H Q=>∃v r,vs=v::r/\t v σ H λσ' H'=>u r σ' H' Q
theorem YV:PGs X [] fU:=by
 intro pins s σ H vs us Q I r h
 obtain⟨e,h⟩:=h
 subst e
 cases r
 exact si ⟨σ,H,I,h⟩
theorem Vb{e:j4}{es:Wp j4}{t:TG}{u:TGs}(h1:PG X e t)(h2:PGs X es u)(hs:(assignEach (e::es) X.env).map (·.2)=assign e X.env::(assignEach es X.env).map (·.2):=by rfl):PGs X (e::es) (Yl t u):=by
 intro pins s σ H vs us Q I r h
 obtain⟨v,vr,e1,h⟩:=h
 subst e1
 cases r with
 |cons r rr=>
  rw[hs]
  refine pk (thn (h1 pins s σ H _ _ _ I r h) λ_ s1 ⟨σ1,H1,I1,q1⟩=>?_)
  exact h2 pins s1 σ1 H1 _ _ Q I1 rr q1
noncomputable def gh(K:W1)(n:Nat)(t:TGs):TG:=λv σ H Q=>∃a xs,v=.ref a/\SqT K H a xs/\xs.length=n/\t xs σ H Q
theorem Zn{es:Wp j4}{k:Nat}{t:TGs}{n:Nat}(hc:X.calm=true)(h:PGs X es t)(hn:(assignEach es X.env).length=n:=by rfl)(hst:(assignEach es X.env).findIdx? (·.1)=none:=by rfl):PG X (.Tuple es k pos) (gh X.K n t):=by
 intro pins s σ H v u Q I r hw
 obtain⟨a,xs,e1,hq,hl,hw⟩:=hw
 subst e1
 cases r
 obtain⟨its,rv,ht,hz⟩:=I.tuple hq
 refine assign_Tuple_tuple (I.ok.hd hc) ht (by simp[hn,<-hl,rv.length]) hst λh' hx=>?_
 have I1:Inv X pins σ H {s with heap:=h'}:=I.kept (t':=s.toks) λb o e=>hx b o (kA (ji e)) e
 exact h pins _ σ H xs _ Q I1 (by simpa using rv) hw
noncomputable def ie(to ti:TE)(t:dS):TG:=λv σ H Q=>to σ H λo H1=>ti σ H1 λi H2=>t o i v H2 λH3=>Q σ H3
theorem Yv {o i : j4} {to ti : TE} {t : dS} (ho : PE X o to) (hi : PE X i ti) (hs : ff X t) (ha : ∀ v, assign (.Subscript o i pos) X.env v = (do
      let ov ← holding [v] (eval o X.env)
      let iv ← holding [v, ov] (eval i X.env)
      standAt pos
      holding [v, ov, iv] (setItem ov iv v)
      release [v, ov, iv] []) := by intro _; rfl) : PG X (.Subscript o i pos) (ie to ti t) := by
  intro pins s σ H v u Q I r h
  rw [ha]
  refine jM (kj (thn (ho pins s σ H _ I h) fun ov s1 ⟨x, H1, I1, r1, q1⟩ => ?_))
  refine jM (kj (thn (hi pins s1 σ H1 _ I1 q1) fun iv s2 ⟨y, H2, I2, r2, q2⟩ => ?_))
  refine jM (l8 (jM (kj (thn (hs pins s2 σ H2 x y v ov iv u _ I2 r1 r2 r q2) fun _ s3 ⟨H3, I3, q3⟩ => ?_))))
  exact wpAny_release ⟨σ, H3, I3, q3⟩
noncomputable def eH(te:TE)(g:TG):TS:=λD σ H=>te σ H λx H1=>g x σ H1 D.nx
theorem WG{tg e:j4}{te:TE}{g:TG}(he:PE X e te)(hg:PG X tg g)(hs:swapsWithSole [tg] e pos.line X.env=pure false:=by rfl)(hw:swappedStores [tg] e X.env=pure none:=by rfl)(h1:(assignEach [tg] X.env).map (·.2)=[assign tg X.env]:=by rfl):PS X (.Assign [tg] e pos) (eH te g):=by
 intro pins s σ H D I h
 refine wpAny_Assign_stores (thn (he pins s σ H _ I h) λv s1 ⟨x,H1,I1,r1,q1⟩=>?_) hs hw
 rw[h1]
 exact thn (hg pins s1 σ H1 x v _ I1 r1 q1) λ_ s2 q=>q
theorem Yx{i:Nat}{x:Str}{e:j4}{te:TE}{pos':Pos}(hN:X.N.Nodup)(hi:X.N[i]?=Gc x)(hx:Loc X.env.scope x)(he:PE X e te)(hs:swapsWith e (Gc (.Name x pos')) pos.line X.env=pure false:=by rfl)(hf:X.fn x=true\/X.env.scope.names.lookup x=Gc .local:=by first|exact .inl rfl|exact .inr rfl|assumption):PS X (.Assign [.Name x pos'] e pos) (eH te (Wo i)):=by
 intro pins s σ H D I h
 refine wpAny_Assign_Name (thn (he pins s σ H _ I h) λv s1 ⟨y,H1,I1,r1,q1⟩=>?_) hs
 exact K9 I1 hN hi hx r1 (λs2 I2=>⟨_,H1,I2,q1⟩) hf
noncomputable def gU(i j:Nat)(ta:TA):TS:=λD σ H=>ta σ H λvs H1=>∃v w,vs=[v,w]/\D.nx ((σ.set i (Gc v)).set j (Gc w)) H1
theorem Yq{i j:Nat}{x y:Str}{a b:j4}{ta:TA}{px py pt:Pos}{kt k2 pt2}(hc:X.calm=true)(hN:X.N.Nodup)(hi:X.N[i]?=Gc x)(hj:X.N[j]?=Gc y)(hij:i≠j)(hx:X.env.scope.names.lookup x=Gc .local)(hy:X.env.scope.names.lookup y=Gc .local)(ha:PA X [a,b] ta)(hw:swappedStores [.Tuple [.Name x px,.Name y py] kt pt] (.Tuple [a,b] k2 pt2) X.env=pure (Gc [x,y]))(hs:swapsWithSole [.Tuple [.Name x px,.Name y py] kt pt] (.Tuple [a,b] k2 pt2) pos.line X.env=pure false:=by rfl):PS X (.Assign [.Tuple [.Name x px,.Name y py] kt pt] (.Tuple [a,b] k2 pt2) pos) (gU i j ta):=by
 intro pins s σ H D I h
 rw[exec_Assign_arm]
 refine jM (l8 ?_)
 rw[hs]
 refine jM (jZ ?_)
 rw[kC (by decide)]
 refine jM (Tuple_ (thn (ha _ pins s σ H _ I h) λus s1 ⟨vs,H1,I1,r1,q1⟩=>?_))
 obtain⟨v,w,e1,q1⟩:=q1
 subst e1
 obtain⟨u1,u2,rfl,rv,rw'⟩:∃u1 u2,us=[u1,u2]/\RelV v u1/\RelV w u2:=by
  cases r1 with
  |cons p q=>
   cases q with
   |cons p' q'=>
    cases q'
    exact⟨_,_,rfl,p,p'⟩
 refine lY ?_ (by show 2<=sizeLine;decide)
 have I2:Inv X pins σ H1 {s1 with heap:=s1.heap.push {cls:=.type "tuple",data:=.seq [u1,u2].toArray}}:=I1.kept (t':=s1.toks) λb o e=>jP _ e
 rw[hw]
 refine jM (jZ ?_)
 show wpAny (model X.prog X.w) X.A (do rule "assign.swapped-stores"; let items<-unpackItems (.ref s1.heap.objs.size) 2 none;assignInOrder [λv=>bindName X.env y v,λv=>bindName X.env x v] items.reverse;pure zr) _ _ _
 refine jM (qh (jM (unpackItems_tuple (items:= #[u1,u2]) (I.ok.hd hc) (nk s1.heap _) λh' hx'=>?_)))
 have I3:=I2.kept (h':=h') (t':=s1.toks) λb o e=>hx' b o (kA (ji e)) e
 show wpAny _ _ (assignInOrder [λv=>bindName X.env y v,λv=>bindName X.env x v] [u2,u1] >>= λ_=>pure zr) _ _ _
 refine jM (pk (uc (K9 I3 hN hj (.inl hy) rw' (λs2 I4=>?_) (.inr hy))))
 refine pk (uc (K9 I4 hN hi (.inl hx) rv (λs3 I5=>si (jZ ?_)) (.inr hx)))
 rw[List.set_comm _ _ (kZ hij)]at I5
 exact⟨_,H1,I5,q1⟩
end
section
variable{X:Cx}{pos:Pos}
noncomputable def aG(c:TT)(tb:TS):TS:=λD σ H=>∃W:Nat->St->Hp->Prop,(∃m,W m σ H)/\∀m σ H,W m σ H->
 c σ H λb H1=>if b=true then∃N:St->Hp->Prop,(∀σ' H',N σ' H'->∃m',m'<m/\W m' σ' H')/\tb {D with nx:=N,ct:=N,bk:=D.nx} σ H1 else D.nx σ H1
theorem U0{c:j4}{body:Wp kE}{tc:TT}{tb:TS}(hp:tw (model X.prog X.w) X.A X.env X.xe)(hc:PT X c tc)(hb:PSs X body tb):PS X (.While c body [] pos) (aG tc tb):=by
 intro pins s σ H D I h
 obtain⟨W,⟨m0,w0⟩,turn⟩:=h
 refine wpAny_While (codeAny_whileLoop (λn s'=>∃σ' H',Inv X pins σ' H' s'/\W n σ' H') ?_ m0 ⟨σ,H,I,w0⟩)
 rintro n s1 ⟨σ1,H1,I1,w1⟩
 refine mO hp (thn (hc pins s1 σ1 H1 _ I1 (turn n σ1 H1 w1)) λb s2 ⟨H2,I2,q2⟩=>?_)
 cases b with
 |true=>
  obtain⟨N,hN,q2⟩:=q2
  rw[kJ rfl]
  refine mO hp (thn (hb pins s2 σ1 H2 _ I2 q2) λf s3 q3=>?_)
  cases f with
  |next=>
   obtain⟨σ3,H3,I3,n3⟩:=q3
   obtain⟨m',hm,w3⟩:=hN σ3 H3 n3
   exact⟨m',hm,σ3,H3,I3,w3⟩
  |cont=>
   obtain⟨σ3,H3,I3,n3⟩:=q3
   obtain⟨m',hm,w3⟩:=hN σ3 H3 n3
   exact⟨m',hm,σ3,H3,I3,w3⟩
  |brk=>exact q3
  |ret v=>exact q3
 |false=>
  rw[kC kM]
  exact oF ⟨σ1,H2,I2,q2⟩
end
structure It where
 go:Nat->Hp->Prop
 yld:Nat->Hp->V->Hp->Prop
 stop:Nat->Hp->Prop
def Pl(X:Cx)(pins:Wp (jR×Obj))(H:Hp)(b:jR):Prop:=
 H b=none/\b≠X.env.locals/\b∉X.fs/\(b∈X.ex\/X.s₀.heap.objs.size<=b)/\(∀x c,X.env.cells.lookup x=Gc c->c≠b)/\∀p∈X.pn++pins,p.1≠b
theorem Inv.YE{X:Cx}{pins:Wp (jR×Obj)}{σ:St}{H H':Hp}{s:jQ}{b:jR}(I:Inv X pins σ H s)(hb:s.heap.objs.size<=b)(hn:H' b=none):Pl X pins H' b:=by
 refine⟨hn,oR (jV I.lt hb),I.iD hb,.inr (jY I.sz hb),λx c e z=>?_,λp hp z=>?_⟩
 .obtain⟨v,q⟩:=I.cell x c e
  exact absurd (jV q.lt (by rw[z];exact hb)) (lI _)
 .exact absurd (jV (ji (I.pin p hp).1) (by rw[z];exact hb)) (lI _)
structure Turn(P:js)(w:j6)(K:W1)(tg:j4)(J:It)(fp:Wp jR)(it:jR)(tn:Nat->j0->Prop):Prop where
 mem:it∈fp
 obj:∀i h,tn i h->∀b∈fp,∃o,h.get? b=Gc o/\∀v,o.data≠.cell v
 keep:∀i h h',tn i h->(∀b∈fp,∀o,h.get? b=Gc o->h'.get? b=Gc o)->tn i h'
 item:∀(X:Cx),X.prog=P->X.w=w->X.K=K->X.calm=true->∀(i:Nat) (pins:Wp (jR×Obj)) (s:jQ) (σ:St) (H:Hp) (E:jN->jQ->Prop),Inv X pins σ H s->(∀b∈fp,Pl X pins H b)->tn i s.heap->J.go i H->
  wpAny (model P w) X.A (pyNext (.ref it)) (λr s1=>∃u,r=Gc u/\
   wpAny (model P w) X.A (letOwnedTupleGo tg (.ref it) u) (λ_ s2=>∃x H',Inv X pins σ H' s2/\RelV x u/\J.yld i H x H'/\tn (i+1) s2.heap/\∀b∈fp,H' b=none) E s1) E s
 done:∀(X:Cx),X.prog=P->X.w=w->X.K=K->X.calm=true->∀(i:Nat) (pins:Wp (jR×Obj)) (s:jQ) (σ:St) (H:Hp) (E:jN->jQ->Prop),Inv X pins σ H s->(∀b∈fp,Pl X pins H b)->tn i s.heap->J.stop i H->
  wpAny (model P w) X.A (pyNext (.ref it)) (λr s1=>r=none/\Inv X pins σ H s1) E s
 self:∀(A:kK) (i:Nat) (s:jQ) (Q:jN->jQ->Prop) (E:jN->jQ->Prop),tn i s.heap->Q (.ref it) s->wpAny (model P w) A (pyIter (.ref it)) Q E s
abbrev TI:=St->Hp->(It->Hp->Prop)->Prop
def PIE(X:Cx)(pins:Wp (jR×Obj))(σ:St)(tg:j4)(R:It->Hp->Prop)(itv:jN)(s2:jQ):Prop:=
 ∃(it:jR) (fp:Wp jR) (tn:Nat->j0->Prop) (J:It) (H':Hp),itv=.ref it/\Inv X pins σ H' s2/\Turn X.prog X.w X.K tg J fp it tn/\tn 0 s2.heap/\(∀b∈fp,Pl X pins H' b)/\R J H'
def PI(X:Cx)(tg iter:j4)(wi:TI):Prop:=
 ∀(pins:Wp (jR×Obj)) (s:jQ) (σ:St) (H:Hp) (R:It->Hp->Prop),Inv X pins σ H s->wi σ H R->
  wpAny (model X.prog X.w) X.A (eval iter X.env) (λv s1=>wpAny (model X.prog X.w) X.A (pyIter v) (PIE X pins σ tg R) X.xe s1) X.xe s
theorem XR{M:sA}{A:kK}{E:jN->jQ->Prop}{s:jQ}{tg:j4}{it:jR}{u:jN}{o:Obj}{n:lx}{vs:kP jN}{Q:Unit->jQ->Prop}(ho:s.heap.get? it=Gc o)(hc:o.cls=.type n)(hd:o.data=.fields vs)(hn:["enumerate","zip","dict_itemiterator","dict_reverseitemiterator","odict_iterator","itertools.zip_longest","itertools.pairwise"].contains n=false)(hQ:Q () s):wpAny M A (letOwnedTupleGo tg (.ref it) u) Q E s:=by
 unfold letOwnedTupleGo
 cases tg<;>first
  |exact jZ hQ
  |(cases u<;>first
     |exact jZ hQ
     |(refine jM (wpAny_load ho ?_)
       rw[hc,hd]
       show wpAny M A (if(["enumerate","zip","dict_itemiterator","dict_reverseitemiterator","odict_iterator","itertools.zip_longest","itertools.pairwise"].contains n && vs[0]?==Gc (rawInt _))=true then _ else _) Q E s
       rw[kC (by intro h;rw[hn,Bool.false_and]at h;cases h)]
       exact jZ hQ))
noncomputable def Itl(K:W1)(a:jR):It:=
 ⟨λi H=>∃xs x,SqL K H a xs/\xs[i]?=Gc x,λi H x H'=>H'=H/\∀xs,SqL K H a xs->xs[i]?=Gc x,λi H=>∃xs,SqL K H a xs/\xs.length<=i⟩
noncomputable def Itt(K:W1)(a:jR):It:=
 ⟨λi H=>∃xs x,SqT K H a xs/\xs[i]?=Gc x,λi H x H'=>H'=H/\∀xs,SqT K H a xs->xs[i]?=Gc x,λi H=>∃xs,SqT K H a xs/\xs.length<=i⟩
noncomputable def Itr(lo:Int)(n:Nat):It:=⟨λi _=>i<n,λi H x H'=>H'=H/\x=.int (lo+i),λi _=>n<=i⟩
theorem SM{P:js}{w:j6}{K:W1}{tg:j4}(a it:jR):Turn P w K tg (Itl K a) [it] it (λi h=>h.IsListIter it a i) where
 mem:=by simp
 obj:=λi h st b hb=>by
  have e:b=it:=by simpa using hb
  subst e
  obtain⟨o,e,c,d⟩:=st
  exact⟨o,e,λv z=>by rw[d]at z;cases z⟩
 keep:=λi h h' st k=>st.at λo e=>k it (by simp) o e
 item:=by
  intro X hP hw hK hc i pins s σ H E I hf st hg
  subst hP hw hK
  obtain⟨xs,x,hq,hx⟩:=hg
  obtain⟨its,rv,p,hz⟩:=I.list hq
  obtain⟨u,hu,ru⟩:=rv.get hx
  obtain⟨f0,f1,f2,f3,f4,f5⟩:=hf it (by simp)
  refine oS st p.isList (x:=u) (by simpa using hu) λh' st' sb=>?_
  have I1:Inv X pins σ H {s with heap:=h'}:=I.turned (t':=s.toks) (λb o hb e=>(sb.2 b hb).trans e) f0 f1 f3 f4 f5
  obtain⟨o,e,c,d⟩:=id st'
  exact⟨u,rfl,XR (s:={s with heap:=h'}) e c d (by decide) ⟨x,H,I1,ru,⟨rfl,λys hy=>by rw[I.Q7 hy hq];exact hx⟩,st',λb hb=>(hf b hb).1⟩⟩
 done:=by
  intro X hP hw hK hc i pins s σ H E I hf st hg
  subst hP hw hK
  obtain⟨xs,hq,hx⟩:=hg
  obtain⟨its,rv,p,hz⟩:=I.list hq
  obtain⟨f0,f1,f2,f3,f4,f5⟩:=hf it (by simp)
  have hl:=rv.length
  exact oq (I.ok.hd hc) st p.isList (by simp;lia) λh' eb=>⟨rfl,I.turned (t':=s.toks) (λb o hb e=>eb b o hb e) f0 f1 f3 f4 f5⟩
 self:=λ_ _ _ _ _ st h=>qy st h
theorem RG{P:js}{w:j6}{K:W1}{tg:j4}(a it:jR):Turn P w K tg (Itt K a) [it] it (λi h=>h.IsTupleIter it a i) where
 mem:=by simp
 obj:=λi h st b hb=>by
  have e:b=it:=by simpa using hb
  subst e
  obtain⟨o,e,c,d⟩:=st
  exact⟨o,e,λv z=>by rw[d]at z;cases z⟩
 keep:=λi h h' st k=>st.at λo e=>k it (by simp) o e
 item:=by
  intro X hP hw hK hc i pins s σ H E I hf st hg
  subst hP hw hK
  obtain⟨xs,x,hq,hx⟩:=hg
  obtain⟨its,rv,p,hz⟩:=I.tuple hq
  obtain⟨u,hu,ru⟩:=rv.get hx
  obtain⟨f0,f1,f2,f3,f4,f5⟩:=hf it (by simp)
  refine wpAny_pyNext_tuple_item st (show s.heap.IsTuple a its.toArray from p) (x:=u) (by simpa using hu) λh' st' sb=>?_
  have I1:Inv X pins σ H {s with heap:=h'}:=I.turned (t':=s.toks) (λb o hb e=>(sb.2 b hb).trans e) f0 f1 f3 f4 f5
  obtain⟨o,e,c,d⟩:=id st'
  exact⟨u,rfl,XR (s:={s with heap:=h'}) e c d (by decide) ⟨x,H,I1,ru,⟨rfl,λys hy=>by rw[I.Oh hy hq];exact hx⟩,st',λb hb=>(hf b hb).1⟩⟩
 done:=by
  intro X hP hw hK hc i pins s σ H E I hf st hg
  subst hP hw hK
  obtain⟨xs,hq,hx⟩:=hg
  obtain⟨its,rv,p,hz⟩:=I.tuple hq
  obtain⟨f0,f1,f2,f3,f4,f5⟩:=hf it (by simp)
  have hl:=rv.length
  exact wpAny_pyNext_tuple_end (I.ok.hd hc) st (show s.heap.IsTuple a its.toArray from p) (by simp;lia) λh' eb=>⟨rfl,I.turned (t':=s.toks) (λb o hb e=>eb b o hb e) f0 f1 f3 f4 f5⟩
 self:=λ_ _ _ _ _ st h=>wpAny_pyIter_tupleiter st h
theorem Rh{P:js}{w:j6}{K:W1}{tg:j4}(it:jR)(lo:Int)(n:Nat):Turn P w K tg (Itr lo n) [it] it (λi h=>xM h it (lo+(i:Nat)*1) ((n:Int)-(i:Nat)) 1) where
 mem:=by simp
 obj:=λi h st b hb=>by
  have e:b=it:=by simpa using hb
  subst e
  exact⟨_,st,λv z=>by
   have z':uI _=Data.cell v:=z
   cases z'⟩
 keep:=λi h h' st k=>k it (by simp) _ st
 item:=by
  intro X hP hw hK hc i pins s σ H E I hf st hg
  subst hP hw hK
  obtain⟨f0,f1,f2,f3,f4,f5⟩:=hf it (by simp)
  have W:=Walks.range (prog:=X.prog) (w:=X.w) (I.ok.hd hc) it lo 1 n
  refine W.item i s _ _ hg st λv h' tk hv st' kk=>?_
  obtain⟨t,rfl⟩:=hv
  have I1:Inv X pins σ H {s with heap:=h',toks:=tk}:=I.turned (λb o hb e=>kk b o (by simpa using hb) e) f0 f1 f3 f4 f5
  refine⟨_,rfl,XR (s:={s with heap:=h',toks:=tk}) (n:="range_iterator") st' rfl rfl (by decide) ⟨.int (lo+i),H,I1,⟨t,?_⟩,⟨rfl,rfl⟩,st',λb hb=>(hf b hb).1⟩⟩
  rw[Int.mul_one]
 done:=by
  intro X hP hw hK hc i pins s σ H E I hf st hg
  subst hP hw hK
  obtain⟨f0,f1,f2,f3,f4,f5⟩:=hf it (by simp)
  exact wpAny_pyNext_range_end (I.ok.hd hc) st (by have:n<=i:=hg;lia) λh' eb=>⟨rfl,I.turned (t':=s.toks) (λb o hb e=>eb b o hb e) f0 f1 f3 f4 f5⟩
 self:=λ_ _ _ _ _ st h=>wpAny_pyIter_rangeiter st h
end L2
namespace L2
open PySem PySem.Spec PyProof.Rows
section
variable{X:Cx}{tg:j4}
theorem U3{pins:Wp (jR×Obj)}{σ:St}{H:Hp}{s:jQ}{R:It->Hp->Prop}{E:jN->jQ->Prop}{lo hi:Int}{t u v:Tok}{tk:Nat}(I:Inv X pins σ H s)(h1: -(2^62)<=lo)(h2:lo<2^62)(h3: -(2^62)<=hi)(h4:hi<2^62)(q:R (Itr lo (hi-lo).toNat) H):wpAny (model X.prog X.w) X.A (pyIter (.ref s.heap.objs.size)) (PIE X pins σ tg R) E {s with heap:=s.heap.push {cls:=.type "range",data:=.fields #[.int lo t,.int hi u,.int 1 v]},toks:=tk}:=by
 refine wpAny_pyIter_range (IsRange.new ..) (small_one h1 h2 h3 h4) ?_
 have I1:Inv X pins σ H {s with heap:=s.heap.push {cls:=.type "range",data:=.fields #[.int lo t,.int hi u,.int 1 v]},toks:=tk}:=I.kept λb o e=>jP _ e
 refine⟨(s.heap.push {cls:=.type "range",data:=.fields #[.int lo t,.int hi u,.int 1 v]}).objs.size,[(s.heap.push {cls:=.type "range",data:=.fields #[.int lo t,.int hi u,.int 1 v]}).objs.size],_,_,H,rfl,
  I1.kept (t':=tk) λb o e=>jP _ e,Rh _ lo (hi-lo).toNat,?_,λb hb=>?_,q⟩
 .have e1:lo+((0:Nat):Int)*1=lo:=by simp
  have e2:(((hi-lo).toNat:Nat):Int)-((0:Nat):Int)=ve lo hi 1:=by rw[rangeSize_one];split<;>lia
  show xM _ _ (lo+((0:Nat):Int)*1) ((((hi-lo).toNat:Nat):Int)-((0:Nat):Int)) 1
  rw[e1,e2]
  exact jx _ rfl
 .have e:b=(s.heap.push {cls:=.type "range",data:=.fields #[.int lo t,.int hi u,.int 1 v]}).objs.size:=by simpa using hb
  subst e
  exact I1.YE (ja _) (I1.hok.fresh (ja _))
noncomputable def dz(ta:TA):TI:=λσ H R=>ta σ H λvs H1=>∃j:Int,vs=[.int j]/\ -(2^62)<=j/\j<2^62/\R (Itr 0 j.toNat) H1
theorem Sj{a:j4}{ta:TA}{p pos:Pos}(hg:Gl X "range")(hm:X.mg "range"=none)(ha:PA X [a] ta)(hs:ju [a] X.env=[(false,eval a X.env)]:=by rfl):PI X tg (.Call (.Name "range" p) [a] [] pos) (dz ta):=by
 intro pins s σ H R I h
 refine Call_ (NV I hg hm boot_range (nO (thn (ha pos pins s σ H _ I h) λus s1 ⟨vs,H1,I1,r1,q1⟩=>?_) hs rfl))
 obtain⟨j,e,q1,q2,q⟩:=q1
 subst e
 cases r1 with
 |cons r rr=>
  cases rr
  obtain⟨t,rfl⟩:=r
  exact call_range_1 (U3 I1 (by lia) (by lia) q1 q2 (by simpa using q))
noncomputable def gS(wi:TI)(g:TG)(tb:TS):TS:=λD σ H=>wi σ H λJ H1=>∃W:Nat->Nat->St->Hp->Prop,(∃m,W 0 m σ H1)/\∀i m σ H,W i m σ H->
 (J.stop i H/\D.nx σ H)\/(J.go i H/\∃N:St->Hp->Prop,(∀σ' H',N σ' H'->∃m',m'<m/\W (i+1) m' σ' H')/\∀x H',J.yld i H x H'->g x σ H' λσ2 H2=>tb {D with nx:=N,ct:=N,bk:=D.nx} σ2 H2)
noncomputable def OS(fp:Wp jR)(h:j0):Wp (jR×Obj):=fp.filterMap λb=>(h.get? b).map λo=>(b,o)
theorem IQ{fp:Wp jR}{h:j0}{b:jR}{o:Obj}(hb:b∈fp)(e:h.get? b=Gc o):(b,o)∈OS fp h:=sL.mpr ⟨b,hb,by rw[e];rfl⟩
theorem UG{fp:Wp jR}{h:j0}{p:jR×Obj}(hp:p∈OS fp h):p.1∈fp/\h.get? p.1=Gc p.2:=by
 obtain⟨b,hb,e⟩:=sL.mp hp
 cases q:h.get? b with
 |none=>rw[q]at e;cases e
 |some o=>
  rw[q]at e
  have e':(b,o)=p:=kg e
  subst e'
  exact⟨hb,q⟩
theorem Inv.pinned{pins:Wp (jR×Obj)}{σ:St}{H:Hp}{s:jQ}{fp:Wp jR}(I:Inv X pins σ H s)(hf:∀b∈fp,Pl X pins H b)(ho:∀b∈fp,∃o,s.heap.get? b=Gc o/\∀v,o.data≠.cell v):Inv X (pins++OS fp s.heap) σ H s:=
 I.UE λp hp=>(kB.mp hp).elim (λz=>I.pin p (kL _ z)) λz=>by
  obtain⟨hb,e⟩:=UG z
  obtain⟨f0,f1,f2,_⟩:=hf p.1 hb
  obtain⟨o,e',d⟩:=ho p.1 hb
  rw[e]at e';cases e'
  exact⟨e,f0,f1,f2,d⟩
theorem Inv.K8{pins pl:Wp (jR×Obj)}{σ:St}{H:Hp}{s:jQ}(I:Inv X (pins++pl) σ H s):Inv X pins σ H s:=I.UE λp hp=>I.pin p (kL _ (pI _ hp))
theorem aF{iter:j4}{body:Wp kE}{wi:TI}{g:TG}{tb:TS}{pos:Pos}(hp:tw (model X.prog X.w) X.A X.env X.xe)(hc:X.calm=true)(hi:PI X tg iter wi)(hg:PG X tg g)(hb:PSs X body tb)(hs:∀x,foldedSetIterable iter X.env x=pure x:=by intro _;rfl):PS X (.For tg iter body [] pos) (gS wi g tb):=by
 intro pins s σ H D I h
 refine wpAny_For (thn (hi pins s σ H _ I h) λv s1 h1=>thn h1 λitv s2 h2=>?_) hs
 obtain⟨it,fp,tn,J,H2,e,I2,T,st2,f2,W,⟨m0,w0⟩,turn⟩:=h2
 subst e
 have stat:∀{H':Hp},(∀b∈fp,H' b=none)->∀b∈fp,Pl X pins H' b:=λhn b hb=>⟨hn b hb,(f2 b hb).2⟩
 refine codeAny_forLoop_any (λn s'=>∃i σ' H',Inv X pins σ' H' s'/\tn i s'.heap/\(∀b∈fp,H' b=none)/\W i n σ' H') ?_ m0 ⟨0,σ,H2,I2,st2,λb hb=>(f2 b hb).1,w0⟩
 rintro n s3 ⟨i,σ3,H3,I3,st3,fr3,w3⟩
 rcases turn i n σ3 H3 w3 with⟨stop,qn⟩|⟨go,N,hN,step⟩
 .refine mO hp (thn (T.done X rfl rfl rfl hc i pins s3 σ3 H3 X.xe I3 (stat fr3) st3 stop) λr s4 ⟨hr,I4⟩=>?_)
  subst hr
  exact oF ⟨σ3,H3,I4,qn⟩
 .refine mO hp (thn (T.item X rfl rfl rfl hc i pins s3 σ3 H3 X.xe I3 (stat fr3) st3 go) λr s4 ⟨u,hr,h4⟩=>?_)
  subst hr
  refine mO hp (thn h4 λ_ s5 ⟨x,H5,I5,r5,y5,st5,fr5⟩=>?_)
  have I5':=I5.pinned (stat fr5) (T.obj _ _ st5)
  refine mO hp (thn (hg _ s5 σ3 H5 x u _ I5' r5 (step x H5 y5)) λ_ s6 ⟨σ6,H6,I6,q6⟩=>?_)
  refine mO hp (thn (hb _ s6 σ6 H6 _ I6 q6) λf s7 q7=>?_)
  have again:∀{σ7:St} {H7:Hp},Inv X (pins++OS fp s5.heap) σ7 H7 s7->N σ7 H7->∃m,m<n/\∃i σ' H',Inv X pins σ' H' s7/\tn i s7.heap/\(∀b∈fp,H' b=none)/\W i m σ' H':=λ{σ7 H7} I7 n7=>by
   obtain⟨m',hm,w7⟩:=hN σ7 H7 n7
   refine⟨m',hm,i+1,σ7,H7,I7.K8,T.keep _ _ _ st5 λb hb o e=>(I7.pin (b,o) (kL _ (kL _ (IQ hb e)))).1,λb hb=>?_,w7⟩
   obtain⟨o,e,d⟩:=T.obj _ _ st5 b hb
   exact(I7.pin (b,o) (kL _ (kL _ (IQ hb e)))).2.1
  cases f with
  |next=>obtain⟨σ7,H7,I7,n7⟩:=q7;exact again I7 n7
  |cont=>obtain⟨σ7,H7,I7,n7⟩:=q7;exact again I7 n7
  |brk=>obtain⟨σ7,H7,I7,q7⟩:=q7;exact⟨σ7,H7,I7.K8,q7⟩
  |ret v=>obtain⟨x7,σ7,H7,I7,r7,q7⟩:=q7;exact⟨x7,σ7,H7,I7.K8,r7,q7⟩
end
end L2
namespace L2
open PySem PySem.Spec PyProof.Rows
abbrev R2:=V->V->Hp->VK->Prop
def OpR(X:Cx)(f:jN->jN->Sem jN)(r:R2):Prop:=
 ∀(pins:Wp (jR×Obj)) (s:jQ) (σ:St) (H:Hp) (x y:V) (v u:jN) (Q:VK),Inv X pins σ H s->RelV x v->RelV y u->r x y H Q->
  wpAny (model X.prog X.w) X.A (f v u) (EP X pins σ Q) X.xe s
def UnR(X:Cx)(f:jN->Sem jN)(r:V->Hp->VK->Prop):Prop:=
 ∀(pins:Wp (jR×Obj)) (s:jQ) (σ:St) (H:Hp) (x:V) (v:jN) (Q:VK),Inv X pins σ H s->RelV x v->r x H Q->
  wpAny (model X.prog X.w) X.A (f v) (EP X pins σ Q) X.xe s
def FN(X:Cx)(f:jN)(r:Wp V->Hp->VK->Prop):Prop:=
 ∀(pins:Wp (jR×Obj)) (s:jQ) (σ:St) (H:Hp) (xs:Wp V) (us:Wp jN) (Q:VK),Inv X pins σ H s->Vals xs us->r xs H Q->
  wpAny (model X.prog X.w) X.A (call f us) (EP X pins σ Q) X.xe s
noncomputable def tOp(r:R2)(ta tb:TE):TE:=λσ H Q=>ta σ H λx H1=>tb σ H1 λy H2=>r x y H2 Q
noncomputable def tUn(r:V->Hp->VK->Prop)(ta:TE):TE:=λσ H Q=>ta σ H λx H1=>r x H1 Q
noncomputable def rI(C:Int->Int->Prop)(g:Int->Int->V):R2:=λx y H Q=>∃i j,x=.int i/\y=.int j/\C i j/\Q (g i j) H
noncomputable def rI0(g:Int->Int->V):R2:=λx y H Q=>∃i j,x=.int i/\y=.int j/\Q (g i j) H
def rU(g:Int->V):V->Hp->VK->Prop:=λx H Q=>∃i,x=.int i/\Q (g i) H
section
variable{X:Cx}{a b c:j4}{ta tb tc:TE}{pos:Pos}
theorem cP(ha:PE X a ta)(hb:PE X b tb){pins:Wp (jR×Obj)}{s:jQ}{σ:St}{H:Hp}{R:V->V->Hp->Prop}(I:Inv X pins σ H s)(h:ta σ H λx H1=>tb σ H1 λy H2=>R x y H2){Q:jN->jQ->Prop}{f:jN->jN->Sem jN}(hf:∀v u s2 x y H2,Inv X pins σ H2 s2->RelV x v->RelV y u->R x y H2->wpAny (model X.prog X.w) X.A (f v u) Q X.xe s2):wpAny (model X.prog X.w) X.A (eval a X.env) (λv s₁=>wpAny (model X.prog X.w) X.A (eval b X.env) (λu s₂=>wpAny (model X.prog X.w) X.A (f v u) Q X.xe s₂) X.xe s₁) X.xe s:=by
 refine thn (ha pins s σ H _ I h) λv s1 ⟨x,H1,I1,r1,q1⟩=>?_
 refine thn (hb pins s1 σ H1 _ I1 q1) λu s2 ⟨y,H2,I2,r2,q2⟩=>?_
 exact hf v u s2 x y H2 I2 r1 r2 q2
theorem eP{op:Operator}{r:R2}(ho:OpR X (binaryOp op) r)(ha:PE X a ta)(hb:PE X b tb):PE X (.BinOp a op b pos) (tOp r ta tb):=by
 intro pins s σ H Q I h
 exact wpAny_BinOp (cP ha hb I h λv u s2 x y H2 I2 rx ry q=>ho pins s2 σ H2 x y v u Q I2 rx ry q)
theorem cW{op:UnaryOp}{r:V->Hp->VK->Prop}(ho:UnR X (unaryOp op) r)(ha:PE X a ta):PE X (.UnaryOp op a pos) (tUn r ta):=by
 intro pins s σ H Q I h
 exact UnaryOp_ (thn (ha pins s σ H _ I h) λv s1 ⟨x,H1,I1,r1,q1⟩=>ho pins s1 σ H1 x v Q I1 r1 q1)
theorem opI{f:jN->jN->Sem jN}{C:Int->Int->Prop}{g:Int->Int->Int}(rule:∀(i j:Int) (t u:Tok) (s:jQ) (Q:jN->jQ->Prop) (E:jN->jQ->Prop),C i j->Q (.int (g i j) s.toks) {s with toks:=s.toks+1}->wpAny (model X.prog X.w) X.A (f (.int i t) (.int j u)) Q E s):OpR X f (rI C λi j=>.int (g i j)):=by
 intro pins s σ H x y v u Q I rx ry h
 obtain⟨i,j,rfl,rfl,hc,q⟩:=h
 obtain⟨t,rfl⟩:=rx
 obtain⟨t',rfl⟩:=ry
 exact rule i j t t' s _ _ hc ⟨.int (g i j),H,I.tok _,⟨_,rfl⟩,q⟩
theorem fE{f:jN->jN->Sem jN}{g:Int->Int->Int}(rule:∀(i j:Int) (t u:Tok) (s:jQ) (Q:jN->jQ->Prop) (E:jN->jQ->Prop),Q (.int (g i j) s.toks) {s with toks:=s.toks+1}->wpAny (model X.prog X.w) X.A (f (.int i t) (.int j u)) Q E s):OpR X f (rI0 λi j=>.int (g i j)):=by
 intro pins s σ H x y v u Q I rx ry h
 obtain⟨i,j,rfl,rfl,q⟩:=h
 obtain⟨t,rfl⟩:=rx
 obtain⟨t',rfl⟩:=ry
 exact rule i j t t' s _ _ ⟨.int (g i j),H,I.tok _,⟨_,rfl⟩,q⟩
theorem bY{f:jN->jN->Sem jN}{g:Int->Int->kG}(rule:∀(i j:Int) (t u:Tok) (s:jQ) (Q:jN->jQ->Prop) (E:jN->jQ->Prop),Q (.bool (g i j)) s->wpAny (model X.prog X.w) X.A (f (.int i t) (.int j u)) Q E s):OpR X f (rI0 λi j=>.bl (g i j)):=by
 intro pins s σ H x y v u Q I rx ry h
 obtain⟨i,j,rfl,rfl,q⟩:=h
 obtain⟨t,rfl⟩:=rx
 obtain⟨t',rfl⟩:=ry
 exact rule i j t t' s _ _ ⟨.bl (g i j),H,I,rfl,q⟩
def iS(i j:Int):Prop:=0<=j/\j<=1000000/\i.natAbs<2^64
def cR(i j:Int):Prop:=(-(2^64)<i/\i<2^64)\/(-(2^64)<j/\j<2^64)
theorem cR.ok{i j:Int}(h:cR i j):IntMulOk i j:=by
 rcases h with⟨h1,h2⟩|⟨h1,h2⟩
 .exact .of_left (vP h1 h2)
 .exact .of_right (vP h1 h2)
theorem Z4:OpR X (binaryOp .Add) (rI0 λi j=>.int (i+j)):=fE λ_ _ _ _ _ _ _ q=>add_int q
theorem ZU:OpR X (binaryOp .Sub) (rI0 λi j=>.int (i-j)):=fE λ_ _ _ _ _ _ _ q=>sub_int q
theorem WV:OpR X (binaryOp .Mult) (rI cR λi j=>.int (i*j)):=opI λ_ _ _ _ _ _ _ hc q=>vB q hc.ok
theorem Zv:OpR X (binaryOp .Mod) (rI (λ_ j=>0<j) λi j=>.int (i % j)):=opI λi j _ _ _ _ _ hc q=>by
 have h1:(0:Int)<j:=hc
 exact mod_int' (by lia) (by rw[Int.fmod_eq_emod_of_nonneg i (by lia)];exact q)
theorem Y4:OpR X (binaryOp .Pow) (rI iS λi j=>.int (i^j.toNat)):=opI λ_ _ _ _ _ _ _ hc q=>pow_int_small hc.1 hc.2.1 hc.2.2 q
theorem unI{f:jN->Sem jN}{g:Int->Int}(rule:∀(i:Int) (t:Tok) (s:jQ) (Q:jN->jQ->Prop) (E:jN->jQ->Prop),Q (.int (g i) s.toks) {s with toks:=s.toks+1}->wpAny (model X.prog X.w) X.A (f (.int i t)) Q E s):UnR X f (rU λi=>.int (g i)):=by
 intro pins s σ H x v Q I rx h
 obtain⟨i,rfl,q⟩:=h
 obtain⟨t,rfl⟩:=rx
 exact rule i t s _ _ ⟨.int (g i),H,I.tok _,⟨_,rfl⟩,q⟩
theorem ZW:UnR X (unaryOp .USub) (rU λi=>.int (-i)):=unI λ_ _ _ _ _ q=>neg_int q
end
section
variable{X:Cx}{a b c:j4}{ta tb tc:TE}{pos:Pos}
theorem Yu{pins:Wp (jR×Obj)}{σ:St}{H:Hp}{s:jQ}{Q:VK}{k k':kG}(I:Inv X pins σ H s)(q:Q (.bl k) H)(e:k=k'):EP X pins σ Q (.bool k') s:=by
 subst e
 exact⟨.bl k,H,I,rfl,q⟩
theorem cw:OpR X (compareOp .Lt) (rI0 λi j=>.bl (decide (i<j))):=bY λ_ _ _ _ _ _ _ q=>lt_int q
theorem eE:OpR X (compareOp .LtE) (rI0 λi j=>.bl (decide (i<=j))):=bY λ_ _ _ _ _ _ _ q=>le_int q
theorem dZ:OpR X (compareOp .Gt) (rI0 λi j=>.bl (decide (j<i))):=bY λ_ _ _ _ _ _ _ q=>gt_int q
theorem cg:OpR X (compareOp .GtE) (rI0 λi j=>.bl (decide (j<=i))):=bY λ_ _ _ _ _ _ _ q=>ge_int q
theorem XB:OpR X (compareOp .IsNot) (λx y H Q=>y=.non/\Q (.bl (!decide (x=.non))) H):=by
 intro pins s σ H x y v u Q I rx ry h
 obtain⟨rfl,q⟩:=h
 cases ry
 refine isnot_none_gen (Yu I q ?_)
 cases x<;>first
  |(cases rx;rfl)
  |(obtain⟨t,rfl⟩:=rx;rfl)
theorem Xf{op:CmpOp}{r:R2}(ho:OpR X (compareOp op) r)(ha:PE X a ta)(hb:PE X b tb)(hm:behindInMarks op b=false):PE X (.Compare a [op] [b] pos) (tOp r ta tb):=by
 intro pins s σ H Q I h
 exact wpAny_Compare1 (cP ha hb I h λv u s2 x y H2 I2 rx ry q=>ho pins s2 σ H2 x y v u Q I2 rx ry q) hm
noncomputable def aE(t:TE):TT:=λσ H Q=>t σ H λx H'=>∃k,x=.bl k/\Q k H'
theorem W8{op:CmpOp}{r:R2}(ho:OpR X (compareOp op) r)(ha:PE X a ta)(hb:PE X b tb)(hm:behindInMarks op b=false):PT X (.Compare a [op] [b] pos) (aE (tOp r ta tb)):=by
 intro pins s σ H Q I h
 refine wpAny_isTrue_Compare1 (thn (ha pins s σ H _ I h) λv s1 ⟨x,H1,I1,r1,q1⟩=>thn (hb pins s1 σ H1 _ I1 q1) λu s2 ⟨y,H2,I2,r2,q2⟩=>
  thn (ho pins s2 σ H2 x y v u _ I2 r1 r2 q2) λc s3 ⟨z,H3,I3,r3,k,e,q3⟩=>?_) hm
 subst e
 cases r3
 exact oQ ⟨H3,I3,q3⟩
theorem PL:(sizeLine:Nat)<2^63:=by rw[nT];decide
theorem RK:OpR X (binaryOp .Add) (λx y H Q=>∃i j,x=.str i/\y=.str j/\i.length+j.length<=sizeLine/\Q (.str (i++j)) H):=by
 intro pins s σ H x y v u Q I rx ry h
 obtain⟨i,j,rfl,rfl,hz,q⟩:=h
 obtain⟨t,rfl⟩:=rx
 obtain⟨t',rfl⟩:=ry
 exact add_str (λt' tk=>⟨.str (i++j),H,I.tok _,⟨_,rfl⟩,q⟩) hz
theorem vals1{x:V}{us:Wp jN}(r:Vals [x] us):∃u,us=[u]/\RelV x u:=by
 cases r with
 |cons r1 r2=>cases r2;exact⟨_,rfl,r1⟩
theorem vals2{x y:V}{us:Wp jN}(r:Vals [x,y] us):∃u w',us=[u,w']/\RelV x u/\RelV y w':=by
 cases r with
 |cons r1 r2=>
  cases r2 with
  |cons r3 r4=>cases r4;exact⟨_,_,rfl,r1,r3⟩
theorem VQ:FN X (.builtin "abs") (λxs H Q=>∃i,xs=[.int i]/\Q (.int (if i<0 then-i else i)) H):=by
 intro pins s σ H xs us Q I r h
 obtain⟨i,rfl,q⟩:=h
 obtain⟨u,rfl,t,rfl⟩:=vals1 r
 exact call_abs_int λu tk=>⟨.int (if i<0 then-i else i),H,I.tok _,⟨_,rfl⟩,q⟩
theorem Tw(hc:X.calm=true):FN X (.builtin "max") (λxs H Q=>∃i j,xs=[.int i,.int j]/\Q (.int (if j>i then j else i)) H):=by
 intro pins s σ H xs us Q I r h
 obtain⟨i,j,rfl,q⟩:=h
 obtain⟨u,w',rfl,⟨t,rfl⟩,⟨t',rfl⟩⟩:=vals2 r
 refine max_two_ints (I.ok.hd hc) λh' tk k=>⟨_,H,I.kept k,?_,q⟩
 by_cases hj:j>i
 .rw[kJ hj,kJ hj];exact⟨_,rfl⟩
 .rw[kC hj,kC hj];exact⟨_,rfl⟩
theorem TN(hc:X.calm=true):FN X (.builtin "min") (λxs H Q=>∃i j,xs=[.int i,.int j]/\Q (.int (if j<i then j else i)) H):=by
 intro pins s σ H xs us Q I r h
 obtain⟨i,j,rfl,q⟩:=h
 obtain⟨u,w',rfl,⟨t,rfl⟩,⟨t',rfl⟩⟩:=vals2 r
 refine min_two_ints (I.ok.hd hc) λh' tk k=>⟨_,H,I.kept k,?_,q⟩
 by_cases hj:j<i
 .rw[kJ hj,kJ hj];exact⟨_,rfl⟩
 .rw[kC hj,kC hj];exact⟨_,rfl⟩
theorem Ov:FN X (.type "int") (λxs H Q=>(∃i,xs=[.int i]/\Q (.int i) H)\/∃k,xs=[.bl k]/\Q (.int (if k then 1 else 0)) H):=by
 intro pins s σ H xs us Q I r h
 rcases h with⟨i,rfl,q⟩|⟨k,rfl,q⟩
 .obtain⟨u,rfl,t,rfl⟩:=vals1 r
  exact call_int_int ⟨.int i,H,I,⟨_,rfl⟩,q⟩
 .obtain⟨u,rfl,r1⟩:=vals1 r
  cases r1
  exact call_int_bool ⟨.int (if k then 1 else 0),H,I.tok _,⟨_,rfl⟩,q⟩
end
end L2
namespace L2
open PySem PySem.Spec PyProof.Rows
structure dy(h:j0)(x dx C:jR)(mA:Str->jO jN):Prop where
 obj:h.get? x=Gc (qu C dx)
 ns:h.Ns1 dx mA
 ne:dx≠x
theorem OV{h:j0}{dx:jR}{mA:Str->jO jN}(n:h.Ns1 dx mA):∃od,h.get? dx=Gc od/\∀name,rC name od=Gc (mA name):=by
 obtain⟨o,es,ep,ho,hd,hk,_,hm⟩:=n
 refine⟨o,ho,λname=>?_⟩
 have e:=hm name
 unfold nsFind findBy at e
 rw[<-sM]at e
 unfold rC
 rw[hd]
 dsimp only
 split
 .rename_i y q
  rw[q]at e
  exact congrArg Gc e
 .rename_i q
  rw[q]at e
  have a:es.toList.any (·.refKey)=false:=by
   rw[qL]
   intro y hy
   obtain⟨z,t,hkey⟩:=hk y (Array.mem_toList_iff.mp hy)
   simp[zt,hkey]
  have a':¬es.toList.any (·.refKey)=true:=by rw[a];exact kM
  rw[kC a']
  exact congrArg Gc e
theorem dy.look{h:j0}{x dx C:jR}{mA:Str->jO jN}(I:dy h x dx C mA):∃od,oU h x (qu C dx) C (Gc od)/\∀name,rC name od=Gc (mA name):=
 let⟨od,ho,hl⟩:=OV I.ns
 ⟨od,⟨I.obj,rfl,rfl,ho⟩,hl⟩
section
variable{prog:js}{w:j6}{A:kK}{E:jN->jQ->Prop}{s:jQ}{K:W1}{x dx C f:jR}{mA:Str->jO jN}{name:Str}{v:jN}
end
section
variable{P:js}{w:j6}{H H':Hp}{h h':j0}{a C dx:jR}{fs fs':Wp (Str×V)}
theorem W7(hok:HOk P w H h)(e:H a=Gc (.ins C dx fs)):∃mA,dy h a dx C mA/\(∀f,cK (fs.lookup f) (mA f))/\vy mA (fs.map (·.1))/\fs.length<=1000/\H dx=Gc (.own a):=by
 obtain⟨d,z,ne,ob,mA,n,r,q⟩:=(show Ds P w H h a (.ins C dx fs)from hok a _ e)
 exact⟨mA,⟨ob,n,ne⟩,r,q,z,d⟩
end
structure Cls(K:W1)(C:jR):Prop where
 pg:tx K C vf=true
 hd:sj K C=true
 po:PySem.W.plainOver K C=true
 sa:kI K (.ref C) "__setattr__"=Gc (Gc (.builtin "object.__setattr__"))
theorem Cls.get{K:W1}{C:jR}(c:Cls K C)(f:Str):tx K C f=true:=c.pg
structure Con(K:W1)(C:jR)(f:Str)(v:V)(u:jN):Prop where
 at_:kI K (.ref C) f=Gc (Gc u)
 rel:RelV v u
 get:oV K u "__get__"=Gc none
 cp:PySem.W.copiedNames.contains f=false
structure Meth(K:W1)(C:jR)(m:Str)(f:jR):Prop where
 at_:kI K (.ref C) m=Gc (Gc (.ref f))
 fn:v9 K (.ref f)=true
 kp:lL K (.ref f)=true
section
variable{X:Cx}{pins:Wp (jR×Obj)}{σ:St}{H:Hp}{s:jQ}{a C dx:jR}{fs:Wp (Str×V)}{f:Str}{v:V}{A:kK}{E:jN->jQ->Prop}
theorem YX{prog:js}{w:j6}{env:Env}{e:j4}{f:Str}{pos:Pos}{s:jQ}{Q:jN->jQ->Prop}(hb:attributeBase e f env (eval e env)=eval e env)(h:wpAny (model prog w) A (eval e env) (λo s₁=>wpAny (model prog w) A (getAttr o f true) Q E s₁) E s):wpAny (model prog w) A (eval (.Attribute e f pos) env) Q E s:=
 Attribute_any_ h (by rw[arm_eval_Attribute,hb])
end
section
variable{X:Cx}{o e value:j4}{f:Str}{pos pos' tpos:Pos}{ta tv:TE}
end
section
variable{X:Cx}{pins:Wp (jR×Obj)}{σ:St}{H:Hp}{s:jQ}{A:kK}{E:jN->jQ->Prop}{Q:jN->jQ->Prop}{c:jN}{b:kG}
inductive R4(K:W1)(H:Hp):V->jN->Prop where
 |non:R4 K H .non (.type "NoneType")
 |bl (x:kG):R4 K H (.bl x) (.type "bool")
 |int (i:Int):R4 K H (.int i) (.type "int")
 |str (x:Str):R4 K H (.str x) (.type "str")
 |flt (x:UInt64):R4 K H (.flt x) (.type "float")
 |lst {a:jR} {xs:Wp V} (e:H a=Gc (.lst xs)):R4 K H (.ref a) (.type "list")
 |frz {a:jR} {o:Obj} {xs:Wp V} (e:H a=Gc (.frz o (.lst xs))):R4 K H (.ref a) (.type "list")
 |tup {a:jR} {xs:Wp V} (e:H a=Gc (.tup xs)):R4 K H (.ref a) (.type "tuple")
 |dK {a:jR} {kvs:Wp (Key×V)} (e:H a=Gc (.dK kvs)):R4 K H (.ref a) (.type "dict")
 |dT {a:jR} {kvs:Wp (Wp Key×V)} (e:H a=Gc (.dT kvs)):R4 K H (.ref a) (.type "dict")
 |ins {a C dx:jR} {fs:Wp (Str×V)} (e:H a=Gc (.ins C dx fs)) (cl:Cls K C) (ha:kI K (.ref C) "__class__"=Gc (Gc (.builtin "object.__class__")))
   (hn:oV K (.builtin "object.__class__") "__get__"=Gc (Gc (.builtin "getset_descriptor.__get__"))) (htk:PySem.W.takesIn K (.builtin "object.__class__")=Gc true)
   (hm:mY K C (.type "object")=Gc true):R4 K H (.ref a) (.ref C)
theorem Fz{x:V}{u t:jN}(I:Inv X pins σ H s)(rx:RelV x u)(ty:R4 X.K H x t)(e:mD X.K t c=Gc b)(h:∀tk,Q (.bool b) {s with toks:=tk}):wpAny (model X.prog X.w) A (call (.builtin "isinstance") [u,c]) Q E s:=by
 cases ty with
 |non=>cases (show u=kR from rx);exact ko PySem.W.kitx_none I.kIn qi e (λz=>nomatch z) h
 |bl y=>cases (show u=sH y from rx);exact ko PySem.W.kitx_bool I.kIn qi e (λz=>nomatch z) h
 |int i=>obtain⟨t,q⟩:=(show∃t,u=rT i t from rx);cases q;exact ko PySem.W.kitx_int I.kIn qi e (λz=>nomatch z) h
 |str y=>obtain⟨t,q⟩:=(show∃t,u=rW y t from rx);cases q;exact ko PySem.W.kitx_str I.kIn qi e (λz=>nomatch z) h
 |flt y=>obtain⟨t,q⟩:=(show∃t,u=xE y t from rx);cases q;exact ko PySem.W.kitx_float I.kIn qi e (λz=>nomatch z) h
 | @lst a xs ea=>
   cases (show u=kD a from rx)
   obtain⟨_,_,n,_,h1⟩:=(show Ds X.prog X.w H s.heap a (.lst xs)from I.hok a _ ea)
   exact ko sk I.kIn ⟨_,h1,rfl⟩ e (λz=>nomatch z) h
 | @frz a ob xs ea=>
   cases (show u=kD a from rx)
   obtain⟨_,_,_,n,_,h1⟩:=(show Ds X.prog X.w H s.heap a (.frz ob (.lst xs))from I.hok a _ ea)
   exact ko sk I.kIn ⟨_,h1,rfl⟩ e (λz=>nomatch z) h
 | @tup a xs ea=>
   cases (show u=kD a from rx)
   obtain⟨_,_,_,p⟩:=(show Ds X.prog X.w H s.heap a (.tup xs)from I.hok a _ ea)
   obtain⟨o,h1,h2,_⟩:=p
   exact ko sN I.kIn ⟨o,h1,h2⟩ e (λz=>nomatch z) h
 | @dK a kvs ea=>
   cases (show u=kD a from rx)
   obtain⟨_,_,vs,_,p⟩:=(show Ds X.prog X.w H s.heap a (.dK kvs)from I.hok a _ ea)
   obtain⟨o,es,ep,h1,h2,_⟩:=p
   exact ko sr I.kIn ⟨o,h1,h2.1⟩ e (λz=>nomatch z) h
 | @dT a kvs ea=>
   cases (show u=kD a from rx)
   obtain⟨_,_,xs,_,o,es,ep,h1,h2,_⟩:=(show Ds X.prog X.w H s.heap a (.dT kvs)from I.hok a _ ea)
   exact ko sr I.kIn ⟨o,h1,h2.1⟩ e (λz=>nomatch z) h
 | @ins a C dx fs ea cl ha hn htk hm=>
   cases (show u=kD a from rx)
   obtain⟨mA,O,_⟩:=W7 I.hok ea
   obtain⟨od,J,_⟩:=O.look
   exact ko (PySem.W.kitx_own (cl.get _) cl.hd ha hn htk hm) I.kIn J e (λz=>nomatch z) h
end
end L2
namespace L2
open PySem PySem.Spec PyProof.Rows
structure JX(k:Nat)(A:kK):Prop where
 hd:A.handled=none
 dp:A.depth+3*k+5<recursionLimit
 un:A.units+16*k+200<cLine
theorem JX.mono{j k:Nat}{A:kK}(r:JX k A)(h:j<=k):JX j A:=⟨r.hd,by have:=r.dp;lia,by have:=r.un;lia⟩
theorem JX.deeper{k:Nat}{A:kK}(r:JX (k+1) A)(env:Env):JX k (A.deeper env):=
 ⟨r.hd,by have:=r.dp;show A.depth+1+3*k+5<_;lia,by have:=r.un;show A.units+3+16*k+200<_;lia⟩
theorem Rw{A:kK}{C:jR}{us:Wp jN}{kw:Wp (Str×jN)}:(A.under (.builtin "type.__call__" ⟨.ref C::us,kw⟩)).depth=A.depth+1:=by
 first|rfl|simp[su,Code.weight,Code.isCreation,Code.isGuard,Code.isCaller,xO,sv,guardIds]
theorem Rv{A:kK}{C:jR}{us:Wp jN}{kw:Wp (Str×jN)}:(A.under (.builtin "type.__call__" ⟨.ref C::us,kw⟩)).units=A.units+1:=by
 first|rfl|simp[su,Code.cUnits,xO,sv]
theorem JX.make{k:Nat}{A:kK}(r:JX (k+1) A)(C:jR)(us:Wp jN)(kw:Wp (Str×jN)):JX k (A.under (.builtin "type.__call__" ⟨.ref C::us,kw⟩)):=
 ⟨r.hd,by have:=r.dp;rw[Rw];lia,by have:=r.un;rw[Rv];lia⟩
theorem JX.depth{k:Nat}{A:kK}(r:JX k A):A.depth<recursionLimit:=by have:=r.dp;lia
noncomputable def gI:TA:=λ_ H Q=>Q [] H
noncomputable def aN(ta:TE)(tr:TA):TA:=λσ H Q=>ta σ H λx H1=>tr σ H1 λxs H2=>Q (x::xs) H2
section
variable{X:Cx}{e:j4}{es:Wp j4}{te:TE}{t:TA}{pos:Pos}
theorem QM:PA X [] gI:=λ_ _ _ _ H Q I h=>Calls.spliced_nil ⟨[],H,I,.nil,h⟩
theorem KY(ha:PE X e te)(hr:PA X es t)(hs:ju (e::es) X.env=(false,eval e X.env)::ju es X.env:=by rfl):PA X (e::es) (aN te t):=by
 intro pos pins s σ H Q I h
 rw[hs]
 show wpAny _ _ (spliced ((false,eval e X.env)::backTo pos (ju es X.env))) _ _ s
 refine Calls.spliced_cons (thn (ha pins s σ H _ I h) λu s1 ⟨x,H1,I1,r1,q1⟩=>?_)
 exact thn (hr pos pins s1 σ H1 _ I1 q1) λus s2 ⟨xs,H2,I2,r2,q2⟩=>⟨x::xs,H2,I2,.cons r1 r2,q2⟩
noncomputable def gQ(t:TA):TE:=λσ H Q=>t σ H λxs H1=>xs.length<=sizeLine/\∀p,H1 p=none->Q (.ref p) (upd H1 p (.tup xs))
noncomputable def iW(t:TA):TE:=λσ H Q=>t σ H λxs H1=>xs.length<=sizeLine/\∀p,H1 p=none->Q (.ref p) (upd H1 p (.lst xs))
theorem Y0{x1}(h:PA X es t):PE X (.Tuple es x1 pos) (gQ t):=by
 intro pins s σ H Q I hq
 refine wpAny_Tuple_spliced (thn (h pos pins s σ H _ I hq) λus s1 ⟨xs,H1,I1,r,z,q⟩=>⟨by rw[<-r.length];exact z,?_⟩)
 have hf:H1 s1.heap.objs.size=none:=I1.hok.fresh (ja _)
 refine⟨.ref s1.heap.objs.size,upd H1 s1.heap.objs.size (.tup xs),I1.laid (t':=s1.toks) (λb u e=>jP _ e) (ja _) ?_,rfl,q _ hf⟩
 exact⟨z,us,r,⟨_,jx _ rfl,rfl,_,rfl⟩⟩
theorem Zf(h:PA X es t):PE X (.List es pos) (iW t):=by
 intro pins s σ H Q I hq
 refine wpAny_List_spliced (thn (h pos pins s σ H _ I hq) λus s1 ⟨xs,H1,I1,r,z,q⟩=>⟨by rw[<-r.length];exact z,?_⟩)
 have hf:H1 s1.heap.objs.size=none:=I1.hok.fresh (ja _)
 refine⟨.ref s1.heap.objs.size,upd H1 s1.heap.objs.size (.lst xs),I1.laid (t':=s1.toks) (λb u e=>jP _ e) (ja _) ?_,rfl,q _ hf⟩
 exact⟨z,us,0,r,jx _ rfl⟩
end
abbrev Sp:=Wp V->Hp->VK->XK->Prop
abbrev CXT:=Wp Env->Hp->jQ->XK->jN->jQ->Prop
structure Xk(P:js)(w:j6)(K:W1)(mg:Str->jO jN)(base:j0)(A:kK)(outer:Wp Env)(s:jQ)(H:Hp):Prop where
 frames:A.frames=Gc outer
 mod:Mod K mg base
 bs:∀b o,base.get? b=Gc o->s.heap.get? b=Gc o/\H b=none
 bsz:base.objs.size<=s.heap.objs.size
 Qr:s.heap.FunFrames base outer
 frf:∀b∈frs outer,H b=none
 hok:HOk P w H s.heap
 bare:oM s.gens
def CE(outer:Wp Env)(P:js)(w:j6)(H:Hp)(s:jQ)(Q:VK)(u:jN)(s':jQ):Prop:=
 ∃v H',s'.os=s.os/\oM s'.gens/\Un (frs outer) [] H H' s.heap s'.heap/\HOk P w H' s'.heap/\RelV v u/\Q v H'
def CR(CX:CXT)(outer:Wp Env)(P:js)(w:j6)(H:Hp)(s:jQ)(Q:VK)(E:XK)(r:yg)(s':jQ):Prop:=
 match r with
 | .ok (.ret u)=>CE outer P w H s Q u s'
 | .ok _=>lW
 | .error e=>CX outer H s E e s'
structure MU(P:js)(w:j6)(K:W1)(mg:Str->jO jN)(base:j0)(CX:CXT)(k:Nat)(f:jR)(fd:lE)(ps:Wp Str)(sp:Sp):Prop where
 len:∀vs H Q E,sp vs H Q E->vs.length=ps.length
 run:∀(A:kK) (outer:Wp Env) (s:jQ) (H:Hp) (args:Args) (us:Wp jN) (vs:Wp V) (Q:VK) (E:XK),JX k A->Xk P w K mg base A outer s H->sx s fd args (ps.zip us)->Vals vs us->sp vs H Q E->
  codeAny (model P w) A (.call (.ref f) args) (CR CX outer P w H s Q E) s
theorem MU.imp{P:js}{w:j6}{K:W1}{mg:Str->jO jN}{base:j0}{CX:CXT}{k:Nat}{f:jR}{fd:lE}{ps:Wp Str}{sp sp':Sp}(F:MU P w K mg base CX k f fd ps sp)(h:∀vs H Q E,sp' vs H Q E->sp vs H Q E):MU P w K mg base CX k f fd ps sp':=
 ⟨λvs H Q E q=>F.len vs H Q E (h _ _ _ _ q),λA outer s H args us vs Q E hr he hb hv hs=>F.run A outer s H args us vs Q E hr he hb hv (h _ _ _ _ hs)⟩
theorem Xk.make{P:js}{w:j6}{K:W1}{mg:Str->jO jN}{base:j0}{A:kK}{outer:Wp Env}{s:jQ}{H:Hp}(e:Xk P w K mg base A outer s H)(C:jR)(us:Wp jN)(kw:Wp (Str×jN)):Xk P w K mg base (A.under (.builtin "type.__call__" ⟨.ref C::us,kw⟩)) outer s H:=⟨by first|exact e.frames|(simpa[su,Code.envs,sv,pushEnvs]using e.frames),e.mod,e.bs,e.bsz,e.Qr,e.frf,e.hok,e.bare⟩
section
variable{X:Cx}{pins:Wp (jR×Obj)}{σ:St}{H:Hp}{s s':jQ}
theorem Inv.cY(I:Inv X pins σ H s):Xk X.prog X.w X.K X.mg X.base X.A X.stack s H:=
 ⟨I.ok.frames,I.ok.mod,I.bs,jY I.ok.bsz I.sz,I.stack,I.Pt,I.hok,I.bare⟩
theorem Inv.after{Q:VK}{u:jN}(I:Inv X pins σ H s)(h:CE X.stack X.prog X.w H s Q u s'):EP X pins σ Q u s':=by
 obtain⟨v,H',os,bare,un,hok,r,q⟩:=h
 obtain⟨hh,g,d,t,os'⟩:=s'
 obtain rfl:os'=s.os:=os
 exact⟨v,H',I.call (h':=hh) (g':=g) (d':=d) (t':=t) (ch:=[]) un hok bare (λb z=>absurd z (by simp)),r,q⟩
end
noncomputable def X3(sp:Sp)(dvs:Wp V)(E:XK)(t:TA):TE:=λσ H Q=>t σ H λvs H1=>sp (vs++dvs) H1 Q E
def Binds(K:W1)(fd:lE)(ps:Wp Str)(ds:Wp jN):Prop:=
 ∀(s:jQ) (us:Wp jN),K.In s.heap->(us++ds).length=ps.length->sx s fd ⟨us,[]⟩ (ps.zip (us++ds))
theorem Binds.all{K:W1}{fd:lE}{ps:Wp Str}(h:∀us:Wp jN,us.length=ps.length->bindArgs fd ⟨us,[]⟩=pure (ps.zip us)):Binds K fd ps []:=λs us _ hl=>by
 rw[mP]at hl⊢
 exact .of_eq (h us hl)
def Passes(CX:CXT)(X:Cx)(E:XK):Prop:=∀(pins:Wp (jR×Obj)) (σ:St) (H:Hp) (s:jQ) (e:jN) (s':jQ),Inv X pins σ H s->CX X.stack H s E e s'->X.xe e s'
section
variable{X:Cx}{CX:CXT}{k:Nat}{f C:jR}{fd:lE}{ps:Wp Str}{sp:Sp}{dvs:Wp V}{ds:Wp jN}{E:XK}{x m:Str}{p pos apos:Pos}{e o:j4}{es:Wp j4}{ta:TE}{t:TA}
theorem Zb{pins:Wp (jR×Obj)}{σ:St}{H:Hp}{s:jQ}{Q:VK}{us:Wp jN}{vs:Wp V}(F:MU X.prog X.w X.K X.mg X.base CX k f fd ps sp)(hr:JX k X.A)(hb:Binds X.K fd ps ds)(hd:Vals dvs ds)(hx:Passes CX X E)(I:Inv X pins σ H s)(r:Vals vs us)(h:sp (vs++dvs) H Q E):wpAny (model X.prog X.w) X.A (call (.ref f) us) (EP X pins σ Q) X.xe s:=by
 have r2:Vals (vs++dvs) (us++ds):=r.append hd
 have hl:(us++ds).length=ps.length:=by rw[<-r2.length];exact F.len _ _ _ _ h
 refine pq (pV (F.run X.A X.stack s H ⟨us,[]⟩ (us++ds) (vs++dvs) Q E hr I.cY (hb s us I.kIn hl) r2 h) λr s' hq=>?_)
 cases r with
 |error e=>exact hx pins σ H s e s' I hq
 |ok fl=>
  cases fl with
  |ret u=>exact I.after hq
  |next=>exact k8 hq
  |brk=>exact k8 hq
  |cont=>exact k8 hq
theorem Wk(F:MU X.prog X.w X.K X.mg X.base CX k f fd ps sp)(hr:JX k X.A)(hg:Gl X x)(hm:X.mg x=Gc (.ref f))(hk:lL X.K (.ref f)=true)(hb:Binds X.K fd ps ds)(hd:Vals dvs ds)(hx:Passes CX X E)(ha:PA X (e::es) t)(hdb:(x==("__debug__":Str))=false:=by decide)(he:ju (e::es) X.env=(false,eval e X.env)::ju es X.env:=by rfl)(hpl:(backTo pos (ju es X.env)).any (·.1)=false:=by rfl):PE X (.Call (.Name x p) (e::es) [] pos) (X3 sp dvs E t):=by
 intro pins s σ H Q I h
 refine oH (KR I hg hm ?_ hdb)
 refine sO (h₀:=X.base) I.ok.mod.kin hk (thn (ha pos pins s σ H _ I h) λus s1 ⟨vs,H1,I1,r,q⟩=>⟨I1.kIn,?_⟩) he hpl
 exact Zb F hr hb hd hx I1 r q
structure Mk(K:W1)(C f:jR):Prop where
 makes:PySem.W.makesIn K C=true
 init:kI K (.ref C) "__init__"=Gc (Gc (.ref f))
 fn:v9 K (.ref f)=true
 kp:lL K (.ref C)=true
end
section
variable{X:Cx}{CX:CXT}{k:Nat}{f C:jR}{fd:lE}{ps ks:Wp Str}{sp:Sp}{E:XK}{x m:Str}{p pos apos kpos:Pos}{e o:j4}{es:Wp j4}{kws:Wp uV}{te ta:TE}{t tk:TA}{nm:jO Str}
structure fe(K:W1)(fd:lE)(ps ks:Wp Str)(g:Wp jN->Wp jN->Wp jN)(gV:Wp V->Wp V->Wp V):Prop where
 to:∀(s:jQ) (us ws:Wp jN),K.In s.heap->(g us ws).length=ps.length->sx s fd ⟨us,ks.zip ws⟩ (ps.zip (g us ws))
 rel:∀{vs:Wp V} {us:Wp jN} {zs:Wp V} {ws:Wp jN},Vals vs us->Vals zs ws->Vals (gV vs zs) (g us ws)
variable{g:Wp jN->Wp jN->Wp jN}{gV:Wp V->Wp V->Wp V}
end
structure AQ(N P:Wp Str)(sc:mC):Prop where
 kind:sc.kind=.function
 co:sc.isCoroutine=false
 gen:sc.isGenerator=false
 nd:N.Nodup
 pre:N.take P.length=P
 par:∀x∈P,sc.names.lookup x=Gc .local\/sc.names.lookup x=Gc .cell
 Z8:∀y∈sc.names,y.2≠.free
theorem O9{kindOf:Str->jO ml}{x:Str}:∀{binds:Wp (Str×jN)} {m:Str->jO jN},(∀v,(x,v)∉binds)->bindL kindOf binds m x=m x
 | [],_,_=>rfl
 |(n,v)::r,m,h=>by
  unfold bindL
  rw[O9 λw hw=>h w (jf _ hw)]
  split
  .have:x≠n:=by rintro rfl;exact h v jr
   simp[this]
  .rfl
theorem OY{kindOf:Str->jO ml}{x:Str}:∀{binds:Wp (Str×jN)} {m:Str->jO jN},(∀v,(x,v)∉binds)->bindC kindOf binds m x=m x
 | [],_,_=>rfl
 |(n,v)::r,m,h=>by
  unfold bindC
  rw[OY λw hw=>h w (jf _ hw)]
  split
  .rfl
  .have:x≠n:=by rintro rfl;exact h v jr
   simp[this]
theorem PM{kindOf:Str->jO ml}{x:Str}{v:jN}:∀{P:Wp Str} {vs:Wp jN} {i:Nat} {m:Str->jO jN},P.Nodup->P[i]?=Gc x->vs[i]?=Gc v->kindOf x=Gc .local->bindL kindOf (P.zip vs) m x=Gc v
 | [],_,_,_,_,h,_,_=>by simp at h
 |_::_,[],_,_,_,_,h,_=>by simp at h
 |p::P,w::vs,0,m,nd,h1,h2,hk=>by
  simp at h1 h2;subst h1;subst h2
  show bindL kindOf ((p,w)::P.zip vs) m p=_
  unfold bindL
  rw[O9 λv hv=>(lh.mp nd).1 (nE hv).1,kJ hk]
  simp
 |p::P,w::vs,i+1,m,nd,h1,h2,hk=>by
  show bindL kindOf ((p,w)::P.zip vs) m x=_
  unfold bindL
  exact PM (i:=i) (lh.mp nd).2 (by simpa using h1) (by simpa using h2) hk
theorem Ot{kindOf:Str->jO ml}{x:Str}{v:jN}:∀{P:Wp Str} {vs:Wp jN} {i:Nat} {m:Str->jO jN},P.Nodup->P[i]?=Gc x->vs[i]?=Gc v->kindOf x≠Gc .local->bindC kindOf (P.zip vs) m x=Gc v
 | [],_,_,_,_,h,_,_=>by simp at h
 |_::_,[],_,_,_,_,h,_=>by simp at h
 |p::P,w::vs,0,m,nd,h1,h2,hk=>by
  simp at h1 h2;subst h1;subst h2
  show bindC kindOf ((p,w)::P.zip vs) m p=_
  unfold bindC
  rw[OY λv hv=>(lh.mp nd).1 (nE hv).1,kC hk]
  simp
 |p::P,w::vs,i+1,m,nd,h1,h2,hk=>by
  show bindC kindOf ((p,w)::P.zip vs) m x=_
  unfold bindC
  exact Ot (i:=i) (lh.mp nd).2 (by simpa using h1) (by simpa using h2) hk
noncomputable def start(N:Wp Str)(vs:Wp V):St:=vs.map Gc++jg (N.length-vs.length) none
noncomputable def QC(CX:CXT)(P:js)(w:j6)(K:W1)(mg:Str->jO jN)(base:j0)(N:Wp Str)(qual:Str)(scope:mC)(f:jR)(cd:jN)(A:kK)(outer:Wp Env)(s:jQ)(H:Hp)(E:XK):Cx where
 prog:=P
 w:=w
 K:=K
 mg:=mg
 base:=base
 A:=A.deeper (envOfC qual scope s.heap.objs.size f cd)
 N:=N
 s₀:=s
 H₀:=H
 env:=envOfC qual scope s.heap.objs.size f cd
 outer:=outer
 stack:=envOfC qual scope s.heap.objs.size f cd::outer
 ex:=[]
 calm:=true
 fn:=λ_=>true
 pn:=[]
 xe:=λe s'=>wpAny (model P w) (A.deeper (envOfC qual scope s.heap.objs.size f cd)) (leaving (envOfC qual scope s.heap.objs.size f cd) e) (λ_ s''=>CX outer H s E e s'') (λe' s''=>CX outer H s E e' s'') s'
theorem LA{sc:mC}{n:Nat}{x:Str}(h:sc.names.lookup x=Gc .cell):∃c,(cellsFrom n sc.names []).lookup x=Gc c:=by
 have q:=qj sc.names n [] (.inl h)
 exact Option.isSome_iff_exists.mp q
theorem SQ{CX:CXT}{P:js}{w:j6}{K:W1}{mg:Str->jO jN}{base:j0}{N ps:Wp Str}{qual:Str}{scope:mC}{f:jR}{cd:jN}{A:kK}{outer:Wp Env}{s s1:jQ}{H:Hp}{E:XK}{us:Wp jN}{vs:Wp V}(S:AQ N ps scope)(hd:A.handled=none)(e0:Xk P w K mg base A outer s H)(hl:vs.length=ps.length)(r:Vals vs us)(x:InCallC s s.heap.objs.size (bindL (envOfC qual scope s.heap.objs.size f cd).kindOf (ps.zip us) λ_=>none) (cellsFrom (s.heap.objs.size+1) scope.names []) (bindC (envOfC qual scope s.heap.objs.size f cd).kindOf (ps.zip us) λ_=>none) s1):Inv (QC CX P w K mg base N qual scope f cd A outer s H E) [] (start N vs) H s1:=by
 have hpl:ps.length<=N.length:=by have:=congrArg qM S.pre;rw[oy]at this;lia
 obtain⟨h1,tk,rfl,hk⟩:=x.done
 have noA:∀b:jR,b∉(QC CX P w K mg base N qual scope f cd A outer s H E).ex:=λb z=>absurd (show b∈([]:Wp jR)from z) (by simp)
 refine⟨⟨e0.mod,S.kind,rfl,rfl,ja _,λy z c h1 h2=>?_,λy hy=>?_,λy c _ h=>?_,λ_=>hd,Around.frames_deeper e0.frames,.inr ⟨rfl,rfl⟩,λb z=>absurd z (noA b),e0.bs,e0.bsz,λb _ _=>noA b,λb z=>absurd z (noA b),e0.Qr,e0.frf⟩,
  rfl,e0.bare,Un.kept hk,⟨_,x.toInCall.ns,λi y v h1 h2 h3=>?_⟩,λy c h=>⟨_,x.cell y c h⟩,e0.hok.fresh (ja _),λy c h=>?_,λp hp=>absurd (show p∈([]:Wp (jR×Obj))from hp) (by simp),e0.hok.kept hk,?_⟩
 .exact wB x.apart (kc h1) (kc h2)
 .have hy:scope.names.lookup y=Gc .cell\/scope.names.lookup y=Gc .free:=hy
  rcases hy with hy|hy
  .exact LA hy
  .exact absurd rfl (S.Z8 _ (kc hy))
 .exact pU (x.above y c (kc h))
 .have hi:i<vs.length:=by
   unfold start at h2
   by_cases hi:i<vs.length
   .exact hi
   .rw[kS (by simpa using hi)]at h2
    rw[qd]at h2
    split at h2<;>cases h2
  have ha:vs[i]?=Gc v:=by
   unfold start at h2
   rw[jT (by simpa using hi),jq]at h2
   cases e:vs[i]? with
   |none=>rw[e]at h2;cases h2
   |some a=>rw[e]at h2;cases h2;rfl
  obtain⟨u,hu,rv⟩:=r.get ha
  have hp:ps[i]?=Gc y:=by
   rw[<-S.pre,qT (by lia)];exact h1
  have ndP:ps.Nodup:=by rw[<-S.pre];exact S.nd.sublist (List.take_sublist _ _)
  refine⟨u,rv,?_⟩
  rcases S.par y (jw hp)with k|k
  .exact .inl ⟨k,PM ndP hp hu k⟩
  .obtain⟨c,e⟩:=LA (n:=s.heap.objs.size+1) k
   refine .inr ⟨.inl k,c,e,?_⟩
   have q:=x.cell y c e
   rw[Ot ndP hp hu (by show scope.names.lookup y≠_;rw[k];decide)]at q
   exact q
 .exact e0.hok.fresh (pU (x.above y c (kc h)))
 .unfold start
  show _=N.length
  rw[kn,kF,List.length_replicate]
  lia
theorem aR{CX:CXT}{P:js}{w:j6}{K:W1}{mg:Str->jO jN}{base:j0}{k:Nat}{f:jR}{name qual:Str}{params:Arguments}{body:Wp kE}{scope:mC}{dV kV doc pm cdv ct oc:jN}{an od:jO jR}{osl:kP (jO jN)}{N ps:Wp Str}{sp:Sp}(lk:K.lookup f=Gc ⟨oc,od,.func (mR name qual params body scope dV kV doc pm an cdv ct),osl⟩)(hcd:oW K cdv qual=true)(S:AQ N ps scope)(len:∀vs H Q E,sp vs H Q E->vs.length=ps.length)(hbody:∀(A:kK) (outer:Wp Env) (s:jQ) (H:Hp) (vs:Wp V) (Q:VK) (E:XK),JX k (A.deeper (envOfC qual scope s.heap.objs.size f cdv))->sp vs H Q E->∃t,PSs (QC CX P w K mg base N qual scope f cdv A outer s H E) body t/\t {nx:=λ_ H'=>Q .non H',rt:=Q} (start N vs) H):MU P w K mg base CX (k+1) f (mR name qual params body scope dV kV doc pm an cdv ct) ps sp:=by
 refine⟨len,λA outer s H args us vs Q E hr e0 hb r hsp=>?_⟩
 have hl:=len _ _ _ _ hsp
 have KX:K.In s.heap:=e0.mod.kin.keeps λb o e=>(e0.bs b o e).1
 have lim:s.heap.NoLimit:=e0.mod.nolimit.keeps λb o e=>(e0.bs b o e).1
 have hkind:∀y∈ps.zip us,scope.names.lookup y.1=Gc .local\/(scope.names.lookup y.1=Gc .cell/\((cellsFrom (s.heap.objs.size+1) scope.names []).lookup y.1).isSome=true):=λ⟨n,v⟩ hy=>by
  rcases S.par n (nE hy).1 with q|q
  .exact .inl q
  .exact .inr ⟨q,qj _ _ _ (.inl q)⟩
 refine codeAny_call_function hr.depth (KX _ _ lk) rfl S.co S.gen rfl (PySem.W.codeRec_of KX hcd) (hb _ _ _ _ ?_)
 refine wpAny_newFunctionEnv_cells S.kind hkind λenv he s1 x=>?_
 subst he
 refine⟨lim.keeps x.toInCall.keep,codeAny_func ?_⟩
 obtain⟨t,ht,hq⟩:=hbody A outer s H vs Q E (hr.deeper _) hsp
 have I:Inv (QC CX P w K mg base N qual scope f cdv A outer s H E) [] (start N vs) H s1:=SQ S hr.hd e0 hl r x
 refine lK (ht [] s1 (start N vs) H _ I hq) (λfl s' hs=>?_) λe s' hs=>hs
 have fin:∀{σ':St} {H':Hp} {v:V} {u:jN},Inv (QC CX P w K mg base N qual scope f cdv A outer s H E) [] σ' H' s'->RelV v u->Q v H'->CE outer P w H s Q u s':=
  λ{σ' H' v u} J rv q=>⟨v,H',J.os,J.bare,J.base,J.hok,rv,q⟩
 cases fl with
 |ret u=>
  obtain⟨v,σ',H',J,rv,q⟩:=hs
  exact fin J rv q
 |next=>
  obtain⟨σ',H',J,q⟩:=hs
  exact fin (v:=V.non) (u:=kR) J rfl q
 |brk=>
  obtain⟨_,_,_,q⟩:=hs
  exact k8 q
 |cont=>
  obtain⟨_,_,_,q⟩:=hs
  exact k8 q
end L2
namespace L2
open PySem PySem.Spec PyProof.Rows
section
variable{X:Cx}{x:Str}{p pos:Pos}{e:j4}{es:Wp j4}{t:TA}{id T:lx}{r:Wp V->Hp->VK->Prop}
noncomputable def tCB(r:Wp V->Hp->VK->Prop)(t:TA):TE:=λσ H Q=>t σ H λvs H1=>r vs H1 Q
theorem VJ(hc:FN X (.builtin id) r)(hg:Gl X x)(hm:X.mg x=none)(hv:bootBuiltins x=Gc (.builtin id))(ha:PA X (e::es) t)(hn:x≠ "__name__":=by decide)(hdb:(x==("__debug__":Str))=false:=by decide)(he:ju (e::es) X.env=(false,eval e X.env)::ju es X.env:=by rfl)(hpl:(backTo pos (ju es X.env)).any (·.1)=false:=by rfl):PE X (.Call (.Name x p) (e::es) [] pos) (tCB r t):=by
 intro pins s σ H Q I h
 refine oH (NV I hg hm hv ?_ hn hdb)
 exact t8 (thn (ha pos pins s σ H _ I h) λus s1 ⟨vs,H1,I1,r1,q1⟩=>hc pins s1 σ H1 vs us Q I1 r1 q1) he hpl
theorem Uk(hc:FN X (.type T) r)(hg:Gl X x)(hm:X.mg x=none)(hv:bootBuiltins x=Gc (.type T))(ha:PA X (e::es) t)(hn:x≠ "__name__":=by decide)(hdb:(x==("__debug__":Str))=false:=by decide)(he:ju (e::es) X.env=(false,eval e X.env)::ju es X.env:=by rfl)(hpl:(backTo pos (ju es X.env)).any (·.1)=false:=by rfl):PE X (.Call (.Name x p) (e::es) [] pos) (tCB r t):=by
 intro pins s σ H Q I h
 refine oH (NV I hg hm hv ?_ hn hdb)
 exact nO (thn (ha pos pins s σ H _ I h) λus s1 ⟨vs,H1,I1,r1,q1⟩=>hc pins s1 σ H1 vs us Q I1 r1 q1) he hpl
end
end L2
namespace HT
open PySem PyProof.Rows
section
open PySem.SeqAt
open PySem.AutoSeq1 (wpAny_loadPart')
open PySem.MeetsSeq PySem.MeetsSeq2 PySem.MeetsSeq3
end
section
variable{prog:js}{w:j6}{A:kK}{E:jN->jQ->Prop}{s:jQ}
theorem YA{t b:jR}{vs ws:Wp jN}{Q:jN->jQ->Prop}(ht:xF s.heap t vs.toArray)(hb:xF s.heap b ws.toArray)(hv:vs≠[])(h1:ws=[]->Q (.ref t) s)(h2:ws≠[]->Q (.ref s.heap.objs.size) {s with heap:=s.heap.push {cls:=.type "tuple",data:=.seq (vs++ws).toArray}})(hsz:vs.length+ws.length<=sizeLine):wpAny (model prog w) A (binaryOp .Add (.ref t) (.ref b)) Q E s:=by
 obtain⟨⟨cls,dd,data,sl⟩,ho,hc,n,hd⟩:=id ht
 obtain⟨⟨cls2,dd2,data2,sl2⟩,ho2,hc2,n2,hd2⟩:=id hb
 simp only at hc hd hc2 hd2
 subst hc hd hc2 hd2
 have e:vs.toArray++ws.toArray=(vs++ws).toArray:=by simp
 by_cases hw:ws=[]
 .exact tE ⟨_,ho,rfl⟩ ⟨_,ho2,rfl⟩ qe sC oX oN (nv _ _)
   (tuple_addW1 t b vs.toArray ws.toArray n n2 dd dd2 sl sl2 (by simpa using hv) (by simp[hw])) ⟨ho,ho2,h1 hw⟩
 .refine tE ⟨_,ho,rfl⟩ ⟨_,ho2,rfl⟩ qe sC oX oN (nv _ _)
   (tuple_addW2 t b vs.toArray ws.toArray n n2 dd dd2 sl sl2 (by simpa using hv) (by simpa using hw) (by rw[jd,jd];exact hsz)) ⟨ho,ho2,?_⟩
  rw[e]
  exact h2 hw
noncomputable def sIx(n d:Nat):jO Int->Nat
 |none=>d
 |some v=>if v<0 then(v+(n:Int)).toNat else min v.toNat n
theorem Pk(n d k:Nat):sIx n d (Gc (k:Int))=min k n:=by
 show(if(k:Int)<0 then((k:Int)+(n:Int)).toNat else min (k:Int).toNat n)=min k n
 rw[kC (by lia),oY]
theorem aU(n d:Nat)(hd:d<=n)(o:jO Int):sIx n d o<=n:=by
 cases o with
 |none=>exact hd
 |some v=>
  show(if v<0 then(v+(n:Int)).toNat else min v.toNat n)<=n
  by_cases hv:v<0
  .rw[kJ hv];lia
  .rw[kC hv];exact t9 _ _
theorem UO(v:Int)(n d:Nat):(if v<0 then max (v+(n:Int)) 0 else min v (n:Int))=((sIx n d (Gc v):Nat):Int):=by
 show(if v<0 then max (v+(n:Int)) 0 else min v (n:Int))=(((if v<0 then(v+(n:Int)).toNat else min v.toNat n):Nat):Int)
 by_cases hv:v<0
 .simp only[kJ hv];lia
 .simp only[kC hv];lia
theorem Rp(lo hi:jO Int)(n:Nat):nh lo hi 1 (n:Int)=(((sIx n 0 lo:Nat):Int),((sIx n n hi:Nat):Int)):=by
 have h1:¬((1:Int)<0):=by lia
 unfold nh
 simp only[h1,pv]
 refine Prod.ext ?_ ?_
 .cases lo with
  |none=>rfl
  |some v=>exact UO v n 0
 .cases hi with
  |none=>rfl
  |some v=>exact UO v n n
theorem Rl(i j:Nat):mL (i:Int) (j:Int) 1=j-i:=by
 unfold mL
 have h1:(1:Int)>0:=by lia
 simp only[h1,pH,Int.ediv_one]
 split<;>lia
theorem NQ{v:jN}{o:jO Int}{Q:jO Int->jQ->Prop}(p:qk v o)(h:Q o s):wpAny (model prog w) A (uL v) Q E s:=by
 cases p with
 |none=>exact ug h
 |int i t=>exact slicePart_int h
theorem HV{sl:jR}{vl vu:jN}{lo hi:jO Int}{n:Nat}{Q:Int×Int×Nat->jQ->Prop}(hs:s.heap.IsSliceOf sl vl vu .none)(pl:qk vl lo)(pu:qk vu hi)(h:Q (((sIx n 0 lo:Nat):Int),1,sIx n n hi-sIx n 0 lo) s):wpAny (model prog w) A (pz (.ref sl) (pure (n:Int))) Q E s:=by
 obtain⟨os,hos,hcs,hds⟩:=id hs
 unfold pz vC
 refine jM (jM (k9 hos hds (x:=vl) rfl (jM (k9 hos hds (x:=vu) rfl (jM (k9 hos hds (x:=.none) rfl (jZ ?_)))))))
 refine jM (ug ?_)
 show wpAny _ _ (if((1:Int)==0)=true then _ else _) _ _ s
 rw[kC (by decide)]
 refine jM (NQ pl (jM (NQ pu (jM (jZ ?_)))))
 show wpAny _ _ (match nh lo hi 1 (n:Int)with|(lo,hi)=>pure (lo,(1:Int),mL lo hi 1)) _ _ s
 rw[Rp lo hi n]
 show wpAny _ _ (pure (((sIx n 0 lo:Nat):Int),(1:Int),mL ((sIx n 0 lo:Nat):Int) ((sIx n n hi:Nat):Int) 1)) _ _ s
 rw[Rl]
 exact jZ h
theorem VR(xs:kP jN)(i k:Nat):((lJ k).filterMap λ(m:Nat)=>xs[((i:Int)+(m:Int)*1).toNat]?).toArray=((xs.toList.drop i).take k).toArray:=by
 have e:(λ(m:Nat)=>xs[((i:Int)+(m:Int)*1).toNat]?)=λm=>xs[i+m]?:=by
  funext m
  have:((i:Int)+(m:Int)*1).toNat=i+m:=by lia
  rw[this]
 rw[e]
 have:=pick_run xs i k
 rw[List.filterMap_map]at this
 have e2:((λx=>xs[x]?)∘λx=>i+x)=λm=>xs[i+m]?:=rfl
 rw[e2]at this
 rw[this]
theorem J8{t sl:jR}{items:kP jN}{vl vu:jN}{lo hi:jO Int}{Q:jN->jQ->Prop}(ht:xF s.heap t items)(hs:s.heap.IsSliceOf sl vl vu .none)(pl:qk vl lo)(pu:qk vu hi)(hw:¬(sIx items.size 0 lo=0/\sIx items.size items.size hi=items.size))(h:Q (.ref s.heap.objs.size) {s with heap:=s.heap.push {cls:=.type "tuple",data:=.seq ((items.toList.drop (sIx items.size 0 lo)).take (sIx items.size items.size hi-sIx items.size 0 lo)).toArray}})(hsz:items.size<=sizeLine):wpAny (model prog w) A (getItem (.ref t) (.ref sl)) Q E s:=by
 have htake:sizeOk (.seq ((items.toList.drop (sIx items.size 0 lo)).take (sIx items.size items.size hi-sIx items.size 0 lo)).toArray):=by
  show((items.toList.drop (sIx items.size 0 lo)).take (sIx items.size items.size hi-sIx items.size 0 lo)).toArray.size<=sizeLine
  rw[jd,oy,pA,pT]
  lia
 have hj:sIx items.size items.size hi<=items.size:=aU _ _ (ja _) hi
 obtain⟨os,hos,hcs,hds⟩:=id hs
 have hTs:s.TypeIs (.ref sl) "slice":=⟨os,hos,hcs⟩
 unfold getItem
 try with_reducible refine kj ?_
 first|refine jM (jZ ?_)|skip
 refine jM (tF ht.typeIs (by decide) ?_)
 refine jM (lF (name:=lD "__getitem__") ht.typeIs kT
  (lQ kT ht.typeIs rX ?_ (sP _ _)))
 show wpAny _ _ (p0 (.ref t) >>= _) _ _ s
 refine jM (vR ht ?_)
 refine jM (ql hTs ?_)
 rw[kJ (by decide)]
 refine jM (HV hs pl pu ?_)
 have hno:¬((((sIx items.size 0 lo:Nat):Int)==0 && (1:Int)==1 && (sIx items.size items.size hi-sIx items.size 0 lo)==items.size)=true):=by
  intro q
  rw[jW,jW]at q
  have q1:((sIx items.size 0 lo:Nat):Int)=0:=eq_of_beq q.1.1
  have q2:sIx items.size items.size hi-sIx items.size 0 lo=items.size:=eq_of_beq q.2
  exact hw ⟨by lia,by lia⟩
 show wpAny _ _ (if(((sIx items.size 0 lo:Nat):Int)==0 && (1:Int)==1 && (sIx items.size items.size hi-sIx items.size 0 lo)==items.size)=true then _ else _) _ _ s
 rw[kC hno,VR]
 first
  |exact jM (m:=mZ _) (lY (jZ ⟨_,rfl,jZ h⟩) htake)
  |exact jM (m:=mZ _) (lY (jM (jZ (jZ ⟨_,rfl,jZ h⟩))) htake)
  |exact jM (jM (m:=mZ _) (lY (jZ (jZ ⟨_,rfl,jZ h⟩)) htake))
  |exact jM (jM (m:=mZ _) (lY (jZ ⟨_,rfl,jZ h⟩) htake))
end
end HT
namespace L2
open PySem PySem.Spec PyProof.Rows
abbrev TO:=St->Hp->(jO Int->Hp->Prop)->Prop
def PO(X:Cx)(e:jO j4)(t:TO):Prop:=
 ∀(pins:Wp (jR×Obj)) (s:jQ) (σ:St) (H:Hp) (Q:jO Int->Hp->Prop),Inv X pins σ H s->t σ H Q->
  wpAny (model X.prog X.w) X.A (evalPart e X.env) (λu s'=>∃o H',Inv X pins σ H' s'/\qk u o/\Q o H') X.xe s
noncomputable def Xh:TO:=λ_ H Q=>Q none H
noncomputable def dO(t:TE):TO:=λσ H Q=>t σ H λx H1=>∃i,x=.int i/\Q (Gc i) H1
theorem intsAre_of{ns:Wp Int}:∀{us:Wp jN},Vals (ns.map V.int) us->ny us ns:=by
 induction ns with
 |nil=>intro us r;rw[mS]at r;cases r;exact .nil
 |cons n ns ih=>
  intro us r
  rw[kY]at r
  cases r with
  |cons r1 r2=>
   obtain⟨t,e⟩:=r1
   subst e
   exact .cons n t (ih r2)
section
variable{X:Cx}{e:j4}{te:TE}{lo hi:jO j4}{tl th:TO}{pos p2:Pos}
theorem Tq:PO X none Xh:=by
 intro pins s σ H Q I h
 rw[vS]
 exact jZ ⟨none,H,I,.none,h⟩
theorem OI(h:PE X e te):PO X (Gc e) (dO te):=by
 intro pins s σ H Q I hw
 rw[evalPart_some]
 refine thn (h pins s σ H _ I hw) λu s1 ⟨x,H1,I1,r1,q1⟩=>?_
 obtain⟨i,rfl,q⟩:=q1
 obtain⟨t,rfl⟩:=r1
 exact⟨Gc i,H1,I1,.int i t,q⟩
def SlR(X:Cx)(r:V->jO Int->jO Int->Hp->VK->Prop):Prop:=
 ∀(pins:Wp (jR×Obj)) (s:jQ) (σ:St) (H:Hp) (x:V) (v vl vu:jN) (lo hi:jO Int) (sl:jR) (Q:VK),Inv X pins σ H s->RelV x v->s.heap.IsSliceOf sl vl vu .none->qk vl lo->qk vu hi->r x lo hi H Q->
  ∃T id,typeLookup (.type T) "__getitem__"=pure (Gc (.builtin id))/\s.TypeIs v T/\wpAny (model X.prog X.w) X.A (getItem v (.ref sl)) (EP X pins σ Q) X.xe s
noncomputable def tSl(r:V->jO Int->jO Int->Hp->VK->Prop)(te:TE)(tl th:TO):TE:=λσ H Q=>te σ H λx H1=>tl σ H1 λl H2=>th σ H2 λu H3=>r x l u H3 Q
theorem OF{r:V->jO Int->jO Int->Hp->VK->Prop}(hr:SlR X r)(he:PE X e te)(hl:PO X lo tl)(hu:PO X hi th):PE X (.Subscript e (.Slice lo hi none p2) pos) (tSl r te tl th):=by
 intro pins s σ H Q I h
 refine Subscript_ (thn (he pins s σ H _ I h) λv s1 ⟨x,H1,I1,r1,q1⟩=>?_)
 refine wpAny_Slice (thn (hl pins s1 σ H1 _ I1 q1) λvl s2 ⟨l,H2,I2,pl,q2⟩=>thn (hu pins s2 σ H2 _ I2 q2) λvu s3 ⟨u,H3,I3,pu,q3⟩=>?_)
 rw[vS]
 refine jZ ?_
 have I4:Inv X pins σ H3 {s3 with heap:=s3.heap.push {cls:=.type "slice",data:=.fields #[vl,vu,.none]}}:=I3.kept (t':=s3.toks) λb ob q=>jP _ q
 obtain⟨T,id,hT,ht,hg⟩:=hr pins {s3 with heap:=s3.heap.push {cls:=.type "slice",data:=.fields #[vl,vu,.none]}} σ H3 x v vl vu l u s3.heap.objs.size Q I4 r1 (yk ..) pl pu q3
 show wpAny (model X.prog X.w) X.A (subscriptTail e (.Slice lo hi none p2) v (.ref s3.heap.objs.size)) (EP X pins σ Q) X.xe {s3 with heap:=s3.heap.push {cls:=.type "slice",data:=.fields #[vl,vu,.none]}}
 exact tail_any (ops:=[.ref s3.heap.objs.size,v]) ht hT hg (by with_unfolding_all rfl)
noncomputable def Wg(xs:Wp V)(lo hi:jO Int):Wp V:=(xs.drop (HT.sIx xs.length 0 lo)).take (HT.sIx xs.length xs.length hi-HT.sIx xs.length 0 lo)
theorem La(xs:Wp V)(lo hi:jO Int):(Wg xs lo hi).length<=xs.length:=by
 unfold Wg
 rw[oy,pA]
 lia
def g9(K:W1):V->jO Int->jO Int->Hp->VK->Prop:=λx lo hi H Q=>∃a xs,x=.ref a/\SqT K H a xs/\
 ¬(HT.sIx xs.length 0 lo=0/\HT.sIx xs.length xs.length hi=xs.length)/\∀p,H p=none->Q (.ref p) (upd H p (.tup (Wg xs lo hi)))
theorem Y3:SlR X (g9 X.K):=by
 intro pins s σ H x v vl vu lo hi sl Q I rx hs pl pu h
 obtain⟨a,xs,rfl,hx,hw,q⟩:=h
 cases rx
 obtain⟨its,r,ht,hz⟩:=I.tuple hx
 have hlen:its.toArray.size=xs.length:=by rw[jd];exact r.length.symm
 refine⟨"tuple",_,kT.lookup,ht.typeIs,?_⟩
 refine HT.J8 ht hs pl pu (by rw[hlen];exact hw) ?_ (by rw[hlen];exact hz)
 rw[hlen]
 refine⟨.ref s.heap.objs.size,_,I.laid (t':=s.toks) (o:=.tup (Wg xs lo hi)) (λb ob q=>jP _ q) (ja _) ?_,rfl,q _ (I.hok.fresh (ja _))⟩
 exact⟨jY (La xs lo hi) hz,_,(r.drop (HT.sIx xs.length 0 lo)).take (HT.sIx xs.length xs.length hi-HT.sIx xs.length 0 lo),nk _ _⟩
noncomputable def dB(K:W1):R2:=λx y H Q=>∃a b xs ys,x=.ref a/\y=.ref b/\SqT K H a xs/\SqT K H b ys/\xs≠[]/\xs.length+ys.length<=sizeLine/\
 (ys=[]->Q (.ref a) H)/\(ys≠[]->∀p,H p=none->Q (.ref p) (upd H p (.tup (xs++ys))))
theorem Vals.N1{xs:Wp V}{us:Wp jN}(r:Vals xs us):us=[]↔xs=[]:=by
 cases r with
 |nil=>simp
 |cons _ _=>simp
theorem W4:OpR X (binaryOp .Add) (dB X.K):=by
 intro pins s σ H x y v u Q I rx ry h
 obtain⟨a,b,xs,ys,rfl,rfl,ha,hb,hx,hz,q1,q2⟩:=h
 cases rx
 cases ry
 obtain⟨its,r1,p1,_⟩:=I.tuple ha
 obtain⟨its2,r2,p2,_⟩:=I.tuple hb
 refine HT.YA p1 p2 (λz=>hx (r1.N1.mp z)) (λz=>⟨.ref a,H,I,rfl,q1 (r2.N1.mp z)⟩) (λz=>?_) (by rw[<-r1.length,<-r2.length];exact hz)
 refine⟨.ref s.heap.objs.size,_,I.laid (t':=s.toks) (o:=.tup (xs++ys)) (λb ob q=>jP _ q) (ja _) ?_,rfl,q2 (λw=>z (r2.N1.mpr w)) _ (I.hok.fresh (ja _))⟩
 exact⟨by rw[kn];exact hz,_,r1.append r2,nk _ _⟩
end
end L2
namespace L2
open PySem PySem.Spec PyProof.Rows
noncomputable def ixN(n:Nat)(i:Int):jO Nat:=if 0<=i then(if i<n then Gc i.toNat else none)else if-(n:Int)<=i then Gc (i+n).toNat else none
noncomputable def atI{α:Type}(xs:Wp α)(i:Int):jO α:=(ixN xs.length i).bind λj=>xs[j]?
theorem Tv{n:Nat}{i:Int}{j:Nat}(h:ixN n i=Gc j):seqIndex? i n=Gc j/\j<n/\ -(n:Int)<=i/\i<n:=by
 unfold ixN at h
 by_cases h0:0<=i
 .rw[kJ h0]at h
  by_cases h1:i<n
  .rw[kJ h1]at h
   have e:i.toNat=j:=kg h
   exact⟨by rw[uJ h0 h1,e],by lia,by lia,h1⟩
  .rw[kC h1]at h;cases h
 .rw[kC h0]at h
  by_cases h1: -(n:Int)<=i
  .rw[kJ h1]at h
   have e:(i+n).toNat=j:=kg h
   exact⟨by rw[seqIndex_neg (by lia) h1,e],by lia,h1,by lia⟩
  .rw[kC h1]at h;cases h
theorem UW{α:Type}{xs:Wp α}{i:Int}{v:α}(h:atI xs i=Gc v):∃j,seqIndex? i xs.length=Gc j/\xs[j]?=Gc v/\j<xs.length/\ -(xs.length:Int)<=i/\i<xs.length:=by
 unfold atI at h
 cases e:ixN xs.length i with
 |none=>rw[e]at h;cases h
 |some j=>
  rw[e]at h
  obtain⟨h1,h2,h3,h4⟩:=Tv e
  exact⟨j,h1,h,h2,h3,h4⟩
theorem YW{α:Type}{xs:Wp α}{j:Nat}{v:α}(h:xs[j]?=Gc v):atI xs (j:Int)=Gc v:=by
 have hj:j<xs.length:=(jb.mp h).1
 have e:ixN xs.length (j:Int)=Gc j:=by
  unfold ixN
  rw[kJ (by lia),kJ (by lia)];simp
 unfold atI;rw[e];exact h
theorem Nk{α:Type}(xs:Wp α)(v:α):atI (xs++[v]) (-1)=Gc v:=by
 have hl:(xs++[v]).length=xs.length+1:=by simp
 have e:ixN (xs++[v]).length (-1)=Gc xs.length:=by
  unfold ixN
  rw[hl,kC (by decide),kJ (by lia)]
  congr 1
  lia
 unfold atI
 rw[e]
 show(xs++[v])[xs.length]?=Gc v
 simp
def TU(b:j4):Prop:=∀o i,subscripted b false o i=operate [o,i] (getItem o i)
def IxR(X:Cx)(r:R2):Prop:=
 ∀(value slice:j4) (pins:Wp (jR×Obj)) (s:jQ) (σ:St) (H:Hp) (x y:V) (v u:jN) (Q:VK),Inv X pins σ H s->RelV x v->RelV y u->r x y H Q->
  subscripted slice false v u=operate [v,u] (getItem v u)->wpAny (model X.prog X.w) X.A (subscriptTail value slice v u) (EP X pins σ Q) X.xe s
def MtR(X:Cx)(id:lx)(r:V->Wp V->Hp->VK->Prop):Prop:=
 ∀(pins:Wp (jR×Obj)) (s:jQ) (σ:St) (H:Hp) (x:V) (xs:Wp V) (v:jN) (us:Wp jN) (Q:VK),Inv X pins σ H s->RelV x v->Vals xs us->r x xs H Q->
  wpAny (model X.prog X.w) X.A (call (.builtin id) (v::us)) (EP X pins σ Q) X.xe s
section
variable{X:Cx}{a b:j4}{ta tb:TE}{pos:Pos}
theorem dc{r:R2}(hr:IxR X r)(ha:PE X a ta)(hb:PE X b tb)(hs:TU b):PE X (.Subscript a b pos) (tOp r ta tb):=by
 intro pins s σ H Q I h
 exact Subscript_ (cP ha hb I h λv u s2 x y H2 I2 rx ry q=>hr a b pins s2 σ H2 x y v u Q I2 rx ry q (hs _ _))
noncomputable def iR(K:W1):R2:=λx y H Q=>∃p xs i v,x=.ref p/\y=.int i/\SqL K H p xs/\atI xs i=Gc v/\Q v H
noncomputable def ip(K:W1):R2:=λx y H Q=>∃p xs i v,x=.ref p/\y=.int i/\SqT K H p xs/\atI xs i=Gc v/\Q v H
theorem XZ:IxR X (iR X.K):=by
 intro value slice pins s σ H x y v u Q I rx ry h hs
 obtain⟨p,xs,i,z,rfl,rfl,hq,he,q⟩:=h
 cases rx
 obtain⟨t,rfl⟩:=ry
 obtain⟨its,r,pl,hz⟩:=I.list hq
 obtain⟨j,h1,h2,h3,h4,h5⟩:=UW he
 obtain⟨w,ew,rw'⟩:=r.get h2
 have hl:=r.length
 have hn:=PL
 have fin:EP X pins σ Q w s:=⟨z,H,I,rw',q⟩
 by_cases h0:0<=i
 .have hj:i.toNat=j:=by
   rw[uJ h0 h5]at h1
   exact kg h1
  exact item_listR pl.isList h0 (by lia) (by rw[hj];simpa using ew) fin hs
 .have hj:(i+(its.toArray.size:Int)).toNat=j:=by
   rw[seqIndex_neg (by lia) h4]at h1
   rw[jd,<-hl]
   exact kg h1
  exact qm (x:=w) pl.isList.typeIs tH.lookup
   (wpAny_getItem_list_neg (Q:=λr s'=>r=w/\EP X pins σ Q r s') pl.isList (by lia) (by rw[jd]<;>lia) (by lia) (by rw[hj];simpa using ew) ⟨rfl,fin⟩) hs
theorem Zm:IxR X (ip X.K):=by
 intro value slice pins s σ H x y v u Q I rx ry h hs
 obtain⟨p,xs,i,z,rfl,rfl,hq,he,q⟩:=h
 cases rx
 obtain⟨t,rfl⟩:=ry
 obtain⟨its,r,pl,hz⟩:=I.tuple hq
 obtain⟨j,h1,h2,h3,h4,h5⟩:=UW he
 obtain⟨w,ew,rw'⟩:=r.get h2
 have hl:=r.length
 have hn:=PL
 have fin:EP X pins σ Q w s:=⟨z,H,I,rw',q⟩
 exact qm (x:=w) pl.typeIs kT.lookup
  (getItem_tuple (j:=j) (Q:=λr s'=>r=w/\EP X pins σ Q r s') pl (by lia) (by lia) (by rw[jd,<-hl];exact h1) (by simpa using ew) ⟨rfl,fin⟩) hs
theorem Rc(its:Wp jN)(n j:Nat)(u:jN):qA (·.setIfInBounds j u) {cls:=.type "list",data:=.seq its.toArray n}={cls:=.type "list",data:=.seq (its.set j u).toArray n}:=by
 simp[qA]
theorem Inv.lst{pins:Wp (jR×Obj)}{σ:St}{H:Hp}{s:jQ}{p:jR}{xs:Wp V}(I:Inv X pins σ H s)(h:H p=Gc (.lst xs)):∃(its:Wp jN) (n:Nat),Vals xs its/\s.heap.get? p=Gc {cls:=.type "list",data:=.seq its.toArray n}/\xs.length<=sizeLine:=by
 obtain⟨z,its,n,r,e⟩:=I.hok p _ h
 exact⟨its,n,r,e,z⟩
theorem Inv.Zr{pins:Wp (jR×Obj)}{σ:St}{H:Hp}{s:jQ}{p:jR}{xs ys:Wp V}{its its':Wp jN}{n n':Nat}{f:Obj->Obj}(I:Inv X pins σ H s)(h:H p=Gc (.lst xs))(ho:s.heap.get? p=Gc {cls:=.type "list",data:=.seq its.toArray n})(hf:f {cls:=.type "list",data:=.seq its.toArray n}={cls:=.type "list",data:=.seq its'.toArray n'})(r:Vals ys its')(hz:ys.length<=sizeLine)(t:Nat):Inv X pins σ (upd H p (.lst ys)) {s with heap:=s.heap.update p f,toks:=t}:=by
 have e:(s.heap.update p f).get? p=Gc {cls:=.type "list",data:=.seq its'.toArray n'}:=by
  rw[kx f ho (by rw[hf]<;>rfl),hf]
 refine I.write (x:=p) (e:=p) (by rw[h];trivial) (.inl rfl) (λb u hb q=>(kX _ _ (kZ hb)).trans q) ⟨_,e⟩ ?_
 exact⟨hz,its',n',r,e⟩
def dN:V->V->V->Hp->(Hp->Prop)->Prop:=λo i v H Q=>∃p xs k j,o=.ref p/\i=.int k/\H p=Gc (.lst xs)/\ixN xs.length k=Gc j/\Q (upd H p (.lst (xs.set j v)))
theorem set_list:ff X dN:=by
 intro pins s σ H o i v ov iv u Q I ro ri rv h
 obtain⟨p,xs,k,j,rfl,rfl,hp,hj,q⟩:=h
 cases ro
 obtain⟨t,rfl⟩:=ri
 obtain⟨its,n,r,ho,hz⟩:=I.lst hp
 obtain⟨h1,h2,h3,h4⟩:=Tv hj
 have hl:=r.length
 have hn:=PL
 have I':Inv X pins σ (upd H p (.lst (xs.set j v))) {s with heap:=s.heap.update p (qA (·.setIfInBounds j u))}:=
  I.Zr hp ho (Rc its n j u) (r.set rv j) (by rw[lq];exact hz) s.toks
 by_cases h0:0<=k
 .have hk:k.toNat=j:=by
   rw[uJ h0 h4]at h1
   exact kg h1
  exact PySem.W.ki_setAt ho h0 (by lia) (by rw[jd,<-hl];exact h4) (by rw[hk];exact⟨_,I',q⟩)
 .have hk:(k+(its.toArray.size:Int)).toNat=j:=by
   rw[seqIndex_neg (by lia) h3]at h1
   rw[jd,<-hl]
   exact kg h1
  exact PySem.W.ki_setBack ho (by lia) (by rw[jd,<-hl];exact h3) (by lia) (by rw[hk];exact⟨_,I',q⟩)
theorem Od(lo hi:jO Int)(n:Nat):(sliceBounds lo hi none n).1=((HT.sIx n 0 lo:Nat):Int)/\(sliceBounds lo hi none n).2.1=((HT.sIx n n hi:Nat):Int)/\(sliceBounds lo hi none n).2.2=1:=by
 refine⟨?_,?_,rfl⟩
 .cases lo with
  |none=>simp[sliceBounds,HT.sIx]
  |some i=>
   simp only[sliceBounds,HT.sIx,uA,show(1:Int)>0 by decide,pH]
   by_cases h:i<0
   .simp only[h,pH]<;>lia
   .simp only[h,pv]<;>lia
 .cases hi with
  |none=>simp[sliceBounds,HT.sIx]
  |some i=>
   simp only[sliceBounds,HT.sIx,uA,show(1:Int)>0 by decide,pH]
   by_cases h:i<0
   .simp only[h,pH]<;>lia
   .simp only[h,pv]<;>lia
theorem OA(its:Wp jN)(lo hi:jO Int):slicePick its.toArray lo hi none=((its.drop (HT.sIx its.length 0 lo)).take (HT.sIx its.length its.length hi-HT.sIx its.length 0 lo)).toArray:=by
 obtain⟨h1,h2,h3⟩:=Od lo hi its.toArray.size
 unfold slicePick
 rw[h1,h2,h3]
 simp only[sliceRange_one,pick_run,jd]<;>rfl
def iG(K:W1):V->jO Int->jO Int->Hp->VK->Prop:=λx lo hi H Q=>∃a xs,x=.ref a/\SqL K H a xs/\∀p,H p=none->Q (.ref p) (upd H p (.lst (Wg xs lo hi)))
theorem Wu:SlR X (iG X.K):=by
 intro pins s σ H x v vl vu lo hi sl Q I rx hs pl pu h
 obtain⟨a,xs,rfl,hx,q⟩:=h
 cases rx
 obtain⟨its,r,ht,hz⟩:=I.list hx
 have hlen:=r.length
 refine⟨"list",_,tH.lookup,ht.isList.typeIs,?_⟩
 refine wpAny_getItem_list_slice ht.isList hs pl pu .none (by simp) ?_ (by rw[jd]<;>lia)
 rw[OA,<-hlen]
 refine⟨.ref s.heap.objs.size,_,I.laid (t':=s.toks) (o:=.lst (Wg xs lo hi)) (λb ob q=>jP _ q) (ja _) ?_,rfl,q _ (I.hok.fresh (ja _))⟩
 exact⟨jY (La xs lo hi) hz,_,0,(r.drop (HT.sIx xs.length 0 lo)).take (HT.sIx xs.length xs.length hi-HT.sIx xs.length 0 lo),jx _ rfl⟩
noncomputable def MY:V->kG
 | .non=>true
 | .bl _=>true
 | .int _=>true
 | .str _=>true
 |_=>false
noncomputable def eqV:V->V->kG
 | .non,.non=>true
 | .bl a,.bl b=>a==b
 | .bl a,.int b=>(if a then 1 else 0)==b
 | .int a,.bl b=>a==(if b then 1 else 0)
 | .int a,.int b=>a==b
 | .str a,.str b=>a==b
 |_,_=>false
theorem Zx{A:kK}{s:jQ}{y x:V}{u v:jN}(ry:RelV y u)(rx:RelV x v)(fy:MY y=true)(fx:MY x=true):ym A s u v (eqV y x):=by
 cases y with
 |non=>
  cases ry
  cases x with
  |non=>cases rx;exact SeqAt.EqAt.same _
  |bl b=>cases rx;exact xQ b
  |int b=>obtain⟨t,rfl⟩:=rx;exact yB b t
  |str b=>obtain⟨t,rfl⟩:=rx;exact yC b t
  |_=>exact absurd (show false=true from fx) kM
 |bl a=>
  cases ry
  cases x with
  |non=>cases rx;exact xR a
  |bl b=>cases rx;exact xS a b
  |int b=>obtain⟨t,rfl⟩:=rx;exact yD a b t
  |str b=>obtain⟨t,rfl⟩:=rx;exact yE a b t
  |_=>exact absurd (show false=true from fx) kM
 |int a=>
  obtain⟨t',rfl⟩:=ry
  cases x with
  |non=>cases rx;exact yF a t'
  |bl b=>cases rx;exact yG a t' b
  |int b=>obtain⟨t,rfl⟩:=rx;exact yn a t' b t
  |str b=>obtain⟨t,rfl⟩:=rx;exact sF a t' b t
  |_=>exact absurd (show false=true from fx) kM
 |str a=>
  obtain⟨t',rfl⟩:=ry
  cases x with
  |non=>cases rx;exact yH a t'
  |bl b=>cases rx;exact yI a t' b
  |int b=>obtain⟨t,rfl⟩:=rx;exact sG a t' b t
  |str b=>obtain⟨t,rfl⟩:=rx;exact yo a t' b t
  |_=>exact absurd (show false=true from fx) kM
 |_=>exact absurd (show false=true from fy) kM
noncomputable def eqU(x:V)(u:jN):kG:=match u with
 | .none=>eqV .non x
 | .bool b=>eqV (.bl b) x
 | .int i _=>eqV (.int i) x
 | .str z _=>eqV (.str z) x
 |_=>false
theorem WO{x y:V}{u:jN}(r:RelV y u)(f:MY y=true):eqU x u=eqV y x:=by
 cases y with
 |non=>cases r;rfl
 |bl b=>cases r;rfl
 |int i=>obtain⟨t,rfl⟩:=r;rfl
 |str z=>obtain⟨t,rfl⟩:=r;rfl
 |_=>exact absurd (show false=true from f) kM
theorem MK{x:V}:∀{xs:Wp V} {us:Wp jN},Vals xs us->xs.all MY=true->us.any (eqU x)=xs.any λy=>eqV y x
 |_,_,.nil,_=>rfl
 |y::xs,u::us,.cons r t,f=>by
  rw[qU,jW]at f
  rw[qV,qV,WO r f.1,MK t f.2]
theorem Jt{A:kK}{s:jQ}{x:V}{v:jN}(rx:RelV x v)(fx:MY x=true):∀{xs:Wp V} {us:Wp jN},Vals xs us->xs.all MY=true->∀u∈us,ym A s u v (eqU x u)
 |_,_,.nil,_=>λu hu=>by cases hu
 |y::xs,u::us,.cons r t,f=>λu' hu=>by
  rw[qU,jW]at f
  rcases jX.mp hu with rfl|hu
  .rw[WO r f.1];exact Zx r rx f.1 fx
  .exact Jt rx fx t f.2 u' hu
noncomputable def inV(x:V)(xs:Wp V):kG:=xs.any λy=>eqV y x
noncomputable def rIn(K:W1)(neg:kG):R2:=λx y H Q=>∃p xs,y=.ref p/\(SqL K H p xs\/SqT K H p xs)/\MY x=true/\xs.all MY=true/\Q (.bl (if neg then !inV x xs else inV x xs)) H
theorem UD:OpR X (compareOp .In) (rIn X.K false):=by
 intro pins s σ H x y v u Q I rx ry h
 obtain⟨p,xs,rfl,hq,fx,fs,q⟩:=h
 cases ry
 rcases hq with hq|hq
 .obtain⟨its,r,pl,hz⟩:=I.list hq
  refine SeqAt.in_listAt (eqU x) pl.isList (λw hw=>Jt rx fx r fs w (by simpa using hw)) ⟨.bl _,H,I,rfl,?_⟩
  rw[show its.toArray.any (eqU x)=its.any (eqU x) by simp,MK r fs]
  exact q
 .obtain⟨its,r,pl,hz⟩:=I.tuple hq
  refine SeqAt.in_tupleAt (eqU x) pl (λw hw=>Jt rx fx r fs w (by simpa using hw)) ⟨.bl _,H,I,rfl,?_⟩
  rw[show its.toArray.any (eqU x)=its.any (eqU x) by simp,MK r fs]
  exact q
theorem OX:OpR X (compareOp .NotIn) (rIn X.K true):=by
 intro pins s σ H x y v u Q I rx ry h
 obtain⟨p,xs,rfl,hq,fx,fs,q⟩:=h
 cases ry
 rcases hq with hq|hq
 .obtain⟨its,r,pl,hz⟩:=I.list hq
  refine SeqAt.notIn_listAt (eqU x) pl.isList (λw hw=>Jt rx fx r fs w (by simpa using hw)) ⟨.bl _,H,I,rfl,?_⟩
  rw[show its.toArray.any (eqU x)=its.any (eqU x) by simp,MK r fs]
  exact q
 .obtain⟨its,r,pl,hz⟩:=I.tuple hq
  refine SeqAt.notIn_tupleAt (eqU x) pl (λw hw=>Jt rx fx r fs w (by simpa using hw)) ⟨.bl _,H,I,rfl,?_⟩
  rw[show its.toArray.any (eqU x)=its.any (eqU x) by simp,MK r fs]
  exact q
theorem O7:FN X (.builtin "len") (λxs H Q=>∃p ys,xs=[.ref p]/\(SqL X.K H p ys\/SqT X.K H p ys)/\Q (.int ys.length) H):=by
 intro pins s σ H xs us Q I r h
 obtain⟨p,ys,rfl,hq,q⟩:=h
 obtain⟨u,rfl,rx⟩:=vals1 r
 cases rx
 have hn:=PL
 rcases hq with hq|hq
 .obtain⟨its,r',pl,hz⟩:=I.list hq
  have hlen:=r'.length
  exact Calls.call_len_list pl.isList (by simp only[jd]<;>lia) ⟨.int ys.length,H,I.tok _,⟨s.toks+1,by rw[jd,hlen]⟩,q⟩
 .obtain⟨its,r',pl,hz⟩:=I.tuple hq
  have hlen:=r'.length
  exact len_tuple pl (by simp only[jd]<;>lia) ⟨.int ys.length,H,I.tok _,⟨s.toks+1,by rw[jd,hlen]⟩,q⟩
theorem Oq:FN X (.builtin "len") (λxs H Q=>∃z,xs=[.str z]/\z.length<=sizeLine/\Q (.int z.length) H):=by
 intro pins s σ H xs us Q I r h
 obtain⟨z,rfl,hz,q⟩:=h
 obtain⟨u,rfl,t,rfl⟩:=vals1 r
 have hn:=PL
 exact len_str (by lia) ⟨.int z.length,H,I.tok _,⟨_,rfl⟩,q⟩
theorem Oz:FN X (.type "list") (λxs H Q=>∃p ys,xs=[.ref p]/\(SqL X.K H p ys\/SqT X.K H p ys)/\∀l,H l=none->Q (.ref l) (upd H l (.lst ys))):=by
 intro pins s σ H xs us Q I r h
 obtain⟨p,ys,rfl,hq,q⟩:=h
 obtain⟨u,rfl,rx⟩:=vals1 r
 cases rx
 have fin:∀(its:Wp jN),Vals ys its->ys.length<=sizeLine->∀(h':j0) (c':Nat),(∀b o',s.heap.get? b=Gc o'->h'.get? b=Gc o')->
   h'.get? s.heap.objs.size=Gc {cls:=.type "list",dict:=none,data:=.seq its.toArray c',slots:= #[]}->EP X pins σ Q (.ref s.heap.objs.size) {s with heap:=h'}:=λits r' hz h' c' kp e=>
  ⟨.ref s.heap.objs.size,_,I.laid (t':=s.toks) kp (ja _) (show Ds X.prog X.w _ h' _ (.lst ys)from⟨hz,its,c',r',e⟩),rfl,q _ (I.hok.fresh (ja _))⟩
 rcases hq with hq|hq
 .obtain⟨its,r',pl,hz⟩:=I.list hq
  have hlen:=r'.length
  obtain⟨o,ho,hc,n,hd⟩:=pl.isList
  exact vU p (.inl rfl) ho hc hd (λh' c' kp e=>fin its r' hz h' c' kp e) (by simp only[jd]<;>lia)
 .obtain⟨its,r',pl,hz⟩:=I.tuple hq
  have hlen:=r'.length
  obtain⟨o,ho,hc,n,hd⟩:=pl
  exact vU p (.inr rfl) ho hc hd (λh' c' kp e=>fin its r' hz h' c' kp e) (by simp only[jd]<;>lia)
theorem Nm:FN X (.type "tuple") (λxs H Q=>∃p ys,xs=[.ref p]/\((SqL X.K H p ys/\∀l,H l=none->Q (.ref l) (upd H l (.tup ys)))\/(SqT X.K H p ys/\Q (.ref p) H))):=by
 intro pins s σ H xs us Q I r h
 obtain⟨p,ys,rfl,h⟩:=h
 obtain⟨u,rfl,rx⟩:=vals1 r
 cases rx
 rcases h with⟨hq,q⟩|⟨hq,q⟩
 .obtain⟨its,r',pl,hz⟩:=I.list hq
  have hlen:=r'.length
  refine call_tuple_list pl.isList (λh' kp=>?_) (by simp only[jd]<;>lia)
  have I1:Inv X pins σ H {s with heap:=h'}:=I.kept (t':=s.toks) kp
  have I2:Inv X pins σ (upd H h'.objs.size (.tup ys)) {s with heap:=h'.push {cls:=.type "tuple",data:=.seq its.toArray}}:=
   I1.laid (t':=s.toks) (λb o e=>jP _ e) (ja _) (show Ds X.prog X.w _ _ _ (.tup ys)from⟨hz,its,r',nk _ _⟩)
  exact⟨.ref h'.objs.size,_,I2,rfl,q _ (I1.hok.fresh (ja _))⟩
 .obtain⟨its,r',pl,hz⟩:=I.tuple hq
  exact call_tuple_same pl ⟨.ref p,H,I,rfl,q⟩
def tyV(K:W1)(T:lx)(x:V)(H:Hp):Prop:=match x with
 | .str _=>T="str"
 | .int _=>T="int"
 | .ref p=>(T="list" /\∃xs,SqL K H p xs)\/(T="tuple" /\∃o,K.lookup p=Gc o/\o.cls=.type "tuple" /\o.dict=none)∨
    (T="dict" /\((∃kvs,H p=Gc (.dK kvs))\/∃kvs,H p=Gc (.dT kvs)))\/(T="set" /\∃S n,H p=Gc (.set S n))
 |_=>lW
theorem ZM{pins:Wp (jR×Obj)}{σ:St}{H:Hp}{s:jQ}{T:lx}{x:V}{v:jN}(I:Inv X pins σ H s)(r:RelV x v)(ty:tyV X.K T x H):s.TypeIs v T/\∀a,v=.ref a->∃ob,s.heap.get? a=Gc ob/\ob.dict=none:=by
 cases x with
 |str z=>
  obtain⟨t,rfl⟩:=r
  cases (show T="str" from ty)
  exact⟨qo s z t,λ_ e=>nomatch e⟩
 |int i=>
  obtain⟨t,rfl⟩:=r
  cases (show T="int" from ty)
  exact⟨pB s i t,λ_ e=>nomatch e⟩
 |ref p=>
  cases r
  rcases ty with⟨rfl,xs,hq⟩|⟨rfl,o,hk,hc,hd⟩|⟨rfl,hk⟩|⟨rfl,S,n,hk⟩
  .obtain⟨its,_,pl,_⟩:=I.list hq
   refine⟨pl.isList.typeIs,λa e=>?_⟩
   cases e
   obtain⟨o,n,e,c,hd,_⟩:=pl
   exact⟨o,e,hd⟩
  .refine⟨⟨o,I.kIn p o hk,hc⟩,λa e=>?_⟩
   cases e
   exact⟨o,I.kIn _ o hk,hd⟩
  .have z:∃o,s.heap.get? p=Gc o/\o.ExactDict:=by
    rcases hk with⟨kvs,hk⟩|⟨kvs,hk⟩
    .obtain⟨_,_,_,_,o,_,_,e,ex,_⟩:=I.hok p _ hk
     exact⟨o,e,ex⟩
    .obtain⟨_,_,_,_,o,_,_,e,ex,_⟩:=I.hok p _ hk
     exact⟨o,e,ex⟩
   obtain⟨o,e,ex⟩:=z
   refine⟨⟨o,e,ex.1⟩,λa e2=>?_⟩
   cases e2
   exact⟨o,e,ex.2.1⟩
  .obtain⟨o,_,_,_,e,ex,_⟩:=I.hok p _ hk
   refine⟨⟨o,e,ex.1⟩,λa e2=>?_⟩
   cases e2
   exact⟨o,e,ex.2.1⟩
 |_=>exact k8 ty
noncomputable def tBM(K:W1)(T:lx)(r:V->Wp V->Hp->VK->Prop)(to:TE)(t:TA):TE:=λσ H Q=>to σ H λx H1=>tyV K T x H1/\t σ H1 λxs H2=>r x xs H2 Q
variable{o e:j4}{es:Wp j4}{to:TE}{t:TA}{name:Str}{apos cpos:Pos}{T id:lx}{r:V->Wp V->Hp->VK->Prop}
theorem dE(pa:PlainAttrs T)(slot:Slot T name id)(hty:typeOf (.builtin id)=pure (.type "method_descriptor"))(hm:MtR X id r)(ho:PE X o to)(ha:PA X (e::es) t)(hbase:attributeBase o name X.env (eval o X.env)=eval o X.env:=by rfl)(hfew:((backTo cpos (ju (e::es) X.env)).all (λx=> !x.1) && (backToKw cpos (keywordEach [] X.env)).all (λx=>x.1.isSome) && decide ((e::es).length+([]:Wp uV).length+(if([]:Wp uV).isEmpty then 0 else 1)<30))=true:=by rfl)(hline:(apos.endLine==cpos.line)=true:=by rfl)(hs:ju (e::es) X.env=(false,eval e X.env)::ju es X.env:=by rfl)(hplain:(backTo cpos (ju es X.env)).any (·.1)=false:=by rfl):PE X (.Call (.Attribute o name apos) (e::es) [] cpos) (tBM X.K T r to t):=by
 intro pins s σ H Q I h
 refine wpAny_Call_method_late hbase hfew hline rfl (thn (ho pins s σ H _ I h) λv s1 ⟨x,H1,I1,r1,ty,q1⟩=>?_)
 obtain⟨h1,h2⟩:=ZM I1 r1 ty
 refine⟨T,id,pa,slot,hty,h1,h2,?_⟩
 have hA:=ha cpos pins s1 σ H1 _ I1 q1
 rw[hs]at hA⊢
 refine qp (by show(false||(backTo cpos (ju es X.env)).any (·.1))=false;rw[hplain]<;>rfl) (nU ?_)
 exact thn hA λus s2 ⟨vs,H2,I2,r2,q2⟩=>hm pins s2 σ H2 x vs v us Q I2 r1 r2 q2
end
end L2
namespace L2
open PySem PySem.Spec PyProof.Rows
def MtM(X:Cx)(id:lx)(r:V->Wp V->Hp->VK->Prop):Prop:=
 ∀(pins:Wp (jR×Obj)) (s:jQ) (σ:St) (H:Hp) (x:V) (xs:Wp V) (v:jN) (us:Wp jN) (Q:VK),Inv X pins σ H s->RelV x v->Vals xs us->r x xs H Q->
  wpAny (model X.prog X.w) X.A (call (.builtin id) (v::us)) (EP X pins σ Q) X.xe s
theorem Vals.one:∀{x:V} {us:Wp jN},Vals [x] us->∃u,us=[u]/\RelV x u:=λh=>by
 cases h with
 |cons r t=>cases t;exact⟨_,rfl,r⟩
theorem Vals.two:∀{x y:V} {us:Wp jN},Vals [x,y] us->∃u v,us=[u,v]/\RelV x u/\RelV y v:=λh=>by
 cases h with
 |cons r t=>
  cases t with
  |cons q t=>cases t;exact⟨_,_,rfl,r,q⟩
theorem Vals.rep{xs:Wp V}{us:Wp jN}(h:Vals xs us):∀k:Nat,Vals (jg k xs).flatten (jg k us).flatten
 |0=>.nil
 |k+1=>by
  rw[lN,lN,mT,mT]
  exact Vals.append h (Vals.rep h k)
theorem foldl_rep(its:Wp jN):∀(k:Nat) (acc:Wp jN),sQ (λx1 x2=>x1++x2) acc.toArray (jg k its.toArray)=(acc++(jg k its).flatten).toArray
 |0,acc=>by simp
 |k+1,acc=>by
  have e:acc.toArray++its.toArray=(acc++its).toArray:=by simp
  have e2:(acc++its)++(jg k its).flatten=acc++(jg (k+1) its).flatten:=by
   rw[lN,mT,oZ]
  rw[<-e2,<-foldl_rep its k (acc++its),<-e,lN,List.foldl_cons]
section
variable{X:Cx}{pins:Wp (jR×Obj)}{σ:St}{H:Hp}{s:jQ}{l b:jR}{xs ys zs:Wp V}
theorem Inv.ek{its its':Wp jN}{n:Nat}{f:kP jN->kP jN}{t':Nat}(I:Inv X pins σ H s)(hH:H l=Gc (.lst xs))(e:s.heap.get? l=Gc {cls:=.type "list",data:=.seq its.toArray n})(hf:f its.toArray=its'.toArray)(hv:Vals ys its')(hz:ys.length<=sizeLine):Inv X pins σ (upd H l (.lst ys)) {s with heap:=s.heap.update l (qA f),toks:=t'}:=by
 have q:=z6 e f
 rw[hf]at q
 refine I.write (x:=l) (e:=l) (by rw[hH];exact trivial) (.inl rfl) (λb' u hb hu=>(kX s.heap (qA f) (kZ hb)).trans hu) ⟨_,q⟩ ?_
 exact⟨hz,its',_,hv,q⟩
theorem Inv.gM{its:Wp jN}{t':Nat}(I:Inv X pins σ H s)(hv:Vals ys its)(hz:ys.length<=sizeLine):Inv X pins σ (upd H s.heap.objs.size (.lst ys)) {s with heap:=s.heap.push {cls:=.type "list",data:=.seq its.toArray},toks:=t'}:=
 I.laid (λ_ _ q=>jP _ q) (ja _) ⟨hz,its,0,hv,jx _ rfl⟩
theorem Inv.fresh(I:Inv X pins σ H s):H s.heap.objs.size=none:=I.hok.fresh (ja _)
theorem Inv.WM(I:Inv X pins σ H s)(hH:H l=Gc (.lst xs)):xs.length<=sizeLine/\∃(its:Wp jN) (n:Nat),Vals xs its/\xs.length=its.length/\s.heap.get? l=Gc {cls:=.type "list",data:=.seq its.toArray n}:=by
 obtain⟨z,its,n,r,e⟩:=I.hok l _ hH
 exact⟨z,its,n,r,r.length,e⟩
theorem OP{n:Nat}(h:n<=sizeLine):lA n=false:=by
 unfold lA
 exact nD (by lia)
end
section
variable{X:Cx}
def YK:V->Wp V->Hp->VK->Prop:=λx vs H Q=>∃l xs y,x=.ref l/\vs=[y]/\H l=Gc (.lst xs)/\xs.length<sizeLine/\Q .non (upd H l (.lst (xs++[y])))
theorem Ow:MtM X "list.append" YK:=by
 intro pins s σ H x vs v us Q I rx rv h
 obtain⟨l,xs,y,rfl,rfl,hH,hz,q⟩:=h
 cases rx
 obtain⟨u,rfl,ru⟩:=rv.one
 obtain⟨z,its,n,r,hl,e⟩:=I.WM hH
 refine pC ke ⟨_,e,rfl⟩ F.entry_list_append (F.args_list_append_2 _ _) (PySem.list_append l its.toArray n u (by rw[jd];lia)) ⟨e,?_⟩
 refine⟨.non,_,I.ek (its':=its++[u]) hH e (by simp) (r.append (.cons ru .nil)) ?_,rfl,q⟩
 rw[kn,qz]
 lia
def YS:V->Wp V->Hp->VK->Prop:=λx vs H Q=>∃l b xs zs,x=.ref l/\vs=[.ref b]/\H l=Gc (.lst xs)/\H b=Gc (.lst zs)/\xs.length+zs.length<=sizeLine/\Q .non (upd H l (.lst (xs++zs)))
theorem UL:MtM X "list.extend" YS:=by
 intro pins s σ H x vs v us Q I rx rv h
 obtain⟨l,b,xs,zs,rfl,rfl,hH,hB,hz,q⟩:=h
 cases rx
 obtain⟨u,rfl,ru⟩:=rv.one
 cases ru
 obtain⟨z,its,n,r,hl,e⟩:=I.WM hH
 obtain⟨z2,its2,n2,r2,hl2,e2⟩:=I.WM hB
 have hsz:its.toArray.size+its2.toArray.size<=sizeLine:=by rw[jd,jd];lia
 have hlong:¬(!its.toArray.isEmpty && lA (its.toArray.size+its2.toArray.size))=true:=by
  rw[OP hsz,qB]
  exact kM
 refine pC pJ ⟨_,e,rfl⟩ rY (rD _ _)
  (tJ l its.toArray n b its2.toArray n2 hlong (by rw[jd];lia) (by lia)) ⟨e,e2,?_⟩
 refine⟨.non,_,I.ek (its':=its++its2) hH e (by simp) (r.append r2) ?_,rfl,q⟩
 rw[kn]
 lia
noncomputable def iV:R2:=λx y H Q=>∃l b xs zs,x=.ref l/\y=.ref b/\H l=Gc (.lst xs)/\H b=Gc (.lst zs)/\xs.length+zs.length<=sizeLine/\∀p,H p=none->Q (.ref p) (upd H p (.lst (xs++zs)))
theorem aK:OpR X (binaryOp .Add) iV:=by
 intro pins s σ H x y v u Q I rx ry h
 obtain⟨l,b,xs,zs,rfl,rfl,hH,hB,hz,q⟩:=h
 cases rx
 cases ry
 obtain⟨z,its,n,r,hl,e⟩:=I.WM hH
 obtain⟨z2,its2,n2,r2,hl2,e2⟩:=I.WM hB
 refine PySem.P.add_list e e2 ?_ (by rw[jd,jd];lia)
 have ea:its.toArray++its2.toArray=(its++its2).toArray:=by simp
 rw[ea]
 exact⟨.ref _,_,I.gM (t':=s.toks) (r.append r2) (by rw[kn];lia),rfl,q _ I.fresh⟩
noncomputable def gv:R2:=λx y H Q=>∃l k xs,x=.ref l/\y=.int k/\H l=Gc (.lst xs)/\ -(2^63)<=k/\k<2^63/\xs.length*k.toNat<=sizeLine/\
 ∀p,H p=none->Q (.ref p) (upd H p (.lst (jg k.toNat xs).flatten))
theorem len_rep{α:Type}(xs:Wp α)(k:Nat):(jg k xs).flatten.length=k*xs.length:=by
 induction k with
 |zero=>simp
 |succ k ih=>rw[lN,mT,kn,ih,Nat.succ_mul,tK]
theorem ZG:OpR X (binaryOp .Mult) gv:=by
 intro pins s σ H x y v u Q I rx ry h
 obtain⟨l,k,xs,rfl,rfl,hH,h1,h2,hz,q⟩:=h
 cases rx
 obtain⟨t,rfl⟩:=ry
 obtain⟨z,its,n,r,hl,e⟩:=I.WM hH
 have hlen:its.toArray.size*k.toNat<=sizeLine:=by rw[jd,<-hl];exact hz
 have hcap:¬its.toArray.size*k.toNat>(2^63-1) / 8:=by
  have:(sizeLine:Nat)<=(2^63-1) / 8:=by decide
  lia
 have hfit:¬(!uh k)=true:=by
  rw[fitsIndex_both h1 h2]
  exact kM
 have hlong:¬lA (its.toArray.size*k.toNat)=true:=by
  rw[OP hlen]
  exact kM
 have hnew:sQ (λx1 x2=>x1++x2) #[] (jg (if its.toArray.isEmpty=true then 0 else k.toNat) its.toArray)=(jg k.toNat its).flatten.toArray:=by
  have f0:∀m:Nat,sQ (λx1 x2=>x1++x2) #[] (jg m its.toArray)=(jg m its).flatten.toArray:=λm=>by
   have:=foldl_rep its m []
   rw[kh]at this
   exact this
  rw[f0]
  cases its with
  |nil=>simp
  |cons a r'=>rw[kC (by simp)]
 refine ni (T:="list") (U:="int") (by decide) ⟨_,e,rfl⟩ (λs'=>pB s' k t) noFill_list_mul qv nF repeat_list qf.lookup
  (pC nF (pB s k t) qg (qN _ _) (int___rmul___int_list k t l its.toArray n)
    ⟨e,rfl,⟨_,e,rfl⟩,pC F.slot_list_mul ⟨_,e,rfl⟩ F.entry_list_mul (F.args_list_mul_2 _ _) (sd l its.toArray n k t hfit hcap hlong) ⟨e,?_⟩⟩)
 rw[hnew]
 exact⟨.ref _,_,I.gM (t':=s.toks) (r.rep k.toNat) (by rw[len_rep,m9];exact hz),rfl,q _ I.fresh⟩
end
section
variable{prog:js}{w:j6}{A:kK}{E:jN->jQ->Prop}{s:jQ}
end
section
variable{X:Cx}
end
end L2
namespace Att
open PySem PySem.W PySem.Calls PyProof.Rows
theorem ints_of_wellAll{P:yq}{h:j0}:∀(ns:Wp Int) (vs:Wp jN),WellAll P h vs (ns.map z9)->ny vs ns:=by
 intro ns
 induction ns with
 |nil=>
  intro vs w
  rw[mS]at w
  cases w
  exact .nil
 |cons n ns ih=>
  intro vs w
  rw[kY]at w
  cases w with
  |cons a b=>
   cases a
   exact .cons _ _ (ih _ b)
theorem script_of{l:pK}{n:Nat}(hn:l.most=Gc n){P:yq}{h:j0}{args:Wp WData}{vals:Wp jN}(hpre:l.row.toRowW.claim.pre args=true)(hwl:WellAll P h vals args):∃a vs ns,vals=[kD a]/\args=[WData.list (ns.map z9)]/\h.get? a=Gc {cls:=.type "list",data:=.seq vs.toArray}/\ny vs ns/\ns.length<=n:=by
 have hsh:WShape.hasAll [] args [.list .int]=true:=(pre_splitW hpre).1
 have hc:l.pre.holds [] {args:=args}=true:=(pre_splitW hpre).2
 obtain⟨d,r,rfl,h1,h2⟩:=hasAllW_cons hsh
 obtain rfl:=hasAllW_nil h2
 obtain⟨xs,rfl,h3⟩:=hasW_list h1
 obtain⟨ns,rfl⟩:=items_int h3
 have hlen:ns.length<=n:=by
  unfold OpenLaw.pre at hc
  have h4:(WTm.not (.lt (.lit (.int (n:Int))) (.len (.arg 0)))).holds [] {args:=[.list (ns.map .int)]}=true:=by
   have h4:=(holds_andW hc).1
   rw[hn]at h4
   exact h4
  have h5:=condW_of h4 (w_not (w_lt w_lit (w_len_list (w_arg rfl))))
  rw[kF]at h5
  refine Nat.le_of_not_lt λq=>?_
  have q':(n:Int)<((ns.length:Nat):Int):=by lia
  first
   |(rw[mE q']at h5;exact absurd h5 (by decide))
   |(simp at h5;lia)
 cases hwl with
 |cons w1 w2=>
  cases w2
  cases w1 with
  |list ho hall=>exact⟨_,_,ns,rfl,rfl,ho,ints_of_wellAll ns _ hall,hlen⟩
theorem post_true(l:pK)(args:Wp WData):l.row.toRowW.claim.post args (.bool true) args=true:=
 postW_of (r:=l.row.toRowW) (X:=(true==true))
  (show yt [] (.bool true) .bool=true by first|rfl|decide|simp[yt,WShape.arms,WShape.armsAll])
  (show(WTm.eq .res (.lit (.bool true))).value [] {args:=args,res:=Gc (.bool true),after:=args}=Gc (.bool (true==true))from w_eq_bool (w_res rfl) w_lit) rfl
theorem attach_call{l:pK}{n:Nat}{q:js}{loose:Wp Str}{XP:(Str->jO jN)->j0->Prop}{YP:j6->j0->Prop}{d:DefRec}(hn:l.most=Gc n)(hdf:d.params.defaults=[])(call:∀(w:j6) (s₀ s₁:jQ) (mg mb:Str->jO jN) (fa:jR) (o:Obj) (pm cd doc:jN) (a:jR) (vs:Wp jN) (ns:Wp Int),Ground q loose [] XP w s₀ mg mb s₁.heap->YP w s₁.heap->s₁.heap.get? fa=Gc o->o.data=.func (docDef d.name d.params d.body d.scope pm cd doc)->s₁.heap.CodeRec cd d.name->mg d.name=Gc (.ref fa)->s₁.heap.get? a=Gc {cls:=.type "list",data:=.seq vs.toArray}->ny vs ns->ns.length<=n->s₁.gens= #[]->codeAny (model l.prog w) callerA (.call (.ref fa) ⟨[.ref a],[]⟩) (λr s'=>r=.ok (.ret (.bool true))/\OldK s₁.heap s'.heap/\s'.os=s₁.os/\oM s'.gens) s₁):uW q loose XP YP l.row.toRowW d [] (λf vs=>ui f vs):=by
 intro w s₀ s₁ mg mb G Y fa o pm cd doc dV kV ho hd hcd hD hmg hg args vals as hpre hlay hrd hwl hlo
 obtain rfl:dV=.none:=Dflts.none hD hdf
 obtain rfl:kV=.none:=Dflts.noKw hD
 obtain⟨a,vs,ns,rfl,rfl,hobj,hints,hlen⟩:=script_of hn hpre hwl
 refine enter_call (pV (call w s₀ s₁ mg mb fa o pm cd doc a vs ns G Y ho (fd_plain hd) hcd hmg hobj hints hlen hg) λr s' hq=>?_)
 obtain⟨rfl,h2,h3,h4⟩:=hq
 exact⟨.inl ⟨.bool true,.bool true,[],rfl,λ_=>rfl,.bool true,post_true l _,λ_=>⟨tL,λ_ hm=>(nomatch hm)⟩⟩,h2,h3,h4⟩
section
variable{prog:js}{w:j6}{A:kK}{E:jN->jQ->Prop}{s:jQ}{K:W1}
end
end Att
namespace L2
open PySem PySem.Spec PyProof.Rows
theorem Ol:∀{vs:Wp jN} {ns:Wp Int},ny vs ns->Vals (ns.map V.int) vs
 |_,_,.nil=>.nil
 |_,_,.cons n t h=>.cons ⟨t,rfl⟩ (Ol h)
def eM(H:Hp):Prop:=∀b,H b=none\/∃o xs,H b=Gc (.frz o (.lst xs))
theorem Vk{P:js}{w:j6}{K:W1}{mg mb:Str->jO jN}{CX:CXT}{k:Nat}{fa a:jR}{fd:lE}{x:Str}{sp:Sp}{s₁:jQ}{vs:Wp jN}{ns:Wp Int}(KX:K.In s₁.heap)(hns:s₁.heap.Ns mainGlobals mg)(hb:s₁.heap.Ns builtinsNs mb)(hbb:∀x:Str,x≠ "__name__"->mb x=bootBuiltins x)(hlim:s₁.heap.NoLimit)(hg:s₁.gens= #[])(ha:s₁.heap.get? a=Gc {cls:=.type "list",data:=.seq vs.toArray})(hi:ny vs ns)(hl:ns.length<=sizeLine)(hr:JX k callerA)(F:∀base:j0,K.In base->base.Ns mainGlobals mg->MU P w K mg base CX k fa fd [x] sp)(hbind:∀(s:jQ) (u:jN),sx s fd ⟨[u],[]⟩ [(x,u)])(hsp:∀H:Hp,eM H->SqL K H a (ns.map V.int)->sp [.ref a] H (λv _=>v=.bl true) λ_ _ _=>lW)(hCX:∀H e s',CX [] H s₁ (λ_ _ _=>lW) e s'->lW):codeAny (model P w) callerA (.call (.ref fa) ⟨[.ref a],[]⟩) (λr s'=>r=.ok (.ret (.bool true))/\OldK s₁.heap s'.heap/\s'.os=s₁.os/\oM s'.gens) s₁:=by
 have rv:=Ol hi
 have lenV:=hi.length
 have core:∀H:Hp,eM H->SqL K H a (ns.map V.int)->HOk P w H s₁.heap->(∀b,H b≠none->b=a)->(H a≠none->K.lookup a=none)->
   codeAny (model P w) callerA (.call (.ref fa) ⟨[.ref a],[]⟩) (λr s'=>r=.ok (.ret (.bool true))/\OldK s₁.heap s'.heap/\s'.os=s₁.os/\oM s'.gens) s₁:=by
  intro H hO hS hok hA hK
  have base_of:∀{b:jR} {o:Obj},s₁.heap.get? b=Gc o->H b=none->(Uv s₁.heap H).get? b=Gc o:=λe n=>V1 e n
  have noA:∀{b:jR} {o:Obj} {es:kP vg} {ep:Nat},s₁.heap.get? b=Gc o->o.data=.dict es ep->H b=none:=λ{b o es ep} e d=>by
   cases q:H b with
   |none=>rfl
   |some u=>
    have e':b=a:=hA b (by rw[q];simp)
    subst e'
    rw[ha]at e;cases e
    have d':Data.seq vs.toArray _=Data.dict es ep:=d
    cases d'
  have nsK:∀{b:jR} {m:Str->jO jN},s₁.heap.Ns b m->(Uv s₁.heap H).Ns b m:=λ{b m} ⟨o,es,ep,e,d,r⟩=>⟨o,es,ep,base_of e (noA e d),d,r⟩
  have hKb:K.In (Uv s₁.heap H):=λb o e=>base_of (KX b o e) (by
   cases q:H b with
   |none=>rfl
   |some u=>
    have e':b=a:=hA b (by rw[q];simp)
    subst e'
    rw[hK (by rw[q];simp)]at e;cases e)
  have hM:Mod K mg (Uv s₁.heap H):=⟨hKb,nsK hns,⟨mb,nsK hb,hbb⟩,let⟨mc,h1,h2⟩:=hlim;⟨mc,nsK h1,h2⟩⟩
  have e0:Xk P w K mg (Uv s₁.heap H) callerA [] s₁ H:=⟨rfl,hM,λb o e=>Xx e,Nat.le_of_eq (SN _ _),trivial,λb hb=>absurd (show b∈([]:Wp jR)from hb) (by simp),hok,.of_eq hg⟩
  refine pV ((F _ hKb (nsK hns)).run callerA [] s₁ H ⟨[.ref a],[]⟩ [.ref a] [.ref a] _ _ hr e0 (hbind s₁ (.ref a)) (.cons rfl .nil) (hsp H hO hS)) λr s' h=>?_
  cases r with
  |error e=>exact(hCX H e s' h).elim
  |ok fl=>
   cases fl with
   |next=>exact k8 h
   |brk=>exact k8 h
   |cont=>exact k8 h
   |ret u=>
    obtain⟨v,H',os,bare,un,hok',r',q⟩:=h
    have q':v=.bl true:=q
    subst q'
    obtain rfl:u=sH true:=r'
    refine⟨rfl,OldK.of_keep λb o e=>?_,os,bare⟩
    cases q:H b with
    |none=>exact un.keep b o e q (by intro z;exact absurd (show b∈([]:Wp jR)from z) (by simp)) (by simp)
    |some u=>
     rcases hO b with z|⟨ob,xs,z⟩
     .rw[q]at z;cases z
     .have z2:=un.RY b ob _ z
      obtain⟨e1,_⟩:=hok b _ z
      obtain⟨e2,_⟩:=hok' b _ z2
      rw[e]at e1;cases e1
      exact e2
 cases hk:K.lookup a with
 |some o=>
  have e:=KX a o hk
  rw[ha]at e
  cases e
  refine core (λ_=>none) (λ_=>.inl rfl) (.inr ⟨_,vs.toArray,_,hk,rfl,rfl,rfl,by rw[jd,lenV];exact hl,by simpa using rv⟩) (λb u z=>by have z':(none:jO HO)=Gc u:=z;cases z') (λb z=>absurd rfl z) λz=>absurd rfl z
 |none=>
  refine core (λb=>if b=a then Gc (.frz {cls:=.type "list",data:=.seq vs.toArray} (.lst (ns.map V.int)))else none) (λb=>?_) (.inl (.inr ⟨{cls:=.type "list",data:=.seq vs.toArray},kJ rfl⟩)) (λb u z=>?_) (λb z=>?_) λ_=>hk
  .by_cases hb:b=a
   .exact .inr ⟨_,_,kJ hb⟩
   .exact .inl (kC hb)
  .by_cases hb:b=a
   .have z':=(kJ hb).symm.trans z
    cases z'
    subst hb
    exact⟨ha,by rw[kF];exact hl,vs,_,rv,ha⟩
   .have z':=(kC hb).symm.trans z
    cases z'
  .by_cases hb:b=a
   .exact hb
   .exact absurd (kC hb) z
end L2
namespace L2
open PySem PySem.Spec PyProof.Rows
abbrev KOf{K:W1}{h:j0}(_:K.In h):W1:=K
theorem XF{l:pK}{n k:Nat}{q:js}{loose:Wp Str}{XP:(Str->jO jN)->j0->Prop}{YP:j6->j0->Prop}{d:DefRec}{K:yq->W1}{CX:j6->CXT}{sp:j6->Sp}{x:Str}(hn:l.most=Gc n)(hn2:n<=sizeLine)(hdf:d.params.defaults=[])(hr:JX k callerA)(hY:∀(w:j6) (h:j0),YP w h->(K w.params).In h)(F:∀(w:j6) (mg:Str->jO jN) (fa:jR) (h:j0),(K w.params).In h->h.Ns mainGlobals mg->mg d.name=Gc (.ref fa)->∃fd:lE,(∀(s:jQ) (u:jN),sx s fd ⟨[u],[]⟩ [(x,u)])/\∀base:j0,(K w.params).In base->base.Ns mainGlobals mg->MU l.prog w (K w.params) mg base (CX w) k fa fd [x] (sp w))(hsp:∀(w:j6) (H:Hp) (a:jR) (ns:Wp Int),ns.length<=n->eM H->SqL (K w.params) H a (ns.map V.int)->sp w [.ref a] H (λv _=>v=.bl true) λ_ _ _=>lW)(hCX:∀(w:j6) (H:Hp) (s:jQ) (e:jN) (s':jQ),CX w [] H s (λ_ _ _=>lW) e s'->lW):uW q loose XP YP l.row.toRowW d [] (λf vs=>ui f vs):=by
 refine Att.attach_call hn hdf λw s₀ s₁ mg mb fa o pm cd doc a vs ns G Y ho hd hcd hmg hobj hints hlen hg=>?_
 have KX:=hY w _ Y
 obtain⟨fd,hb,hF⟩:=F w mg fa _ KX G.T.g hmg
 exact Vk KX G.T.g G.T.b G.T.builtins G.T.nolimit hg hobj hints (jY hlen hn2) hr hF hb (λH hO hS=>hsp w H a ns hlen hO hS) λH e s'=>hCX w H s₁ e s'
end L2
namespace L2
open PySem PySem.Spec PyProof.Rows
noncomputable def Iz(s:kE):Arguments:=match s with
 | .FunctionDef _ a _ _ _ _ _ _ _ _=>a
 |_=>{posonlyargs:=[],args:=[],vararg:=none,kwonlyargs:=[],kw_defaults:=[],kwarg:=none,defaults:=[]}
noncomputable def DL(s:kE):Wp kE:=match s with
 | .FunctionDef _ _ b _ _ _ _ _ _ _=>b
 |_=>[]
noncomputable def AI(s:kE):mC:=match s with
 | .FunctionDef _ _ _ _ _ _ sc _ _ _=>sc
 |_=>{kind:=.function,names:=[],isGenerator:=false,isCoroutine:=false}
abbrev CX0:CXT:=λ_ _ _ _ _ _=>lW
abbrev E0:XK:=λ_ _ _=>lW
theorem eX{X:Cx}:Passes CX0 X E0:=λ_ _ _ _ _ _ _ h=>h.elim
structure Fun(K:W1)(x qual:Str)(st:kE)(f:jR)(fd:lE):Prop where
 ex:∃(oc:jN) (od:jO jR) (kV doc pm:jN) (an:jO jR) (cdv ct:jN) (osl:kP (jO jN)),
  fd=mR x qual (Iz st) (DL st) (AI st) .none kV doc pm an cdv ct/\K.lookup f=Gc ⟨oc,od,.func fd,osl⟩/\oW K cdv qual=true
 kp:lL K (.ref f)=true
section
variable{P:js}{w:j6}{K:W1}{mg:Str->jO jN}{base:j0}
theorem Fun.ok{x qual:Str}{st:kE}{f:jR}{fd:lE}{N ps:Wp Str}{k:Nat}{sp:Sp}(F:Fun K x qual st f fd)(S:AQ N ps (AI st))(len:∀vs H Q E,sp vs H Q E->vs.length=ps.length)(hbody:∀(cdv:jN) (A:kK) (outer:Wp Env) (s:jQ) (H:Hp) (vs:Wp V) (Q:VK) (E:XK),JX k (A.deeper (envOfC qual (AI st) s.heap.objs.size f cdv))->sp vs H Q E->∃t,PSs (QC CX0 P w K mg base N qual (AI st) f cdv A outer s H E).nox (DL st) t/\t {nx:=λ_ H'=>Q .non H',rt:=Q} (start N vs) H):MU P w K mg base CX0 (k+1) f fd ps sp:=by
 obtain⟨oc,od,kV,doc,pm,an,cdv,ct,osl,rfl,lk,hcd⟩:=F.ex
 refine aR lk hcd S len λA outer s H vs Q E hr hsp=>?_
 obtain⟨t,h,q⟩:=hbody cdv A outer s H vs Q E hr hsp
 exact⟨t,h.nox,q⟩
theorem Fun.binds{x qual:Str}{st:kE}{f:jR}{fd:lE}{ps:Wp Str}(F:Fun K x qual st f fd)(h:∀(kV doc pm:jN) (an:jO jR) (cdv ct:jN) (us:Wp jN),us.length=ps.length->bindArgs (mR x qual (Iz st) (DL st) (AI st) .none kV doc pm an cdv ct) ⟨us,[]⟩=pure (ps.zip us)):Binds K fd ps []:=by
 obtain⟨oc,od,kV,doc,pm,an,cdv,ct,osl,rfl,lk,hcd⟩:=F.ex
 exact .all (h kV doc pm an cdv ct)
theorem aO{x qual:Str}{st:kE}{f:jR}{oc:jN}{od an:jO jR}{osl:kP (jO jN)}{kV doc pm cdv ct:jN}(l:K.lookup f=Gc ⟨oc,od,.func (mR x qual (Iz st) (DL st) (AI st) .none kV doc pm an cdv ct),osl⟩)(c:oW K cdv qual=true)(k:lL K (.ref f)=true):Fun K x qual st f (mR x qual (Iz st) (DL st) (AI st) .none kV doc pm an cdv ct):=⟨⟨oc,od,kV,doc,pm,an,cdv,ct,osl,rfl,l,c⟩,k⟩
end
section
variable{X:Cx}
end
theorem X9{A B:Prop}(h:B):if false=true then A else B:=by
 rw[kC kM]
 exact h
theorem XI{A B:Prop}(h:A):if true=true then A else B:=by
 rw[kJ rfl]
 exact h
def DV(H H':Hp):Prop:=∀b o,H b=Gc o->H' b=Gc o
end L2
end
noncomputable section
namespace L2
open PySem PySem.Spec PyProof.Rows
noncomputable def HA(cells:Wp (Str×jR)):Wp (Str×ml)->Wp (Str×jR)->Wp (Str×jR)
 | [],cs=>cs
 |(n,k)::r,cs=>if(k==kl)=true then HA cells r ((n,(cells.lookup n).getD 0)::cs)else HA cells r cs
theorem Pd{env:Env}:∀(names:Wp (Str×ml)) (cs:Wp (Str×jR)),(∀y∈names,y.2=.free->∃a,env.cells.lookup y.1=Gc a)->(forIn names cs λ(x:Str×ml) r=>match x with|(name,kind)=>if(kind==kl)=true then(do let a<-cellOf env name;pure (pO ((name,a)::r)))else pure (pO r):Sem (Wp (Str×jR)))=pure (HA env.cells names cs)
 | [],cs,_=>by simp[HA]
 |(n,k)::r,cs,h=>by
  rw[qw]
  have ih:=λcs=>Pd r cs λy hy=>h y (jf _ hy)
  by_cases hk:(k==kl)=true
  .obtain⟨a,ha⟩:=h (n,k) jr (by simpa using hk)
   have ha':env.cells.lookup n=Gc a:=ha
   have e:cellOf env n=pure a:=by unfold cellOf;rw[ha']
   simp only[hk,pH,e,pure_bind,HA,ha',Option.getD_some]
   exact ih _
  .simp only[hk,pv,pure_bind,HA]
   exact ih _
theorem Qx{scope:mC}{env:Env}(h:∀y∈scope.names,y.2=.free->∃a,env.cells.lookup y.1=Gc a):closureFor scope env=pure (HA env.cells scope.names []):=by
 unfold closureFor
 have:=Pd (env:=env) scope.names [] h
 simp only[bind_pure]at this⊢
 exact this
theorem Le{cells:Wp (Str×jR)}{x:Str}{c:jR}:∀{names:Wp (Str×ml)} {cs:Wp (Str×jR)},(∀y∈names,y.2=.free->∃a,cells.lookup y.1=Gc a)->(HA cells names cs).lookup x=Gc c->cs.lookup x=Gc c\/cells.lookup x=Gc c
 | [],cs,_,h=>.inl h
 |(n,k)::r,cs,hh,h=>by
  have hr:∀y∈r,y.2=.free->∃a,cells.lookup y.1=Gc a:=λy hy=>hh y (jf _ hy)
  unfold HA at h
  by_cases hk:(k==kl)=true
  .rw[kJ hk]at h
   rcases Le hr h with q|q
   .obtain⟨a,ha⟩:=hh (n,k) jr (by simpa using hk)
    have ha':cells.lookup n=Gc a:=ha
    rw[lG]at q
    cases hx:x==n with
    |true=>
     rw[hx,ha']at q
     have e:x=n:=by simpa using hx
     subst e
     cases q
     exact .inr ha'
    |false=>
     rw[hx]at q
     exact .inl q
   .exact .inr q
  .rw[kC hk]at h
   exact Le hr h
theorem Jw{cells:Wp (Str×jR)}{x:Str}:∀{names:Wp (Str×ml)} {cs:Wp (Str×jR)},((x,kl)∈names\/∃c,cs.lookup x=Gc c)->∃c,(HA cells names cs).lookup x=Gc c
 | [],cs,h=>h.elim (λz=>nomatch z) id
 |(n,k)::r,cs,h=>by
  unfold HA
  by_cases hk:(k==kl)=true
  .rw[kJ hk]
   refine Jw ?_
   by_cases hx:x=n
   .subst hx
    exact .inr ⟨_,by rw[lG,beq_self_eq_true]⟩
   .rcases h with h|⟨c,h⟩
    .rcases jX.mp h with e|e
     .cases e;exact absurd rfl hx
     .exact .inl e
    .refine .inr ⟨c,?_⟩
     rw[lG,show(x==n)=false by simpa using hx]
     exact h
  .rw[kC hk]
   refine Jw ?_
   rcases h with h|h
   .rcases jX.mp h with e|e
    .cases e;exact absurd rfl hk
    .exact .inl e
   .exact .inr h
theorem Ky{env:Env}{x:Str}:∀{names:Wp (Str×ml)},names.lookup x=Gc .free->(names.map λ(n,k)=>if(k==kl && env.scope.kind== .function && env.kindOf n==Gc .cell)then(n,nH)else(n,k)).lookup x=Gc .cell\/(names.map λ(n,k)=>if(k==kl && env.scope.kind== .function && env.kindOf n==Gc .cell)then(n,nH)else(n,k)).lookup x=Gc .free
 | [],h=>by simp at h
 |(n,k)::r,h=>by
  have ih:= @Ky env x r
  show nV x ((if(k==kl && env.scope.kind== .function && env.kindOf n==Gc .cell)=true then(n,nH)else(n,k))::_)=_\/nV x ((if(k==kl && env.scope.kind== .function && env.kindOf n==Gc .cell)=true then(n,nH)else(n,k))::_)=_
  cases hx:x==n with
  |true=>
   simp only[lG,hx]at h
   cases h
   by_cases hc:(kl==kl && env.scope.kind== .function && env.kindOf n==Gc .cell)=true
   .rw[kJ hc];simp only[lG,hx];exact .inl trivial
   .rw[kC hc];simp only[lG,hx];exact .inr trivial
  |false=>
   simp only[lG,hx]at h
   by_cases hc:(k==kl && env.scope.kind== .function && env.kindOf n==Gc .cell)=true
   .rw[kJ hc];simp only[lG,hx];exact ih h
   .rw[kC hc];simp only[lG,hx];exact ih h
theorem MB{env:Env}{scope:mC}{x:Str}{k':ml}(hk:k'=.cell\/k'=.free)(h:(relabel scope env).names.lookup x=Gc k'):(x,kl)∈scope.names\/(x,nH)∈scope.names:=by
 have hm:=kc h
 obtain⟨⟨n,k⟩,hy,e⟩:=k6.mp (show(x,k')∈scope.names.map _ from hm)
 by_cases hc:(k==kl && env.scope.kind== .function && env.kindOf n==Gc .cell)=true
 .simp only[hc,pH]at e
  cases e
  have:k=.free:=by
   have:=((jW _ _).mp hc).1
   exact nB.mp ((jW _ _).mp this).1
  subst this
  exact .inl hy
 .simp only[hc,pv]at e
  cases e
  rcases hk with rfl|rfl
  .exact .inr hy
  .exact .inl hy
theorem B6:∀(names:Wp (Str×ml)) (n:Nat) (cs:Wp (Str×jR)),cellsFrom n names cs=cellsFrom n names []++cs
 | [],_,_=>rfl
 |(x,k)::r,n,cs=>by
  unfold cellsFrom
  split
  .rw[B6 r _ ((x,n)::cs),B6 r _ [(x,n)]];simp
  .exact B6 r n cs
theorem HG{x:Str}{c:jR}:∀{names:Wp (Str×ml)} {n:Nat},(x,c)∈cellsFrom n names []->(x,nH)∈names
 | [],_,h=>nomatch h
 |(y,k)::r,n,h=>by
  unfold cellsFrom at h
  split at h
  .rename_i hk
   rw[B6]at h
   rcases kB.mp h with z|z
   .exact jf _ (HG z)
   .have e:=kN.mp z
    cases e
    rw[nB.mp hk]
    exact jr
  .exact jf _ (HG h)
theorem KP{M:sA}{A:kK}{E:jN->jQ->Prop}{s:jQ}{scope:mC}{globals:jR}{cl:Wp (Str×jR)}{qual:Str}{env:Env}{Q:Env->jQ->Prop}(hQ:∀h':j0,h'.Ns s.heap.objs.size (λ_=>none)->(∀b o,s.heap.get? b=Gc o->h'.get? b=Gc o)->CellsOk h' (s.heap.objs.size+1) (cellsFrom (s.heap.objs.size+1) scope.names [])->Q (newEnv scope s.heap.objs.size globals (cellsFrom (s.heap.objs.size+1) scope.names cl) qual none .none (Gc env) builtinsNs) {s with heap:=h'}):wpAny M A (newFunctionEnv scope globals cl [] qual none .none (Gc env)) Q E s:=by
 simp only[newFunctionEnv,Option.isSome_some,pH]
 refine jM (wpAny_alloc ?_)
 refine jM (wpAny_layCells _ (λname kind cells=>by cases hkc:kind==nH<;>simp[hkc]) _ _ _ _ ?_)
 have ok:=cellsFrom_ok scope.names (s.heap.push {cls:=.type "dict",data:=.dict #[]}) (s.heap.objs.size+1) [] ⟨λ_ _ hm=>(nomatch hm),tL⟩ (by rw[lB];exact ja _)
 rw[lB]at ok
 rw[show({s with heap:=s.heap.push {cls:=.type "dict",data:=.dict #[]}}:jQ).heap.objs.size=s.heap.objs.size+1 from lB ..]
 rw[rE]
 refine jM (jZ (jZ ?_))
 exact hQ _ ((Heap.Ns.new s.heap (.type "dict")).keeps (uM _ _)) (λb o e=>uM _ _ b o (jP _ e)) ok
end L2
end
noncomputable section
namespace L2
open PySem PySem.Spec PyProof.Rows
noncomputable def Q9(N:Wp Str)(osc scope:mC):Wp Str->Wp (jO Nat)->kG
 | [],[]=>true
 |_::r,none::q=>Q9 N osc scope r q
 |x::r,Gc i::q=>decide (N[i]?=Gc x) && (decide (osc.names.lookup x=Gc .cell)||decide (osc.names.lookup x=Gc .free)) && decide (scope.names.lookup x=Gc .free) && Q9 N osc scope r q
 |_,_=>false
theorem To{N:Wp Str}{osc scope:mC}:∀{N':Wp Str} {ix:Wp (jO Nat)},Q9 N osc scope N' ix=true->ix.length=N'.length
 | [],[],_=>rfl
 |_::r,none::q,h=>by
  unfold Q9 at h
  simp[To h]
 |x::r,Gc i::q,h=>by
  unfold Q9 at h
  have:=((jW _ _).mp h).2
  simp[To this]
 | [],_::_,h=>by simp[Q9]at h
 |_::_,[],h=>by simp[Q9]at h
theorem Xy{N:Wp Str}{osc scope:mC}:∀{N':Wp Str} {ix:Wp (jO Nat)},Q9 N osc scope N' ix=true->∀{j i:Nat} {x:Str},N'[j]?=Gc x->ix[j]?=Gc (Gc i)->N[i]?=Gc x/\(osc.names.lookup x=Gc .cell\/osc.names.lookup x=Gc .free)/\scope.names.lookup x=Gc .free
 | [],[],_,j,_,_,h,_=>by simp at h
 |_::r,none::q,h,j,i,x,h1,h2=>by
  unfold Q9 at h
  cases j with
  |zero=>simp at h2
  |succ j=>exact Xy h (by simpa using h1) (by simpa using h2)
 |y::r,Gc k::q,h,j,i,x,h1,h2=>by
  unfold Q9 at h
  obtain⟨ha,hr⟩:=(jW _ _).mp h
  obtain⟨ha,h3⟩:=(jW _ _).mp ha
  obtain⟨h4,h5⟩:=(jW _ _).mp ha
  cases j with
  |zero=>
   simp at h1 h2
   subst h1 h2
   refine⟨jh h4,?_,jh h3⟩
   rcases(kq _ _).mp h5 with z|z
   .exact .inl (jh z)
   .exact .inr (jh z)
  |succ j=>exact Xy hr (by simpa using h1) (by simpa using h2)
 | [],_::_,h,_,_,_,_,_=>by simp[Q9]at h
 |_::_,[],h,_,_,_,_,_=>by simp[Q9]at h
structure Aj(N:Wp Str)(osc:mC)(N':Wp Str)(ix:Wp (jO Nat))(scope:mC):Prop where
 kind:scope.kind=.function
 cells:∀y∈scope.names,y.2=.cell->scope.names.lookup y.1=Gc .cell
 names:∀y∈scope.names,y.2=.local->scope.names.lookup y.1=Gc .local
 free:∀y∈scope.names,y.2=.free->(osc.names.lookup y.1=Gc .cell\/osc.names.lookup y.1=Gc .free)
 ok:Q9 N osc scope N' ix=true
noncomputable def sig(ix:Wp (jO Nat))(σ:St):St:=ix.map λo=>o.bind λi=>(σ[i]?).join
noncomputable def IJ(X:Cx)(N':Wp Str)(scope:mC)(s:jQ)(H:Hp)(fp:Wp jR):Cx where
 prog:=X.prog
 w:=X.w
 K:=X.K
 mg:=X.mg
 base:=X.base
 A:=X.A
 N:=N'
 s₀:=s
 H₀:=H
 env:=compEnvC scope (cellsFrom (s.heap.objs.size+1) scope.names (HA X.env.cells scope.names [])) s.heap.objs.size X.env
 outer:=X.stack
 stack:=X.stack
 ex:=fp
 fn:=λx=>decide (scope.names.lookup x=Gc .cell)
 calm:=true
 pn:=[]
 xe:=λ_ _=>lW
section
variable{X:Cx}{pins:Wp (jR×Obj)}{σ:St}{H:Hp}{s:jQ}{N':Wp Str}{ix:Wp (jO Nat)}{scope:mC}{fp:Wp jR}
theorem Inv.cellsOf(I:Inv X pins σ H s)(S:Aj X.N X.env.scope N' ix scope):∀y∈scope.names,y.2=.free->∃a,X.env.cells.lookup y.1=Gc a:=λy hy hk=>I.ok.has y.1 (S.free y hy hk)
theorem Vr(S:Aj X.N X.env.scope N' ix scope)(hc:X.calm=true)(I:Inv X pins σ H s)(hf:∀b∈fp,Pl X pins H b)(hlt:∀b∈fp,b<s.heap.objs.size){h1:j0}{m1:Str->jO jN}{tk:Nat}(hn:h1.Ns s.heap.objs.size m1)(hk:∀b o,s.heap.get? b=Gc o->h1.get? b=Gc o)(hC:CellsOk h1 (s.heap.objs.size+1) (cellsFrom (s.heap.objs.size+1) scope.names [])):Inv (IJ X N' scope s H fp) [] (sig ix σ) H {s with heap:=h1,toks:=tk}:=by
 have hcl:=I.cellsOf S
 have sub:∀{x:Str} {c:jR},(HA X.env.cells scope.names []).lookup x=Gc c->X.env.cells.lookup x=Gc c:=λ{x c} h=>by
  rcases Le hcl h with z|z
  .simp at z
  .exact z
 have old:∀{x:Str} {c:jR},X.env.cells.lookup x=Gc c->c<s.heap.objs.size:=λ{x c} h=>by
  obtain⟨v,oc,ho,_⟩:=I.cell x c h
  exact ji ho
 have look:∀{x:Str} {c:jR},(cellsFrom (s.heap.objs.size+1) scope.names (HA X.env.cells scope.names [])).lookup x=Gc c->(x,c)∈cellsFrom (s.heap.objs.size+1) scope.names []\/X.env.cells.lookup x=Gc c:=λ{x c} h=>by
  rw[B6,oJ]at h
  cases e:(cellsFrom (s.heap.objs.size+1) scope.names []).lookup x with
  |some a=>rw[e]at h;cases h;exact .inl (kc e)
  |none=>rw[e]at h;exact .inr (sub h)
 refine⟨⟨I.ok.mod,S.kind,I.ok.glob,I.ok.blt,ja _,λx y c h1 h2=>?_,λx hx=>?_,λx c hx h=>?_,λ_=>I.ok.hd hc,I.ok.frames,.inl rfl,λb hb=>?_,I.bs,jY I.ok.bsz I.sz,λb o e hb=>?_,λb hb hs=>?_,I.stack,I.Pt⟩,
  rfl,I.bare,Un.kept hk,⟨m1,hn,λj x v h1 h2 h3=>?_⟩,λx c h=>?_,I.hok.fresh (ja _),λx c h=>?_,λp hp=>absurd (show p∈([]:Wp (jR×Obj))from hp) (by simp),I.hok.kept hk,?_⟩
 . -- inj
   rcases look h1 with a|a<;>rcases look h2 with b|b
   .exact wB hC.apart a b
   .exact absurd (jV (old b) (nP (hC.empty _ _ a).2)) (lI _)
   .exact absurd (jV (old a) (nP (hC.empty _ _ b).2)) (lI _)
   .exact I.ok.inj x y c a b
 . -- has
   have hx':(relabel scope X.env).names.lookup x=Gc .cell\/(relabel scope X.env).names.lookup x=Gc .free:=hx
   show∃c,(cellsFrom (s.heap.objs.size+1) scope.names (HA X.env.cells scope.names [])).lookup x=Gc c
   rw[B6,oJ]
   cases e:(cellsFrom (s.heap.objs.size+1) scope.names []).lookup x with
   |some a=>exact⟨a,rfl⟩
   |none=>
    rcases(hx'.elim (MB (.inl rfl)) (MB (.inr rfl)))with z|z
    .exact Jw (.inl z)
    .obtain⟨c,hc⟩:=LA (n:=s.heap.objs.size+1) (S.cells _ z rfl)
     rw[e]at hc;cases hc
 . -- cab
   obtain⟨c',hc'⟩:=LA (n:=s.heap.objs.size+1) (jh hx)
   have h:(cellsFrom (s.heap.objs.size+1) scope.names (HA X.env.cells scope.names [])).lookup x=Gc c:=h
   rw[B6,oJ,hc']at h
   cases h
   exact nP (hC.empty _ _ (kc hc')).2
 . -- exf
   refine⟨kA (hlt b hb),λx c h=>?_⟩
   rcases look h with a|a
   .exact λe=>absurd (jV (e▸hlt b hb) (nP (hC.empty _ _ a).2)) (lI _)
   .exact(hf b hb).2.2.2.2.1 x c a
 . -- Wc
   rcases(hf b hb).2.2.2.1 with z|z
   .exact I.ok.Wc b o e z
   .exact absurd (jV (ji (I.ok.bs b o e).1) z) (lI _)
 . -- YQ
   rcases jX.mp (I.Sl b hs)with z|z
   .exact(hf b hb).2.1 z
   .exact(hf b hb).2.2.1 z
 . -- loc
   unfold sig at h2
   rw[jq]at h2
   cases e:ix[j]? with
   |none=>rw[e]at h2;cases h2
   |some o=>
    rw[e]at h2
    cases o with
    |none=>cases h2
    |some i=>
     have h2':(σ[i]?).join=Gc v:=by simpa using h2
     have h4:σ[i]?=Gc (Gc v):=by
      cases e4:σ[i]? with
      |none=>rw[e4]at h2';cases h2'
      |some q=>rw[e4]at h2';exact congrArg Gc h2'
     obtain⟨q1,q2,q3⟩:=Xy S.ok h1 e
     obtain⟨m,_,hl⟩:=I.loc
     obtain⟨u,r,l⟩:=hl i x v q1 h4 (q2.elim (λz=>.inr (.inl z)) λz=>.inr (.inr z))
     refine⟨u,r,?_⟩
     rcases l with⟨l,_⟩|⟨_,c,lc,z⟩
     .have l':X.env.scope.names.lookup x=Gc .local:=l
      rcases q2 with z|z<;>(rw[z]at l';cases l')
     .refine .inr ⟨Ky q3,?_⟩
      obtain⟨c',hc'⟩:=Jw (cells:=X.env.cells) (cs:=[]) (.inl (kc q3))
      have ec:=sub hc'
      rw[lc]at ec
      cases ec
      have no:(cellsFrom (s.heap.objs.size+1) scope.names []).lookup x=none:=by
       cases e:(cellsFrom (s.heap.objs.size+1) scope.names []).lookup x with
       |none=>rfl
       |some a=>
        have q:=S.cells _ (HG (kc e)) rfl
        rw[q3]at q;cases q
      refine⟨c,(by show(cellsFrom (s.heap.objs.size+1) scope.names (HA X.env.cells scope.names [])).lookup x=Gc c;rw[B6,oJ,no];exact hc'),?_⟩
      obtain⟨oc,ho,hd⟩:=z
      exact⟨oc,hk _ _ ho,hd⟩
 .rcases look h with a|a
  .exact⟨_,(hC.empty _ _ a).1⟩
  .obtain⟨v,oc,ho,hd⟩:=I.cell x c a
   exact⟨v,oc,hk _ _ ho,hd⟩
 .rcases look h with a|a
  .exact I.hok.fresh (nP (hC.empty _ _ a).2)
  .exact I.IZ x c a
 .show(sig ix σ).length=N'.length
  unfold sig
  rw[kF]
  exact To S.ok
end
end L2
end
noncomputable section
namespace L2
open PySem PySem.Spec PyProof.Rows
def PTs(X:Cx)(ifs:Wp j4)(t:TT):Prop:=
 ∀(pins:Wp (jR×Obj)) (s:jQ) (σ:St) (H:Hp) (Q:kG->Hp->Prop),Inv X pins σ H s->t σ H Q->
  wpAny (model X.prog X.w) X.A (forIn ifs true λc r=>if r=true then do let ok<-isTrue c X.env (eval c X.env);pure (pO ok)else pure (pO r)) (TP X pins σ Q) X.xe s
noncomputable def dk:TT:=λ_ H Q=>Q true H
theorem X6{X:Cx}:PTs X [] dk:=λ_ _ _ H _ I h=>wpAny_tests_nil ⟨H,I,h⟩
theorem Wt{X:Cx}{c:j4}{t:TT}(h:PT X c t):PTs X [c] t:=λpins s σ H Q I q=>wpAny_tests_one (h pins s σ H Q I q)
theorem VO{α:Type}{M:sA}{A:kK}{t:Sem α}{Q:α->jQ->Prop}{E:jN->jQ->Prop}{s:jQ}(h:wpAny M A t Q (λ_ _=>lW) s):wpAny M A t Q E s:=lK h (λ_ _ q=>q) λ_ _ f=>f.elim
def ZV(ix:Wp (jO Nat))(g:TG)(tc:TT)(te:TE)(J:It)(σ:St)(H:Hp)(Q:VK):Prop:=
 ∀D,H D=none->∃W:Nat->Nat->St->Hp->Wp V->Prop,(∃m,W 0 m (sig ix σ) (upd H D (.lst [])) [])/\∀i m σ H ys,W i m σ H ys->H D=Gc (.lst ys)/\
  ((J.stop i H/\Q (.ref D) H)\/(J.go i H/\ys.length<sizeLine/\∀x H',J.yld i H x H'->g x σ H' λσ2 H2=>tc σ2 H2 λb H3=>
    if b=true then te σ2 H3 λy H4=>H4 D=Gc (.lst ys)/\∃m',m'<m/\W (i+1) m' σ2 (upd H4 D (.lst (ys++[y]))) (ys++[y])else∃m',m'<m/\W (i+1) m' σ2 H3 ys))
noncomputable def X8(ix:Wp (jO Nat))(wi:TI)(g:TG)(tc:TT)(te:TE):TE:=λσ H Q=>wi σ H λJ H1=>ZV ix g tc te J σ H1 Q
section
variable{X:Cx}{pins:Wp (jR×Obj)}{σ:St}{s₂:jQ}{N':Wp Str}{ix:Wp (jO Nat)}{scope:mC}{elt tg iter:j4}{ifs:Wp j4}{pos:Pos}{g:TG}{tc:TT}{te:TE}
def Block(X:Cx)(N':Wp Str)(scope:mC)(tg:j4)(ifs:Wp j4)(elt:j4)(g:TG)(tc:TT)(te:TE):Prop:=
 ∀(s:jQ) (H:Hp) (fp:Wp jR),PG (IJ X N' scope s H fp) tg g/\PTs (IJ X N' scope s H fp) ifs tc/\PE (IJ X N' scope s H fp) elt te
theorem Sq {X' : Cx} {it : jR} {fp : Wp jR} {tn : Nat -> j0 -> Prop} {J : It} {D : jR} {Q : VK} {R : yg -> jQ -> Prop} {W : Nat -> Nat -> St -> Hp -> Wp V -> Prop} {s : jQ} {e : Env} {n : Nat} (he : X'.env = e) (hx : X'.xe = fun _ _ => lW) (hcm : X'.calm = true) (T : Turn X'.prog X'.w X'.K tg J fp it tn) (hfp : ∀ H : Hp, (∀ b ∈ fp, H b = none) -> ∀ b ∈ fp, Pl X' [] H b) (hg : PG X' tg g) (ht : PTs X' ifs tc) (hb : PE X' elt te) (turn : ∀ i m σ H ys, W i m σ H ys -> H D = Gc (.lst ys) /\ ((J.stop i H /\ Q (.ref D) H) ∨ (J.go i H /\ ys.length < sizeLine /\ ∀ x H', J.yld i H x H' -> g x σ H' fun σ2 H2 => tc σ2 H2 fun b H3 =>
        if b = true then te σ2 H3 fun y H4 => H4 D = Gc (.lst ys) /\ ∃ m', m' < m /\ W (i + 1) m' σ2 (upd H4 D (.lst (ys ++ [y]))) (ys ++ [y]) else ∃ m', m' < m /\ W (i + 1) m' σ2 H3 ys)))
    (hR : ∀ s' σ' H', Inv X' [] σ' H' s' -> Q (.ref D) H' -> R (.ok .next) s')
    (h0 : ∃ i σ' H' ys, Inv X' [] σ' H' s /\ tn i s.heap /\ (∀ b ∈ fp, H' b = none) /\ W i n σ' H' ys) :
    codeAny (model X'.prog X'.w) X'.A (.compLoop (.ListComp elt [⟨tg, iter, ifs, 0⟩] scope pos) 0 (.ref it) (.ref D) e) R s := by
  subst he
  refine codeAny_loop rfl (fun n s => ∃ i σ' H' ys, Inv X' [] σ' H' s /\ tn i s.heap /\ (∀ b ∈ fp, H' b = none) /\ W i n σ' H' ys) (fun n s3 hI => ?_) n h0
  show wpAny _ X'.A ((compTurn (.ListComp elt [⟨tg, iter, ifs, 0⟩] scope pos) 0 (.ref it) (.ref D) X'.env).onRaise (fun x => do noteFrame x X'.env; theTreesLotGoes x)) _ _ s3
  refine wpAny_noted (VO ?_)
  rw [compTurn_list]
  obtain ⟨i, σ3, H3, ys, I3, st3, fr3, w3⟩ := hI
  obtain ⟨hD, alt⟩ := turn i n σ3 H3 ys w3
  rcases alt with ⟨stop, q⟩ | ⟨go, hlen, step⟩
  · refine jM (l8 (jM (thn (T.done X' rfl rfl rfl hcm i [] s3 σ3 H3 _ I3 (hfp H3 fr3) st3 stop) fun r s4 ⟨hr, I4⟩ => ?_)))
    subst hr
    exact jZ (hR s4 σ3 H3 I4 q)
  · refine jM (l8 (jM (thn (T.item X' rfl rfl rfl hcm i [] s3 σ3 H3 _ I3 (hfp H3 fr3) st3 go) fun r s4 ⟨u, hr, h4⟩ => ?_)))
    subst hr
    refine jM (thn h4 fun _ s5 ⟨x, H5, I5, r5, y5, st5, fr5⟩ => ?_)
    have I5' := I5.pinned (hfp H5 fr5) (T.obj _ _ st5)
    have hg' := hg _ s5 σ3 H5 x u _ I5' r5 (step x H5 y5)
    rw [hx] at hg'
    refine jM (thn hg' fun _ s6 ⟨σ6, H6, I6, q6⟩ => ?_)
    have ht' := ht _ s6 σ6 H6 _ I6 q6
    rw [hx] at ht'
    refine jM (thn ht' fun ok s7 ⟨H7, I7, q7⟩ => ?_)
    have again : ∀ {s8 : jQ} {H8 : Hp} {zs : Wp V} {m' : Nat}, Inv X' ([] ++ OS fp s5.heap) σ6 H8 s8 -> m' < n -> W (i + 1) m' σ6 H8 zs -> ∃ m, m < n /\ ∃ i σ' H' ys, Inv X' [] σ' H' s8 /\ tn i s8.heap /\ (∀ b ∈ fp, H' b = none) /\ W i m σ' H' ys := fun {s8 H8 zs m'} I8 hm w8 => by
      refine ⟨m', hm, i + 1, σ6, H8, zs, I8.K8, T.keep _ _ _ st5 fun b hb o e => (I8.pin (b, o) (kL _ (kL _ (IQ hb e)))).1, fun b hb => ?_, w8⟩
      obtain ⟨o, e, d⟩ := T.obj _ _ st5 b hb
      exact (I8.pin (b, o) (kL _ (kL _ (IQ hb e)))).2.1
    cases ok with
    | false =>
      rw [kC (by decide)] at q7
      obtain ⟨m', hm, w7⟩ := q7
      exact jZ ⟨rfl, again I7 hm w7⟩
    | true =>
      rw [kJ rfl] at q7
      have hb' := hb _ s7 σ6 H7 _ I7 q7
      rw [hx] at hb'
      refine jM (jM (thn hb' fun v s8 ⟨y, H8, I8, r8, hD8, m', hm, w8⟩ => ?_))
      have ha := Ow (X := X') _ s8 σ6 H8 (.ref D) [y] (.ref D) [v] (fun _ H9 => H9 = upd H8 D (.lst (ys ++ [y]))) I8 rfl (.cons r8 .nil) ⟨D, ys, y, rfl, rfl, hD8, hlen, rfl⟩
      rw [hx] at ha
      refine jM (thn ha fun _ s9 ⟨_, H9, I9, _, e9⟩ => ?_)
      subst e9
      exact jZ (jZ ⟨rfl, again I9 hm w8⟩)
theorem Qv(hc:X.calm=true)(S:Aj X.N X.env.scope N' ix scope)(hb:Block X N' scope tg ifs elt g tc te){it:jR}{fp:Wp jR}{tn:Nat->j0->Prop}{J:It}{H₂:Hp}{Q:VK}{E:jN->jQ->Prop}{RR:jN->jR->yg->jQ->Prop}(I2:Inv X pins σ H₂ s₂)(T:Turn X.prog X.w X.K tg J fp it tn)(st2:tn 0 s₂.heap)(f2:∀b∈fp,Pl X pins H₂ b)(hW:ZV ix g tc te J σ H₂ Q)(hRR:∀D C H' s',Inv X pins σ H' s'->(∃m,s'.heap.Ns C m)->Pl X pins H' C->Q (.ref D) H'->RR (.ref D) C (.ok .next) s'):wpAny (model X.prog X.w) X.A (newList []) (λacc s₃=>wpAny (model X.prog X.w) X.A (newFunctionEnv scope X.env.globals (HA X.env.cells scope.names []) [] X.env.qual none .none (Gc X.env)) (λcenv s₄=>
  codeAny (model X.prog X.w) X.A (.compStart (.ListComp elt [⟨tg,iter,ifs,0⟩] scope pos) 0 (.ref it) acc {cenv with scope:=relabel scope X.env}) (RR acc cenv.locals) s₄) E s₃) E s₂:=by
 have hD0:H₂ s₂.heap.objs.size=none:=I2.hok.fresh (ja _)
 have hlt2:∀b∈fp,b<s₂.heap.objs.size:=λb hb=>by
  obtain⟨o,e,_⟩:=T.obj _ _ st2 b hb
  exact ji e
 refine lY (KP (λh₁ hns₁ hsb₁ hcl₁=>?_))
 have I3:Inv X pins σ (upd H₂ s₂.heap.objs.size (.lst [])) {s₂ with heap:=s₂.heap.push {cls:=.type "list",dict:=none,data:=.seq ([]:Wp jN).toArray}}:=
  I2.laid (t':=s₂.toks) (λb u e=>jP _ e) (ja _) ⟨l9 _,[],0,.nil,jx _ rfl⟩
 have f3:∀b∈fp,Pl X pins (upd H₂ s₂.heap.objs.size (.lst [])) b:=λb hb=>⟨by rw[AZ (kA (hlt2 b hb))];exact(f2 b hb).1,(f2 b hb).2⟩
 have k3:∀b o,s₂.heap.get? b=Gc o->(s₂.heap.push {cls:=.type "list",dict:=none,data:=.seq ([]:Wp jN).toArray}).get? b=Gc o:=λb o e=>jP _ e
 dsimp only at hns₁ hsb₁ hcl₁⊢
 generalize hs3:({s₂ with heap:=s₂.heap.push {cls:=.type "list",dict:=none,data:=.seq ([]:Wp jN).toArray}}:jQ)=s₃ at I3
 have eh:s₂.heap.push {cls:=.type "list",dict:=none,data:=.seq ([]:Wp jN).toArray}=s₃.heap:=by rw[<-hs3]
 have et:s₂.toks=s₃.toks:=by rw[<-hs3]
 have es:∀(h:j0) (t:Nat),({s₂ with heap:=h,toks:=t}:jQ)={s₃ with heap:=h,toks:=t}:=λh t=>by rw[<-hs3]
 rw[eh]at hns₁ hsb₁ hcl₁ k3⊢
 have hlt3:∀b∈fp,b<s₃.heap.objs.size:=λb hb=>by
  obtain⟨o,e,_⟩:=T.obj _ _ st2 b hb
  exact ji (k3 b o e)
 have k4:∀b o,s₃.heap.get? b=Gc o->h₁.get? b=Gc o:=hsb₁
 obtain⟨W,⟨m0,w0⟩,turn⟩:=hW _ hD0
 have I4:∀tk,Inv (IJ X N' scope s₃ (upd H₂ s₂.heap.objs.size (.lst [])) fp) [] (sig ix σ) (upd H₂ s₂.heap.objs.size (.lst [])) {s₃ with heap:=h₁,toks:=tk}:=λtk=>Vr S hc I3 f3 hlt3 hns₁ k4 hcl₁
 have st4:tn 0 h₁:=T.keep _ _ _ st2 λb hb o e=>k4 b o (k3 b o e)
 obtain⟨bg,bt,be⟩:=hb s₃ (upd H₂ s₂.heap.objs.size (.lst [])) fp
 have noX:∀(H:Hp),(∀b∈fp,H b=none)->∀b∈fp,Pl (IJ X N' scope s₃ (upd H₂ s₂.heap.objs.size (.lst [])) fp) [] H b:=λH hn b hb=>by
  obtain⟨_,h2,h3⟩:=f3 b hb
  refine⟨hn b hb,kA (hlt3 b hb),λhs=>(I4 0).ok.YQ b hb hs,.inl hb,λx c h=>?_,λp hp=>absurd (show p∈([]:Wp (jR×Obj))from hp) (by simp)⟩
  exact((I4 0).ok.exf b hb).2 x c h
 have fin:∀(s':jQ) (σ':St) (H':Hp),Inv (IJ X N' scope s₃ (upd H₂ s₂.heap.objs.size (.lst [])) fp) [] σ' H' s'->Q (.ref s₂.heap.objs.size) H'->RR (.ref s₂.heap.objs.size) s₃.heap.objs.size (.ok .next) s':=λs' σ' H' I' q=>by
  refine hRR _ _ H' s' ?_ (let⟨m,hn,_⟩:=I'.loc;⟨m,hn⟩) (I3.YE (ja _) I'.free) q
  exact I3.aB I'.os I'.base I'.hok I'.bare λb hb=>⟨(f3 b hb).2.2.2.1,(f3 b hb).2.1,(f3 b hb).2.2.2.2.1,(f3 b hb).2.2.2.2.2⟩
 have loop:∀tk,codeAny (model X.prog X.w) X.A (.compLoop (.ListComp elt [⟨tg,iter,ifs,0⟩] scope pos) 0 (.ref it) (.ref s₂.heap.objs.size) (compEnvC scope (cellsFrom (s₃.heap.objs.size+1) scope.names (HA X.env.cells scope.names [])) s₃.heap.objs.size X.env)) (RR (.ref s₂.heap.objs.size) s₃.heap.objs.size) {s₃ with heap:=h₁,toks:=tk}:=λtk=>
  Sq (X':=IJ X N' scope s₃ (upd H₂ s₂.heap.objs.size (.lst [])) fp) (D:=s₂.heap.objs.size) (Q:=Q) (W:=W) rfl rfl rfl T noX bg bt be turn fin ⟨0,_,_,_,I4 tk,st4,λb hb=>(f3 b hb).1,w0⟩
 rw[es]
 exact codeAny_compStart_list (loop _) (T.self _ 0 _ _ _ st4 (loop _))
theorem Wz{wi:TI}(hc:X.calm=true)(S:Aj X.N X.env.scope N' ix scope)(hi:PI X tg iter wi)(hb:Block X N' scope tg ifs elt g tc te)(hs:∀x,foldedSetIterable iter X.env x=pure x:=by intro _;rfl):PE X (.ListComp elt [⟨tg,iter,ifs,0⟩] scope pos) (X8 ix wi g tc te):=by
 intro pins s σ H Q I h
 rw[eval_ListComp]
 refine qW (use:=none) rfl hs (Qx (I.cellsOf S)) S.kind S.names (thn (hi pins s σ H _ I h) λv s1 h1=>thn h1 λitv s2 h2=>?_)
 obtain⟨it,fp,tn,J,H2,e,I2,T,st2,f2,hW⟩:=h2
 subst e
 refine Qv (RR:=λacc C=>compPost (model X.prog X.w) X.A X.xe none (EP X pins σ Q) acc C) hc S hb I2 T st2 f2 hW ?_
 intro D C H' s' I' hm hC q
 obtain⟨m,hm⟩:=hm
 refine⟨m,hm,λh' hs'=>⟨.ref D,H',I'.turned (it:=C) (t':=s'.toks) (λb o hb e=>hs'.extBut b o hb e) hC.1 hC.2.1 hC.2.2.2.1 hC.2.2.2.2.1 hC.2.2.2.2.2,rfl,q⟩⟩
end
end L2
end
noncomputable section
namespace L2
open PySem PySem.Spec PyProof.Rows
section
variable{X:Cx}{N':Wp Str}{ix:Wp (jO Nat)}{scope:mC}{elt tg iter:j4}{ifs:Wp j4}{pos spos py:Pos}{g:TG}{tc:TT}{te:TE}{wi:TI}{i:Nat}{y:Str}
theorem RM(hc:X.calm=true)(hN:X.N.Nodup)(hi':X.N[i]?=Gc y)(hx:X.env.scope.names.lookup y=Gc .local)(S:Aj X.N X.env.scope N' ix scope)(hi:PI X tg iter wi)(hb:Block X N' scope tg ifs elt g tc te)(hsw:swapsWith (.ListComp elt [⟨tg,iter,ifs,0⟩] scope pos) (Gc (.Name y py)) spos.line X.env=pure true:=by rfl)(hs:∀x,foldedSetIterable iter X.env x=pure x:=by intro _;rfl):PS X (.Assign [.Name y py] (.ListComp elt [⟨tg,iter,ifs,0⟩] scope pos) spos) (eH (X8 ix wi g tc te) (Wo i)):=by
 intro pins s σ H D I h
 rw[exec_Assign_Name_used _ _ _ _ hsw]
 refine jM (l8 (jM ?_))
 show wpAny _ X.A (do let _<-comprehension (.ListComp elt [⟨tg,iter,ifs,0⟩] scope pos) scope X.env _ (newList []) false (eval iter X.env) (Gc (assign (.Name y py) X.env))) _ _ s
 refine jM (lK (qW (use:=Gc (assign (.Name y py) X.env)) (Q:=λ_ s'=>SP X pins D .next s') rfl hs (Qx (I.cellsOf S)) S.kind S.names
  (thn (hi pins s σ H _ I h) λv s1 h1=>thn h1 λitv s2 h2=>?_)) (λ_ s' hq=>jZ (jZ hq)) λ_ _ e=>e)
 obtain⟨it,fp,tn,J,H2,e,I2,T,st2,f2,hW⟩:=h2
 subst e
 refine Qv (RR:=λacc C=>compPost (model X.prog X.w) X.A X.xe (Gc (assign (.Name y py) X.env)) (λ_ s'=>SP X pins D .next s') acc C) hc S hb I2 T st2 f2 hW ?_
 intro L C H' s' I' hm hC q
 obtain⟨m,hm⟩:=hm
 show wpAny _ X.A (assign (.Name y py) X.env (.ref L)) _ _ _
 refine sg (Lh I' hN hi' (.inl hx) (v:=.ref L) rfl (λs'' I'' ⟨a,sb,ha⟩=>?_) (.inr hx))
 have hCa:C≠a:=by
  rcases ha with rfl|ha
  .exact hC.2.1
  .exact kZ (hC.2.2.2.2.1 y a ha)
 refine⟨m,hm.sameBut sb hCa,λh' hs'=>?_⟩
 exact⟨_,H',I''.turned (it:=C) (t':=s''.toks) (λb o hb e=>hs'.extBut b o hb e) hC.1 hC.2.1 hC.2.2.2.1 hC.2.2.2.2.1 hC.2.2.2.2.2,q⟩
end
end L2
end
noncomputable section
namespace L2
open PySem PySem.Spec PyProof.Rows
section
variable{prog:js}{w:j6}{A:kK}{E:jN->jQ->Prop}{s:jQ}
theorem RU{h:j0}{it t:jR}{i:Nat}{o:Obj}(ho:h.get? it=Gc o)(hc:o.cls=.type "tuple_iterator")(hd:o.data=.fields #[.ref t,.int i 0]){h':j0}(e:h'=h.update it (λo=>o.mapFields λa=>a.setIfInBounds 1 (rawInt ((i:Int)+1)))):h'.IsTupleIter it t (i+1):=by
 subst e
 have d:=mF hd λa=>a.setIfInBounds 1 (rawInt ((i:Int)+1))
 refine⟨_,kx _ ho (lP d),?_,?_⟩
 .rw[tM];exact hc
 .rw[d];simp[rawInt]
theorem Uo{it t:jR}{i:Nat}{items:kP jN}{x:jN}{Q:jN->jQ->Prop}(hit:s.heap.IsTupleIter it t i)(ht:s.heap.IsTuple t items)(hx:items[i]?=Gc x)(hQ:∀h',h'.IsTupleIter it t (i+1)->oP it s.heap h'->Q x {s with heap:=h'}):wpAny (model prog w) A (kH (.ref it)) Q E s:=by
 obtain⟨⟨c,dd,dt,sl⟩,ho,hc,hd⟩:=id hit
 obtain⟨⟨c2,dd2,dt2,sl2⟩,ho2,hc2,n2,hd2⟩:=id ht
 simp only at hc hd hc2 hd2
 subst hc hd hc2 hd2
 unfold kH
 refine jM (lF (name:=lD "__next__") hit.typeIs mG (lQ mG hit.typeIs pW ?_ (pP _)))
 unfold og.«tuple_iterator.__next__»
 wp_walk using jv ho,jv ho2
 have e:items[(i:Int).toNat]?=Gc x:=by rw[oY];exact hx
 rw[e]
 refine jM (mn ho rfl (by simp) ?_)
 exact jZ ⟨x,rfl,jZ (hQ _ (RU ho rfl rfl rfl) (rZ ..))⟩
theorem VE{it t:jR}{i:Nat}{items:kP jN}{Q:jN->jQ->Prop}(hh:A.handled=none)(hit:s.heap.IsTupleIter it t i)(ht:s.heap.IsTuple t items)(hx:items[i]?=none)(hE:∀h' e,qO it s.heap h'->(∃o,h'.get? e=Gc o/\o.cls=.type "StopIteration")->E (.ref e) {s with heap:=h'}):wpAny (model prog w) A (kH (.ref it)) Q E s:=by
 obtain⟨⟨c,dd,dt,sl⟩,ho,hc,hd⟩:=id hit
 obtain⟨⟨c2,dd2,dt2,sl2⟩,ho2,hc2,n2,hd2⟩:=id ht
 simp only at hc hd hc2 hd2
 subst hc hd hc2 hd2
 unfold kH
 refine jM (lF (name:=lD "__next__") hit.typeIs mG (lQ mG hit.typeIs pW ?_ (pP _)))
 unfold og.«tuple_iterator.__next__»
 wp_walk using jv ho,jv ho2
 have e:items[(i:Int).toNat]?=none:=by rw[oY];exact hx
 rw[e]
 refine jM (qh (jM (mn ho rfl (by simp) ?_)))
 have hh1:A.in1.handled=none:=hh
 unfold tN
 simp only[newExc,newTuple,raiseNew]
 wp_walk
 refine hE _ _ ?_ ⟨_,jx _ rfl,rfl⟩
 have a:=(rZ (a:=it) (h:=s.heap) (f:=ku λx=>x.setIfInBounds 0 kR)).extBut
 exact(a.push _).push _
theorem Td(l:jR)(items:kP jN)(n:Nat)(dct:jO jR)(sl:kP (jO jN)):Meets (og.«enumerate.__new__» ⟨[.type "enumerate",.ref l],[]⟩) (λ_ R s=>s.heap.get? l=Gc {cls:=.type "tuple",dict:=dct,data:=.seq items n,slots:=sl}/\R (.ok (.ret (.ref (s.heap.objs.size+1)))) {s with heap:=(s.heap.push {cls:=.type "tuple_iterator",data:=.fields #[.ref l,.int 0 0]}).push {cls:=.type "enumerate",data:=.fields #[.none,.bool false,.ref s.heap.objs.size,rawInt 0,.none,.none]}}):=
 .of_wp λprog w A R s h=>by
  obtain⟨hp,g,d,tk,os⟩:=s
  obtain⟨hl,h⟩:=h
  have hsub:=sub_enumerate
  have hT:pX (mU ⟨hp,g,d,tk,os⟩) l items:=⟨_,hl,rfl,n,rfl⟩
  wp_walk using jv hl
  refine wpAny_stack_any λst=>jZ ?_
  split
  .rename_i c _ _ _ _ _
   cases (c==sI "enumerate")<;>(wp_walk using jv hl,lR hT)<;>(refine⟨_,rfl,?_⟩;rw[lB];exact h)
  .wp_walk using jv hl,lR hT
   refine⟨_,rfl,?_⟩
   rw[lB]
   exact h
theorem RV{l:jR}{items:kP jN}{Q:jN->jQ->Prop}(hT:s.heap.IsTuple l items)(h:∀h',IsEnum h' (s.heap.objs.size+1) s.heap.objs.size 0 .none->h'.IsTupleIter s.heap.objs.size l 0->(∀b o,s.heap.get? b=Gc o->h'.get? b=Gc o)->Q (.ref (s.heap.objs.size+1)) {s with heap:=h'}):wpAny (model prog w) A (call (.type "enumerate") [.ref l]) Q E s:=by
 obtain⟨⟨c,dct,dt,sl⟩,hl,hc,n,hd⟩:=hT
 simp only at hc hd
 subst hc hd
 refine wG F.called_enumerate (by decide) (F.typeCall_enumerate_1 _) (F.newCall_enumerate_1 _) (λobj=>F.args_object_init_2 obj _) F.entry_enumerate_new (Td l items n dct sl) ⟨hl,?_⟩
 have z:=jx (s.heap.push {cls:=.type "tuple_iterator",data:=.fields #[.ref l,.int 0 0]}) (o:={cls:=.type "enumerate",data:=.fields #[.none,.bool false,.ref s.heap.objs.size,rawInt 0,.none,.none]}) rfl
 rw[lB]at z
 exact⟨⟨_,z,rfl⟩,h _ z ⟨_,jP _ (jx _ rfl),rfl,rfl⟩ λb o x=>jP _ (jP _ x)⟩
end
section
variable{X:Cx}
end
end L2
end
noncomputable section
namespace L2
open PySem PySem.Spec PyProof.Rows
structure TopD(K:W1)(w:j6)(a:jR)(kvs:Wp (Str×V)):Prop where
 ex:∃(es:kP vg) (n:Nat),K.lookup a=Gc ⟨.type "dict",none,.dict es n, #[]⟩/\PySem.W.KeysLit w.params es.toList/\(a==sysModules)=false/\∀x,cK (kvs.lookup x) (findBy vN es x)
section
variable{X:Cx}
end
end L2
end
noncomputable section
namespace L2
open PySem PySem.Spec PyProof.Rows
def SIt(h:j0)(j l:jR)(i:Nat)(its:kP jN):Prop:=(h.IsListIter j l i/\h.IsList l its)\/(h.IsTupleIter j l i/\h.IsTuple l its)
section
variable{prog:js}{w:j6}{A:kK}{E:jN->jQ->Prop}{s:jQ}{h h':j0}{j l:jR}{i:Nat}{its:kP jN}
theorem SIt.at(q:SIt h j l i its)(k1:∀o,h.get? j=Gc o->h'.get? j=Gc o)(k2:∀o,h.get? l=Gc o->h'.get? l=Gc o):SIt h' j l i its:=by
 rcases q with⟨a,b⟩|⟨a,b⟩
 .exact .inl ⟨a.at k1,b.at k2⟩
 .exact .inr ⟨a.at k1,let⟨o,e,r⟩:=b;⟨o,k2 o e,r⟩⟩
theorem SIt.but{c:jR}(q:SIt h j l i its)(sb:qO c h h')(n1:j≠c)(n2:l≠c):SIt h' j l i its:=q.at (λo e=>sb _ o n1 e) λo e=>sb _ o n2 e
theorem SIt.live(q:SIt h j l i its):∃o,h.get? j=Gc o/\∀v,o.data≠.cell v:=by
 rcases q with⟨⟨o,a,b,c⟩,_⟩|⟨⟨o,a,b,c⟩,_⟩
 .exact⟨o,a,λv z=>by rw[c]at z;cases z⟩
 .exact⟨o,a,λv z=>by rw[c]at z;cases z⟩
theorem SIt.ne(q:SIt h j l i its):l≠j:=by
 rcases q with⟨⟨o,a,b,_⟩,⟨o2,a2,b2,_⟩⟩|⟨⟨o,a,b,_⟩,⟨o2,a2,b2,_⟩⟩
 .intro z;subst z;rw[a]at a2;cases a2;rw[b]at b2;injection b2 with q;exact absurd q (by decide)
 .intro z;subst z;rw[a]at a2;cases a2;rw[b]at b2;injection b2 with q;exact absurd q (by decide)
theorem LB{x:jN}{Q:jN->jQ->Prop}(q:SIt s.heap j l i its)(hx:its[i]?=Gc x)(k:∀h',SIt h' j l (i+1) its->oP j s.heap h'->Q x {s with heap:=h'}):wpAny (model prog w) A (kH (.ref j)) Q E s:=by
 have n:=q.ne
 rcases q with⟨a,b⟩|⟨a,b⟩
 .exact wpAny_nextOf_list_item a b hx λh' a' sb=>k h' (.inl ⟨a',b.extBut sb.extBut n⟩) sb
 .exact Uo a b hx λh' a' sb=>k h' (.inr ⟨a',let⟨o,e,r⟩:=b;⟨o,sb.extBut _ o n e,r⟩⟩) sb
theorem LJ{Q:jN->jQ->Prop}(hh:A.handled=none)(q:SIt s.heap j l i its)(hx:its[i]?=none)(k:∀h' e,qO j s.heap h'->(∃o,h'.get? e=Gc o/\o.cls=.type "StopIteration")->E (.ref e) {s with heap:=h'}):wpAny (model prog w) A (kH (.ref j)) Q E s:=by
 rcases q with⟨a,b⟩|⟨a,b⟩
 .exact wpAny_nextOf_list_end hh a b hx k
 .exact VE hh a b hx k
theorem Ss{z ti tt j1 j2 l1 l2:jR}{m:Nat}{xs ys:kP jN}{x y u1 u2:jN}{Q:jN->jQ->Prop}(D:tO z ti tt j1 j2 l1 l2)(oz:qC s.heap z ti tt .none)(oi:md s.heap ti (.ref j1) (.ref j2))(ot:md s.heap tt u1 u2)(q1:SIt s.heap j1 l1 m xs)(q2:SIt s.heap j2 l2 m ys)(ex:xs[m]?=Gc x)(ey:ys[m]?=Gc y)(k:∀h',qC h' z ti tt (rawInt s.heap.objs.size)->md h' tt x y->SIt h' j1 l1 (m+1) xs->SIt h' j2 l2 (m+1) ys->md h' s.heap.objs.size x y->(∀c o,c≠z->c≠tt->c≠j1->c≠j2->s.heap.get? c=Gc o->h'.get? c=Gc o)->Q (.ref s.heap.objs.size) {s with heap:=h'}):wpAny (model prog w) A (og.«zip.__next__» ⟨[.ref z],[]⟩) (λfin s'=>∃v,fin=.done (.ret v)/\Q v s') E s:=by
 show wpAny _ _ (field (.ref z) 2 >>= _) _ _ _
 refine jM (k9 oz rfl (x:=.bool false) rfl ?_)
 show wpAny _ _ (field (.ref z) 3 >>= _) _ _ _
 refine jM (k9 oz rfl (x:=.ref ti) rfl (jM (nW oi rfl ?_)))
 show wpAny _ _ (lC (.ref z) >>= _) _ _ _
 refine jM ?_
 unfold lC
 refine jM (k9 oz rfl (x:=.none) rfl (jZ ?_))
 simp only[pH]
 refine jM (qh (jM (k9 oz rfl (x:=.ref tt) rfl (jM (mH oz (by simp) λg1 oz1 b1=>?_)))))
 have oz1:qC g1 z ti tt .ellipsis:=oz1
 refine jM ?_
 simp only[uB,uN,qw,rE]
 refine jM (jM (qX ?_))
 show wpAny _ _ (kH (.ref j1) >>= _) _ _ _
 refine jM (LB (q1.but b1.extBut D.i1z D.l1z) ex λg2 q12 b2=>jZ ?_)
 have ot2:md g2 tt u1 u2:=b2.extBut _ _ D.TOi1 (b1.extBut _ _ D.TOz ot)
 refine jM (nW ot2 rfl (jM (pL ot2 λg3 ot3 b3=>?_)))
 have ot3:md g3 tt x u2:=ot3
 refine jM (rF (jZ (jM (jM (qX ?_)))))
 show wpAny _ _ (kH (.ref j2) >>= _) _ _ _
 refine jM (LB (((q2.but b1.extBut D.i2z D.l2z).but b2.extBut D.i12.symm D.l2i1).but b3.extBut D.TOi2.symm D.l2TO) ey λg4 q24 b4=>jZ ?_)
 have ot4:md g4 tt x u2:=b4.extBut _ _ D.TOi2 ot3
 refine jM (nW ot4 rfl (jM (pL ot4 λg5 ot5 b5=>?_)))
 have ot5:md g5 tt x y:=ot5
 refine jM (rF (jZ (jZ (jM (nW ot5 rfl (jM (wpAny_newTuple ?_)))))))
 have sz:g5.objs.size=s.heap.objs.size:=by rw[b5.1,b4.1,b3.1,b2.1,b1.1]
 have oz5:qC g5 z ti tt .ellipsis:=b5.extBut _ _ D.TOz.symm (b4.extBut _ _ D.i2z.symm (b3.extBut _ _ D.TOz.symm (b2.extBut _ _ D.i1z.symm oz1)))
 have k5:∀c o,c≠z->c≠tt->c≠j1->c≠j2->s.heap.get? c=Gc o->g5.get? c=Gc o:=λc o c1 c2 c3 c4 e=>b5.extBut _ _ c2 (b4.extBut _ _ c4 (b3.extBut _ _ c2 (b2.extBut _ _ c3 (b1.extBut _ _ c1 e))))
 have q15:SIt g5 j1 l1 (m+1) xs:=((q12.but b3.extBut D.TOi1.symm D.l1TO).but b4.extBut D.i12 D.l1i2).but b5.extBut D.TOi1.symm D.l1TO
 have q25:SIt g5 j2 l2 (m+1) ys:=q24.but b5.extBut D.TOi2.symm D.l2TO
 have zlt:z<g5.objs.size:=ji oz5
 show wpAny _ _ (nq (.ref z) (.ref g5.objs.size) >>= _) _ _ _
 refine jM ?_
 unfold nq
 have oz6:qC (g5.push {cls:=.type "tuple",data:=.seq #[x,y]}) z ti tt .ellipsis:=jP _ oz5
 refine jM (mH oz6 (by simp) λg7 oz7 b7=>?_)
 have oz7:qC g7 z ti tt (rawInt g5.objs.size):=oz7
 refine mH oz7 (by simp) λg8 oz8 b8=>?_
 have oz8:qC g8 z ti tt (rawInt g5.objs.size):=oz8
 have up:∀c o,c≠z->g5.get? c=Gc o->g8.get? c=Gc o:=λc o c1 e=>b8.extBut _ _ c1 (b7.extBut _ _ c1 (jP _ e))
 have op8:md g8 g5.objs.size x y:=b8.extBut _ _ (oR zlt) (b7.extBut _ _ (oR zlt) (jx _ rfl))
 rw[sz]at oz8 op8
 refine jZ ⟨_,rfl,?_⟩
 show Q (.ref g5.objs.size) _
 rw[sz]
 exact k g8 oz8 (up _ _ D.TOz ot5) (q15.at (λo e=>up _ o D.i1z e) λo e=>up _ o D.l1z e) (q25.at (λo e=>up _ o D.i2z e) λo e=>up _ o D.l2z e) op8 λc o c1 c2 c3 c4 e=>up c o c1 (k5 c o c1 c2 c3 c4 e)
theorem V9{z ti tt j1 j2 l1 l2:jR}{m:Nat}{xs ys:kP jN}{u1 u2:jN}{Q:Fin->jQ->Prop}(hh:A.handled=none)(D:tO z ti tt j1 j2 l1 l2)(oz:qC s.heap z ti tt .none)(oi:md s.heap ti (.ref j1) (.ref j2))(ot:md s.heap tt u1 u2)(q1:SIt s.heap j1 l1 m xs)(q2:SIt s.heap j2 l2 m ys)(en:xs[m]?=none\/ys[m]?=none)(k:∀h' e,(∀c o,c≠z->c≠tt->c≠j1->c≠j2->s.heap.get? c=Gc o->h'.get? c=Gc o)->(∃o,h'.get? e=Gc o/\o.cls=.type "StopIteration")->E (.ref e) {s with heap:=h'}):wpAny (model prog w) A (og.«zip.__next__» ⟨[.ref z],[]⟩) Q E s:=by
 show wpAny _ _ (field (.ref z) 2 >>= _) _ _ _
 refine jM (k9 oz rfl (x:=.bool false) rfl ?_)
 show wpAny _ _ (field (.ref z) 3 >>= _) _ _ _
 refine jM (k9 oz rfl (x:=.ref ti) rfl (jM (nW oi rfl ?_)))
 show wpAny _ _ (lC (.ref z) >>= _) _ _ _
 refine jM ?_
 unfold lC
 refine jM (k9 oz rfl (x:=.none) rfl (jZ ?_))
 simp only[pH]
 refine jM (qh (jM (k9 oz rfl (x:=.ref tt) rfl (jM (mH oz (by simp) λg1 oz1 b1=>?_)))))
 have oz1:qC g1 z ti tt .ellipsis:=oz1
 refine jM ?_
 simp only[uB,uN,qw,rE]
 refine jM (jM (qX ?_))
 show wpAny _ _ (kH (.ref j1) >>= _) _ _ _
 cases ex:xs[m]? with
 |none=>
  refine jM (LJ hh (q1.but b1.extBut D.i1z D.l1z) ex λg2 e b2 he=>?_)
  obtain⟨oe,e1,e2⟩:=he
  have oz2:qC g2 z ti tt .ellipsis:=b2 _ _ D.i1z.symm oz1
  have nez:e≠z:=λx=>by subst x;rw[oz2]at e1;cases e1;simp at e2
  exact mH oz2 (by simp) λg3 _ b3=>k g3 e (λc o c1 _ c3 _ x=>b3.extBut _ _ c1 (b2 _ _ c3 (b1.extBut _ _ c1 x))) ⟨oe,b3.extBut _ _ nez e1,e2⟩
 |some x=>
  have ey:ys[m]?=none:=by
   rcases en with z|z
   .rw[ex]at z;cases z
   .exact z
  refine jM (LB (q1.but b1.extBut D.i1z D.l1z) ex λg2 q12 b2=>jZ ?_)
  have ot2:md g2 tt u1 u2:=b2.extBut _ _ D.TOi1 (b1.extBut _ _ D.TOz ot)
  refine jM (nW ot2 rfl (jM (pL ot2 λg3 ot3 b3=>?_)))
  refine jM (rF (jZ (jM (jM (qX ?_)))))
  show wpAny _ _ (kH (.ref j2) >>= _) _ _ _
  refine jM (LJ hh (((q2.but b1.extBut D.i2z D.l2z).but b2.extBut D.i12.symm D.l2i1).but b3.extBut D.TOi2.symm D.l2TO) ey λg4 e b4 he=>?_)
  obtain⟨oe,e1,e2⟩:=he
  have oz4:qC g4 z ti tt .ellipsis:=b4 _ _ D.i2z.symm (b3.extBut _ _ D.TOz.symm (b2.extBut _ _ D.i1z.symm oz1))
  have nez:e≠z:=λx=>by subst x;rw[oz4]at e1;cases e1;simp at e2
  exact mH oz4 (by simp) λg5 _ b5=>k g5 e (λc o c1 c2 c3 c4 x=>b5.extBut _ _ c1 (b4 _ _ c4 (b3.extBut _ _ c2 (b2.extBut _ _ c3 (b1.extBut _ _ c1 x))))) ⟨oe,b5.extBut _ _ nez e1,e2⟩
theorem Rr{z ti tt j1 j2 l1 l2:jR}{m:Nat}{xs ys:kP jN}{x y u1 u2:jN}{Q:jO jN->jQ->Prop}(D:tO z ti tt j1 j2 l1 l2)(oz:qC s.heap z ti tt .none)(oi:md s.heap ti (.ref j1) (.ref j2))(ot:md s.heap tt u1 u2)(q1:SIt s.heap j1 l1 m xs)(q2:SIt s.heap j2 l2 m ys)(ex:xs[m]?=Gc x)(ey:ys[m]?=Gc y)(k:∀h',qC h' z ti tt (rawInt s.heap.objs.size)->md h' tt x y->SIt h' j1 l1 (m+1) xs->SIt h' j2 l2 (m+1) ys->md h' s.heap.objs.size x y->(∀c o,c≠z->c≠tt->c≠j1->c≠j2->s.heap.get? c=Gc o->h'.get? c=Gc o)->Q (Gc (.ref s.heap.objs.size)) {s with heap:=h'}):wpAny (model prog w) A (pyNext (.ref z)) Q E s:=by
 have ht:s.TypeIs (.ref z) "zip":=⟨_,oz,rfl⟩
 unfold pyNext
 exact jM (sD (lF (name:=lD "__next__") ht pQ (lQ pQ ht uC
  (Ss D oz oi ot q1 q2 ex ey λh' a1 a2 a3 a4 a5 a6=>jZ (k h' a1 a2 a3 a4 a5 a6)) (tP _))))
theorem T8{z ti tt j1 j2 l1 l2:jR}{m:Nat}{xs ys:kP jN}{u1 u2:jN}{Q:jO jN->jQ->Prop}(hh:A.handled=none)(D:tO z ti tt j1 j2 l1 l2)(oz:qC s.heap z ti tt .none)(oi:md s.heap ti (.ref j1) (.ref j2))(ot:md s.heap tt u1 u2)(q1:SIt s.heap j1 l1 m xs)(q2:SIt s.heap j2 l2 m ys)(en:xs[m]?=none\/ys[m]?=none)(k:∀h',(∀c o,c≠z->c≠tt->c≠j1->c≠j2->s.heap.get? c=Gc o->h'.get? c=Gc o)->Q none {s with heap:=h'}):wpAny (model prog w) A (pyNext (.ref z)) Q E s:=by
 have ht:s.TypeIs (.ref z) "zip":=⟨_,oz,rfl⟩
 unfold pyNext
 refine jM (sD (lF (name:=lD "__next__") ht pQ (lQ pQ ht uC
  (V9 hh D oz oi ot q1 q2 en λh' e kp he=>?_) (tP _))))
 obtain⟨o,e1,e2⟩:=he
 exact jM (wpAny_isInstance (T:="StopIteration") (b:=true) ⟨o,e1,e2⟩ isSubtype_stop (jZ (k _ kp)))
end
end L2
end
noncomputable section
namespace L2
open PySem PySem.Spec PyProof.Rows
def Mc(h:j0)(b:kG)(l:jR)(its:kP jN):Prop:=match b with|true=>h.IsTuple l its|false=>h.IsList l its
noncomputable def Zi:kG->lx|true=>"tuple_iterator" |false=>"list_iterator"
noncomputable def zh1(h:j0)(b:kG)(l:jR):j0:=h.push {cls:=.type (Zi b),data:=.fields #[.ref l,.int 0 0]}
noncomputable def zh2(h:j0)(b c:kG)(l m:jR):j0:=zh1 (zh1 h b l) c m
noncomputable def zh3(h:j0)(b c:kG)(l m:jR):j0:=(zh2 h b c l m).push {cls:=.type "tuple",data:=.seq #[.ref h.objs.size,.ref (zh1 h b l).objs.size]}
noncomputable def zh4(h:j0)(b c:kG)(l m:jR):j0:=(zh3 h b c l m).push {cls:=.type "tuple",data:=.seq #[.none,.none]}
noncomputable def zh5(h:j0)(b c:kG)(l m:jR):j0:=(zh4 h b c l m).push {cls:=.type "zip",data:=.fields #[.none,.bool false,.bool false,.ref (zh2 h b c l m).objs.size,.ref (zh3 h b c l m).objs.size]}
theorem Mc.push{h:j0}{b:kG}{l:jR}{its:kP jN}(q:Mc h b l its)(o:Obj):Mc (h.push o) b l its:=by
 cases b
 .exact Heap.IsList.push q _
 .obtain⟨u,e,r⟩:=(show h.IsTuple l its from q)
  exact⟨u,jP _ e,r⟩
theorem VX(b c:kG)(l m:jR)(xs ys:kP jN):Meets (og.«zip.__new__» ⟨[.type "zip",.ref l,.ref m],[]⟩) (λ_ R s=>Mc s.heap b l xs/\Mc s.heap c m ys/\R (.ok (.ret (.ref (zh4 s.heap b c l m).objs.size))) {s with heap:=zh5 s.heap b c l m}):=
 .of_wp λprog w A R s hyp=>by
  obtain⟨hp,gs,dr,tk,os⟩:=s
  obtain⟨i1,i2,hyp⟩:=hyp
  have hsub:=sub_zip
  have i3:Mc (mU ⟨zh1 hp b l,gs,dr,tk,os⟩) c m ys:=Mc.push i2 _
  cases b<;>cases c
  .have a1:rG (mU ⟨hp,gs,dr,tk,os⟩) l xs:=i1
   have a2:rG (mU ⟨hp.push {cls:=.type "list_iterator",data:=.fields #[.ref l,.int 0 0]},gs,dr,tk,os⟩) m ys:=i3
   wp_walk using lZ a1,lZ a2
   exact⟨_,rfl,hyp⟩
  .have a1:rG (mU ⟨hp,gs,dr,tk,os⟩) l xs:=i1
   have a2:pX (mU ⟨hp.push {cls:=.type "list_iterator",data:=.fields #[.ref l,.int 0 0]},gs,dr,tk,os⟩) m ys:=i3
   wp_walk using lZ a1,lR a2
   exact⟨_,rfl,hyp⟩
  .have a1:pX (mU ⟨hp,gs,dr,tk,os⟩) l xs:=i1
   have a2:rG (mU ⟨hp.push {cls:=.type "tuple_iterator",data:=.fields #[.ref l,.int 0 0]},gs,dr,tk,os⟩) m ys:=i3
   wp_walk using lR a1,lZ a2
   exact⟨_,rfl,hyp⟩
  .have a1:pX (mU ⟨hp,gs,dr,tk,os⟩) l xs:=i1
   have a2:pX (mU ⟨hp.push {cls:=.type "tuple_iterator",data:=.fields #[.ref l,.int 0 0]},gs,dr,tk,os⟩) m ys:=i3
   wp_walk using lR a1,lR a2
   exact⟨_,rfl,hyp⟩
section
variable{prog:js}{w:j6}{A:kK}{E:jN->jQ->Prop}{s:jQ}
theorem WL{h h':j0}{b:kG}{l j:jR}{its:kP jN}(q:Mc h b l its)(k:∀c o,h.get? c=Gc o->h'.get? c=Gc o)(e:h'.get? j=Gc {cls:=.type (Zi b),data:=.fields #[.ref l,.int 0 0]}):SIt h' j l 0 its:=by
 cases b
 .exact .inl ⟨⟨_,e,rfl,rfl⟩,(show h.IsList l its from q).at λo z=>k _ o z⟩
 .exact .inr ⟨⟨_,e,rfl,rfl⟩,let⟨o,z,r⟩:=(show h.IsTuple l its from q);⟨o,k _ o z,r⟩⟩
theorem Tj{b c:kG}{l m:jR}{xs ys:kP jN}{Q:jN->jQ->Prop}(i1:Mc s.heap b l xs)(i2:Mc s.heap c m ys)(k:∀h',qC h' (s.heap.objs.size+4) (s.heap.objs.size+2) (s.heap.objs.size+3) .none->md h' (s.heap.objs.size+2) (.ref s.heap.objs.size) (.ref (s.heap.objs.size+1))->md h' (s.heap.objs.size+3) .none .none->SIt h' s.heap.objs.size l 0 xs->SIt h' (s.heap.objs.size+1) m 0 ys->(∀c o,s.heap.get? c=Gc o->h'.get? c=Gc o)->Q (.ref (s.heap.objs.size+4)) {s with heap:=h'}):wpAny (model prog w) A (call (.type "zip") [.ref l,.ref m]) Q E s:=by
 refine wG F.called_zip (by decide) (F.typeCall_zip_2 _ _) (F.newCall_zip_2 _ _) (λobj=>F.args_object_init_3 obj _ _) F.entry_zip_new (VX b c l m xs ys) ⟨i1,i2,?_⟩
 have z1:(zh1 s.heap b l).objs.size=s.heap.objs.size+1:=lB ..
 have z2:(zh2 s.heap b c l m).objs.size=s.heap.objs.size+2:=by unfold zh2 zh1;rw[lB];exact congrArg (· +1) z1
 have z3:(zh3 s.heap b c l m).objs.size=s.heap.objs.size+3:=by unfold zh3;rw[lB,z2]
 have z4:(zh4 s.heap b c l m).objs.size=s.heap.objs.size+4:=by unfold zh4;rw[lB,z3]
 have kp:∀d o,s.heap.get? d=Gc o->(zh5 s.heap b c l m).get? d=Gc o:=λd o e=>by
  unfold zh5 zh4 zh3 zh2 zh1
  exact jP _ (jP _ (jP _ (jP _ (jP _ e))))
 have g5:(zh5 s.heap b c l m).get? (zh4 s.heap b c l m).objs.size=Gc _:=jx _ rfl
 have g4:(zh5 s.heap b c l m).get? (zh3 s.heap b c l m).objs.size=Gc _:=jP _ (jx _ rfl)
 have g3:(zh5 s.heap b c l m).get? (zh2 s.heap b c l m).objs.size=Gc _:=jP _ (jP _ (jx _ rfl))
 have g2:(zh5 s.heap b c l m).get? (zh1 s.heap b l).objs.size=Gc _:=jP _ (jP _ (jP _ (jx _ rfl)))
 have g1:(zh5 s.heap b c l m).get? s.heap.objs.size=Gc _:=jP _ (jP _ (jP _ (jP _ (jx _ rfl))))
 show _/\_
 rw[z2,z3,z4]at g5
 rw[z1,z2]at g3
 rw[z3]at g4
 rw[z1]at g2
 rw[z4]
 exact⟨⟨_,g5,rfl⟩,k _ g5 g3 g4 (WL i1 kp g1) (WL i2 kp g2) kp⟩
end
end L2
end
noncomputable section
namespace L2
open PySem PySem.Spec PyProof.Rows
def SqB(K:W1)(H:Hp)(k:kG)(a:jR)(xs:Wp V):Prop:=match k with|true=>SqT K H a xs|false=>SqL K H a xs
def JIt(h:j0)(k:kG)(j l:jR)(i:Nat):Prop:=match k with|true=>h.IsTupleIter j l i|false=>h.IsListIter j l i
theorem JIt.at{h h':j0}{k:kG}{j l:jR}{i:Nat}(q:JIt h k j l i)(e:∀o,h.get? j=Gc o->h'.get? j=Gc o):JIt h' k j l i:=by
 cases k
 .exact Heap.IsListIter.at q e
 .exact Heap.IsTupleIter.at q e
theorem JIt.sit{h:j0}{k:kG}{j l:jR}{i:Nat}{its:kP jN}(q:JIt h k j l i)(p:Mc h k l its):SIt h j l i its:=by
 cases k
 .exact .inl ⟨q,p⟩
 .exact .inr ⟨q,p⟩
theorem SIt.jit{h:j0}{k:kG}{j l:jR}{i:Nat}{its:kP jN}(q:SIt h j l i its)(p:Mc h k l its):JIt h k j l i:=by
 rcases q with⟨q,r⟩|⟨q,r⟩
 .cases k
  .exact q
  .obtain⟨o,e,c,_⟩:=r;obtain⟨o',e',c',_⟩:=(show h.IsTuple l its from p)
   rw[e]at e';cases e';rw[c]at c';injection c' with z;exact absurd z (by decide)
 .cases k
  .obtain⟨o,e,c,_⟩:=r;obtain⟨o',e',c',_⟩:=(show h.IsList l its from p)
   rw[e]at e';cases e';rw[c]at c';injection c' with z;exact absurd z (by decide)
  .exact q
theorem Inv.sqB{X:Cx}{pins:Wp (jR×Obj)}{σ:St}{H:Hp}{s:jQ}{k:kG}{a:jR}{xs:Wp V}(I:Inv X pins σ H s)(h:SqB X.K H k a xs):∃its:Wp jN,Vals xs its/\Mc s.heap k a its.toArray:=by
 cases k
 .obtain⟨its,h1,⟨o,n,q1,q2,_,q3⟩,h3⟩:=I.list h
  exact⟨its,h1,o,q1,q2,n,q3⟩
 .obtain⟨its,h1,h2,h3⟩:=I.tuple h
  exact⟨its,h1,h2⟩
theorem Inv.Pq{X:Cx}{pins:Wp (jR×Obj)}{σ:St}{H:Hp}{s:jQ}{k:kG}{a:jR}{xs ys:Wp V}(I:Inv X pins σ H s)(h:SqB X.K H k a xs)(g:SqB X.K H k a ys):xs=ys:=by
 cases k
 .exact I.Q7 h g
 .exact I.Oh h g
noncomputable def Itz(K:W1)(k:kG)(a:jR)(m:kG)(b:jR):It:=
 ⟨λi H=>∃(xs ys:Wp V) (x y:V),SqB K H k a xs/\SqB K H m b ys/\xs[i]?=Gc x/\ys[i]?=Gc y,
  λi H v H'=>∃(p:jR) (x y:V),H p=none/\v=.ref p/\(∀xs,SqB K H k a xs->xs[i]?=Gc x)/\(∀ys,SqB K H m b ys->ys[i]?=Gc y)/\H'=upd H p (.tup [x,y]),
  λi H=>∃(xs ys:Wp V),SqB K H k a xs/\SqB K H m b ys/\(xs.length<=i\/ys.length<=i)⟩
structure ZSt(h:j0)(z ti tt j1 j2:jR)(k:kG)(a:jR)(m:kG)(b:jR)(i:Nat):Prop where
 oz:qC h z ti tt .none
 oi:md h ti (.ref j1) (.ref j2)
 ot:∃u v,md h tt u v
 q1:JIt h k j1 a i
 q2:JIt h m j2 b i
structure ZNe(z ti tt j1 j2:jR):Prop where
 n1:ti≠z
 n2:tt≠z
 n3:j1≠z
 n4:j2≠z
 n5:ti≠tt
 n6:ti≠j1
 n7:ti≠j2
 n8:tt≠j1
 n9:tt≠j2
 n10:j1≠j2
theorem ZNe.apart{z ti tt j1 j2 a b:jR}(N:ZNe z ti tt j1 j2)(ha:a∉ [z,tt,j1,j2])(hb:b∉ [z,tt,j1,j2]):tO z ti tt j1 j2 a b:=by
 simp only[jX,jt,kr,sR]at ha hb
 exact⟨N.n1,N.n2,N.n3,N.n4,N.n5,N.n6,N.n7,N.n8,N.n9,N.n10,ha.1,ha.2.1,ha.2.2.1,ha.2.2.2,hb.1,hb.2.1,hb.2.2.1,hb.2.2.2⟩
theorem Bg{X:Cx}{pins:Wp (jR×Obj)}{σ:St}{H:Hp}{s:jQ}{k:kG}{a c:jR}{xs:Wp V}(I:Inv X pins σ H s)(q:SqB X.K H k a xs)(f:Pl X pins H c):a≠c:=by
 intro e
 subst e
 have rd:∀o,Rd H a o->lW:=λo r=>by
  rcases r with r|⟨_,r⟩<;>(rw[f.1]at r;cases r)
 have kk:∀o,X.K.lookup a=Gc o->lW:=λo hk=>by
  have b:=I.ok.mod.kin a o hk
  rcases f.2.2.2.1 with z|z
  .exact I.ok.Wc a o b z
  .exact absurd (jV (ji (I.ok.bs a o b).1) z) (lI _)
 cases k
 .rcases(show SqL X.K H a xs from q)with q|⟨o,_,_,hk,_⟩
  .exact rd _ q
  .exact kk o hk
 .rcases(show SqT X.K H a xs from q)with q|⟨o,_,_,hk,_⟩
  .exact rd _ q
  .exact kk o hk
theorem Vc{P:js}{w:j6}{K:W1}{elts:Wp j4}{n:Nat}{pos:Pos}(k:kG)(a:jR)(m:kG)(b:jR)(z ti tt j1 j2:jR)(N:ZNe z ti tt j1 j2):Turn P w K (.Tuple elts n pos) (Itz K k a m b) [z,ti,tt,j1,j2] z (λi h=>ZSt h z ti tt j1 j2 k a m b i) where
 mem:=by simp
 obj:=λi h st c hc=>by
  have jl:∀{q:kG} {j l:jR},JIt h q j l i->∃o,h.get? j=Gc o/\∀v,o.data≠.cell v:=λ{q j l} x=>by
   cases q
   .obtain⟨o,e,_,d⟩:=(show h.IsListIter j l i from x)
    exact⟨o,e,λv z=>by rw[d]at z;cases z⟩
   .obtain⟨o,e,_,d⟩:=(show h.IsTupleIter j l i from x)
    exact⟨o,e,λv z=>by rw[d]at z;cases z⟩
  simp only[jX,jt,kr]at hc
  rcases hc with rfl|rfl|rfl|rfl|rfl
  .exact⟨_,st.oz,λv z=>nomatch z⟩
  .exact⟨_,st.oi,λv z=>nomatch z⟩
  .obtain⟨u,v,e⟩:=st.ot
   exact⟨_,e,λv z=>nomatch z⟩
  .exact jl st.q1
  .exact jl st.q2
 keep:=λi h h' st kp=>⟨kp z (by simp) _ st.oz,kp ti (by simp) _ st.oi,let⟨u,v,e⟩:=st.ot;⟨u,v,kp tt (by simp) _ e⟩,st.q1.at λo e=>kp j1 (by simp) o e,st.q2.at λo e=>kp j2 (by simp) o e⟩
 item:=by
  intro X hP hw hK hc i pins s σ H E I hf st hg
  subst hP hw hK
  obtain⟨xs,ys,x,y,s1,s2,e1,e2⟩:=hg
  obtain⟨i1,r1,p1⟩:=I.sqB s1
  obtain⟨i2,r2,p2⟩:=I.sqB s2
  obtain⟨u1,h1,ru1⟩:=r1.get e1
  obtain⟨u2,h2,ru2⟩:=r2.get e2
  have fz:=hf z (by simp);have fi:=hf ti (by simp);have ft:=hf tt (by simp);have f1:=hf j1 (by simp);have f2:=hf j2 (by simp)
  have ap:=N.apart (a:=a) (b:=b) (by simp[Bg I s1 fz,Bg I s1 ft,Bg I s1 f1,Bg I s1 f2]) (by simp[Bg I s2 fz,Bg I s2 ft,Bg I s2 f1,Bg I s2 f2])
  obtain⟨v1,v2,ot⟩:=st.ot
  refine Rr ap st.oz st.oi ot (st.q1.sit p1) (st.q2.sit p2) (x:=u1) (y:=u2) (by simpa using h1) (by simpa using h2) λh' oz ot' q1 q2 op kp=>⟨_,rfl,wpAny_letOwnedTupleGo_zip oz λg oz' sb=>?_⟩
  have lt:∀c o,s.heap.get? c=Gc o->c≠s.heap.objs.size:=λc o q=>kA (ji q)
  have nz:z≠s.heap.objs.size:=lt _ _ st.oz
  have nt:tt≠s.heap.objs.size:=lt _ _ ot
  have n1:j1≠s.heap.objs.size:=by obtain⟨o,e,_⟩:=(st.q1.sit p1).live;exact lt _ _ e
  have n2:j2≠s.heap.objs.size:=by obtain⟨o,e,_⟩:=(st.q2.sit p2).live;exact lt _ _ e
  have kp2:∀c o,c≠z->c≠tt->c≠j1->c≠j2->s.heap.get? c=Gc o->g.get? c=Gc o:=λc o c1 c2 c3 c4 q=>(sb.2 c c1).trans (kp c o c1 c2 c3 c4 q)
  have fr:H s.heap.objs.size=none:=I.hok.fresh (ja _)
  have op2:g.get? s.heap.objs.size=Gc {cls:=.type "tuple",data:=.seq #[u1,u2]}:=(sb.2 _ (kZ nz)).trans op
  have ne:∀c u,c∈ [z,ti,tt,j1,j2]->∀d,H d=Gc u->d≠c:=λc u hc d q e=>by rw[e,(hf c hc).1]at q;cases q
  have kpH:∀c u,H c=Gc u->∀o,s.heap.get? c=Gc o->g.get? c=Gc o:=λc u q o e=>kp2 c o (ne z u (by simp) c q) (ne tt u (by simp) c q) (ne j1 u (by simp) c q) (ne j2 u (by simp) c q) e
  have ka:∀o,s.heap.get? a=Gc o->g.get? a=Gc o:=λo e=>kp2 a o (Bg I s1 fz) (Bg I s1 ft) (Bg I s1 f1) (Bg I s1 f2) e
  have kb:∀o,s.heap.get? b=Gc o->g.get? b=Gc o:=λo e=>kp2 b o (Bg I s2 fz) (Bg I s2 ft) (Bg I s2 f1) (Bg I s2 f2) e
  have sq:∀{q:kG} {d:jR} {is:kP jN},Mc s.heap q d is->(∀o,s.heap.get? d=Gc o->h'.get? d=Gc o)->Mc h' q d is:=λ{q d is} x kd=>by
   cases q
   .exact(show s.heap.IsList d is from x).at kd
   .obtain⟨o,e,r⟩:=(show s.heap.IsTuple d is from x)
    exact⟨o,kd o e,r⟩
  have ka1:∀o,s.heap.get? a=Gc o->h'.get? a=Gc o:=λo e=>kp a o (Bg I s1 fz) (Bg I s1 ft) (Bg I s1 f1) (Bg I s1 f2) e
  have kb1:∀o,s.heap.get? b=Gc o->h'.get? b=Gc o:=λo e=>kp b o (Bg I s2 fz) (Bg I s2 ft) (Bg I s2 f1) (Bg I s2 f2) e
  refine⟨.ref s.heap.objs.size,upd H s.heap.objs.size (.tup [x,y]),?_,rfl,⟨_,x,y,fr,rfl,λzs hz=>by rw[I.Pq hz s1];exact e1,λzs hz=>by rw[I.Pq hz s2];exact e2,rfl⟩,⟨oz',(sb.2 _ N.n1).trans (kp ti _ N.n1 N.n5 N.n6 N.n7 st.oi),⟨_,_,(sb.2 _ N.n2).trans ot'⟩,(q1.jit (sq p1 ka1)).at λo e=>(sb.2 _ N.n3).trans e,(q2.jit (sq p2 kb1)).at λo e=>(sb.2 _ N.n4).trans e⟩,?_⟩
  .show Inv X pins σ _ {s with heap:=g,gens:=s.gens,drawn:=s.drawn,toks:=s.toks}
   refine I.step (g':=s.gens) (d':=s.drawn) (ch:=[z,tt,j1,j2]) ?_ ?_ ?_ ?_ ?_ ?_ ?_ ?_ ?_ ?_ I.bare
   .intro c hc
    have q:Pl X pins H c:=hf c (by simp only[jX,jt,kr]at hc ⊢; rcases hc with z|z|z|z<;>simp[z])
    exact⟨q.2.2.2.1,q.2.1,q.2.2.2.2.1,q.2.2.2.2.2⟩
   .exact λc o _ _ hc q _=>by
     simp only[jX,jt,kr,sR]at hc
     exact kp2 c o hc.1 hc.2.1 hc.2.2.1 hc.2.2.2 q
   .exact λc o _ _ hc q _=>by
     simp only[jX,jt,kr,sR]at hc
     exact⟨o.slots,kp2 c o hc.1 hc.2.1 hc.2.2.1 hc.2.2.2 q⟩
   .exact λc o _ q n=>by rw[AZ (lt c o q)];exact n
   .exact λc o hc q=>by
     simp only[jX,jt,kr,sR]at hc
     exact⟨o,kp2 c o hc.1 hc.2.1 hc.2.2.1 hc.2.2.2 q⟩
   .exact λc ys q=>by rw[AZ (BY q fr)];exact q
   .exact λc o u q=>by rw[AZ (BY q fr)];exact q
   .exact λc ps q=>⟨#[],by rw[AZ (BY q fr),q];simp⟩
   .rintro mm ⟨o,es,ep,ho,r⟩
    exact⟨o,es,ep,kp2 _ o (kZ fz.2.1) (kZ ft.2.1) (kZ f1.2.1) (kZ f2.2.1) ho,r⟩
   .intro c v q
    by_cases hb:c=s.heap.objs.size
    .subst hb
     rw[BR]at q
     cases q
     exact⟨by show 2<=sizeLine;decide,[u1,u2],.cons ru1 (.cons ru2 .nil),⟨_,op2,rfl,0,rfl⟩⟩
    .rw[AZ hb]at q
     refine(I.hok c v q).Rn (λd o hd r=>?_) (λd r=>by rw[AZ (BY r fr)];exact r) (λd ys r=>by rw[AZ (BY r fr)];exact r)
     rcases hd with e|e
     .rw[e]at r ⊢; exact kpH c v q o r
     .exact kpH d _ e o r
  .intro c hc
   have q:=hf c hc
   have:c≠s.heap.objs.size:=by
    simp only[jX,jt,kr]at hc
    rcases hc with e|e|e|e|e
    .rw[e];exact nz
    .rw[e];exact lt _ _ st.oi
    .rw[e];exact nt
    .rw[e];exact n1
    .rw[e];exact n2
   rw[AZ this];exact q.1
 done:=by
  intro X hP hw hK hc i pins s σ H E I hf st hg
  subst hP hw hK
  obtain⟨xs,ys,s1,s2,e⟩:=hg
  obtain⟨i1,r1,p1⟩:=I.sqB s1
  obtain⟨i2,r2,p2⟩:=I.sqB s2
  have l1:=r1.length
  have l2:=r2.length
  have hh:X.A.in1.handled=none:=I.ok.hd hc
  have hh0:X.A.handled=none:=I.ok.hd hc
  have fz:=hf z (by simp);have fi:=hf ti (by simp);have ft:=hf tt (by simp);have f1:=hf j1 (by simp);have f2:=hf j2 (by simp)
  have ap:=N.apart (a:=a) (b:=b) (by simp[Bg I s1 fz,Bg I s1 ft,Bg I s1 f1,Bg I s1 f2]) (by simp[Bg I s2 fz,Bg I s2 ft,Bg I s2 f1,Bg I s2 f2])
  obtain⟨v1,v2,ot⟩:=st.ot
  refine T8 hh0 ap st.oz st.oi ot (st.q1.sit p1) (st.q2.sit p2) (by rcases e with e|e;exact .inl (by simp;lia);exact .inr (by simp;lia)) λh' kp=>⟨rfl,?_⟩
  have ne:∀c u,c∈ [z,ti,tt,j1,j2]->∀d,H d=Gc u->d≠c:=λc u hc d q e=>by rw[e,(hf c hc).1]at q;cases q
  show Inv X pins σ _ {s with heap:=h',gens:=s.gens,drawn:=s.drawn,toks:=s.toks}
  refine I.step (g':=s.gens) (d':=s.drawn) (ch:=[z,tt,j1,j2]) ?_ ?_ ?_ ?_ ?_ ?_ ?_ ?_ ?_ ?_ I.bare
  .intro c hc
   have q:Pl X pins H c:=hf c (by simp only[jX,jt,kr]at hc ⊢; rcases hc with z|z|z|z<;>simp[z])
   exact⟨q.2.2.2.1,q.2.1,q.2.2.2.2.1,q.2.2.2.2.2⟩
  .exact λc o _ _ hc q _=>by
    simp only[jX,jt,kr,sR]at hc
    exact kp c o hc.1 hc.2.1 hc.2.2.1 hc.2.2.2 q
  .exact λc o _ _ hc q _=>by
    simp only[jX,jt,kr,sR]at hc
    exact⟨o.slots,kp c o hc.1 hc.2.1 hc.2.2.1 hc.2.2.2 q⟩
  .exact λc o _ q n=>n
  .exact λc o hc q=>by
    simp only[jX,jt,kr,sR]at hc
    exact⟨o,kp c o hc.1 hc.2.1 hc.2.2.1 hc.2.2.2 q⟩
  .exact λc ys q=>q
  .exact λc o u q=>q
  .exact λc ps q=>⟨#[],by rw[q];simp⟩
  .rintro mm ⟨o,es,ep,ho,r⟩
   exact⟨o,es,ep,kp _ o (kZ fz.2.1) (kZ ft.2.1) (kZ f1.2.1) (kZ f2.2.1) ho,r⟩
  .intro c v q
   refine(I.hok c v q).Rn (λd o hd r=>?_) (λd r=>r) (λd ys r=>r)
   rcases hd with e|e
   .rw[e]at r ⊢; exact kp c o (ne z v (by simp) c q) (ne tt v (by simp) c q) (ne j1 v (by simp) c q) (ne j2 v (by simp) c q) r
   .exact kp d o (ne z _ (by simp) d e) (ne tt _ (by simp) d e) (ne j1 _ (by simp) d e) (ne j2 _ (by simp) d e) r
 self:=λ_ _ _ _ _ st h=>uD st.oz h
end L2
end
noncomputable section
namespace L2
open PySem PySem.Spec PyProof.Rows
theorem zne(n:Nat):ZNe (n+4) (n+2) (n+3) n (n+1):=⟨λe=>by have:n+2=n+4:=e;lia,λe=>by have:n+3=n+4:=e;lia,λe=>by have:n=n+4:=e;lia,λe=>by have:n+1=n+4:=e;lia,λe=>by have:n+2=n+3:=e;lia,λe=>by have:n+2=n:=e;lia,λe=>by have:n+2=n+1:=e;lia,λe=>by have:n+3=n:=e;lia,λe=>by have:n+3=n+1:=e;lia,λe=>by have:n=n+1:=e;lia⟩
section
variable{X:Cx}
noncomputable def iT(K:W1)(ta:TA):TI:=λσ H R=>ta σ H λvs H1=>∃k a m b,vs=[.ref a,.ref b]/\(∃xs,SqB K H1 k a xs)/\(∃ys,SqB K H1 m b ys)/\R (Itz K k a m b) H1
theorem Y7{a b:j4}{ta:TA}{p pos tp:Pos}{elts:Wp j4}{n:Nat}(hg:Gl X "zip")(hm:X.mg "zip"=none)(ha:PA X [a,b] ta)(hs:ju [a,b] X.env=[(false,eval a X.env),(false,eval b X.env)]:=by rfl)(hs2:ju [b] X.env=[(false,eval b X.env)]:=by rfl):PI X (.Tuple elts n tp) (.Call (.Name "zip" p) [a,b] [] pos) (iT X.K ta):=by
 intro pins s σ H R I h
 refine Call_ (NV I hg hm boot_zip (nO (thn (ha pos pins s σ H _ I h) λus s1 ⟨vs,H1,I1,r1,q1⟩=>?_) (by rw[hs,hs2]) (by rw[hs2];rfl)))
 obtain⟨k,a',m,b',e,⟨xs,hq⟩,⟨ys,hr⟩,q⟩:=q1
 subst e
 obtain⟨u,v,rfl,ru,rv⟩:=r1.two
 cases (show u=kD a' from ru)
 cases (show v=kD b' from rv)
 obtain⟨i1,v1,p1⟩:=I1.sqB hq
 obtain⟨i2,v2,p2⟩:=I1.sqB hr
 refine Tj p1 p2 λh' oz oi ot q1 q2 kp=>uD (s:={s1 with heap:=h'}) oz ?_
 have sq:∀{q:kG} {d:jR} {is:kP jN},Mc s1.heap q d is->Mc h' q d is:=λ{q d is} x=>by
  cases q
  .exact(show s1.heap.IsList d is from x).at λo e=>kp _ o e
  .obtain⟨o,e,r⟩:=(show s1.heap.IsTuple d is from x)
   exact⟨o,kp _ o e,r⟩
 refine⟨s1.heap.objs.size+4,[s1.heap.objs.size+4,s1.heap.objs.size+2,s1.heap.objs.size+3,s1.heap.objs.size,s1.heap.objs.size+1],_,_,H1,rfl,I1.kept (t':=s1.toks) kp,
  Vc k a' m b' _ _ _ _ _ (zne s1.heap.objs.size),⟨oz,oi,⟨_,_,ot⟩,q1.jit (sq p1),q2.jit (sq p2)⟩,λc hc=>?_,q⟩
 simp only[jX,jt,kr]at hc
 have:s1.heap.objs.size<=c:=by rcases hc with rfl|rfl|rfl|rfl|rfl<;>first|exact ja _|exact Nat.le_add_right _ _
 exact I1.YE this (I1.hok.fresh this)
end
end L2
end
noncomputable section
namespace L2
open PySem PySem.Spec PyProof.Rows
section
variable{prog:js}{w:j6}{A:kK}{E:jN->jQ->Prop}{s:jQ}
theorem IsList.Q8{h h':j0}{a:jR}{items:kP jN}(p:h.IsList a items)(k:∀o,h.get? a=Gc o->h'.get? a=Gc o):h'.IsList a items:=by
 obtain⟨o,ho,r⟩:=p
 exact⟨o,k o ho,r⟩
theorem PC{it t:jR}{items:kP jN}(hne:t≠it):∀(n i:Nat) (s:jQ) (Q:Wp jN->jQ->Prop),s.heap.IsListIter it t i->s.heap.IsList t items->i+n<=items.size->(∀h',h'.IsListIter it t (i+n)->oP it s.heap h'->Q ((items.toList.drop i).take n) {s with heap:=h'})->wpAny (model prog w) A (draw (.ref it) n) Q E s
 |0,i,s,Q,hit,_,_,hQ=>by
  show wpAny _ _ (pure []) Q E s
  exact jZ (by simpa using hQ s.heap hit (zQ ..))
 |n+1,i,s,Q,hit,ht,hle,hQ=>by
  have hlt:i<items.size:=by lia
  show wpAny _ _ (pyNext (.ref it) >>= _) Q E s
  refine jM (oS hit ht (x:=items[i]) (by simp[hlt]) λh1 hit1 hs1=>?_)
  refine jM (kj (PC hne n (i+1) _ _ hit1 (IsList.Q8 ht λo e=>hs1.extBut t o hne e) (by lia) λh2 hit2 hs2=>jZ ?_))
  have hd:items.toList.drop i=items[i]::items.toList.drop (i+1):=by simp[kW,hlt]
  have:=hQ h2 (by rw[show i+(n+1)=i+1+n by lia];exact hit2) (hs1.trans hs2)
  rw[hd,List.take_succ_cons]at this
  exact this
theorem K5{t:jR}{items:kP jN}{Q:Wp jN->jQ->Prop}(hh:A.handled=none)(ht:s.heap.IsList t items)(hty:s.TypeIs (.ref t) "list")(hQ:∀h',qO s.heap.objs.size s.heap h'->Q items.toList {s with heap:=h'}):wpAny (model prog w) A (unpackItems (.ref t) items.size none) Q E s:=by
 have hlt:t≠s.heap.objs.size:=by obtain⟨o,ho,_⟩:=ht;exact kA (ji ho)
 unfold unpackItems
 refine jM ?_
 .unfold notIterableAtAll
  refine jM (wpAny_specialOf hty F.slot_list_iter.lookup ?_)
  refine jZ ?_
  simp only[sS,pv]
  refine jM (kj (lZ ht ?_))
  refine jM (kj (PC hlt items.size 0 _ _ ⟨_,jx _ rfl,rfl,rfl⟩ (IsList.Q8 ht λo e=>jP _ e) (by lia) λh1 hit1 hs1=>?_))
  have hall:uE items.size (vh 0 items.toList)=items.toList:=by
   rw[List.drop_zero];exact l7 (by simp)
  rw[hall]
  rw[kC (by simp)]
  have ht1:h1.IsList t items:=IsList.Q8 (IsList.Q8 ht λo e=>jP _ e) λo e=>hs1.extBut t o hlt e
  refine jM (kj (oq hh hit1 ht1 (by simp) λh2 he2=>?_))
  simp only[Option.isSome_none,sS,pv]
  refine jZ (hQ h2 λb o hb e=>he2 b o hb (hs1.extBut b o hb (jP _ e)))
theorem KU{env:Env}{elts:Wp j4}{x1}{pos:Pos}{t:jR}{items:kP jN}{Q:Unit->jQ->Prop}(hh:A.handled=none)(ht:s.heap.IsList t items)(hty:s.TypeIs (.ref t) "list")(hn:(assignEach elts env).length=items.size)(hstar:(assignEach elts env).findIdx? (·.1)=none)(h:∀h',qO s.heap.objs.size s.heap h'->wpAny (model prog w) A (assignInOrder ((assignEach elts env).map (·.2)) items.toList) Q E {s with heap:=h'}):wpAny (model prog w) A (assign (.Tuple elts x1 pos) env (.ref t)) Q E s:=by
 rw[vE]
 refine jM (l8 ?_)
 unfold unpack
 rw[hn,hstar]
 exact jM (kj (K5 hh ht hty h))
end
section
variable{X:Cx}{pos:Pos}
noncomputable def iQ(K:W1)(n:Nat)(t:TGs):TG:=λv σ H Q=>∃a xs,v=.ref a/\(SqT K H a xs\/H a=Gc (.lst xs))/\xs.length=n/\t xs σ H Q
theorem aZ{es:Wp j4}{k:Nat}{t:TGs}{n:Nat}(hc:X.calm=true)(h:PGs X es t)(hn:(assignEach es X.env).length=n:=by rfl)(hst:(assignEach es X.env).findIdx? (·.1)=none:=by rfl):PG X (.Tuple es k pos) (iQ X.K n t):=by
 intro pins s σ H v u Q I r hw
 obtain⟨a,xs,e1,hq,hl,hw⟩:=hw
 rcases hq with hq|hq
 .exact Zn hc h hn hst pins s σ H v u Q I r ⟨a,xs,e1,hq,hl,hw⟩
 .subst e1
  cases r
  obtain⟨its,rv,p,hz⟩:=I.list (SqL.of hq)
  obtain⟨z,its2,m,rv2,_,e⟩:=I.WM hq
  refine KU (I.ok.hd hc) p.isList ⟨_,e,rfl⟩ (by simp[hn,<-hl,rv.length]) hst λh' hx=>?_
  have I1:Inv X pins σ H {s with heap:=h'}:=I.kept (t':=s.toks) λb o e=>hx b o (kA (ji e)) e
  exact h pins _ σ H xs _ Q I1 (by simpa using rv) hw
end
end L2
end
noncomputable section
namespace L2
open PySem PySem.Spec PyProof.Rows
theorem JIt.live{h:j0}{k:kG}{j l:jR}{i:Nat}(q:JIt h k j l i):∃o,h.get? j=Gc o/\∀v,o.data≠.cell v:=by
 cases k with
 |true=>obtain⟨o,e,c,d⟩:=q;exact⟨o,e,λv z=>by rw[d]at z;cases z⟩
 |false=>obtain⟨o,e,c,d⟩:=q;exact⟨o,e,λv z=>by rw[d]at z;cases z⟩
theorem Mc.mono{h h':j0}{k:kG}{l:jR}{its:kP jN}(q:Mc h k l its)(e:∀o,h.get? l=Gc o->h'.get? l=Gc o):Mc h' k l its:=by
 cases k with
 |true=>obtain⟨o,ho,r⟩:=q;exact⟨o,e o ho,r⟩
 |false=>obtain⟨o,ho,r⟩:=q;exact⟨o,e o ho,r⟩
theorem UJ{prog:js}{w:j6}{A:kK}(hh:A.handled=none)(it t:jR)(hne:t≠it)(items:kP jN):Draws prog w A it [it,t] items.size (λi v=>items[i]?=Gc v) (λi h=>SIt h it t i items) where
 live:=λ_ _ st=>let⟨o,ho,_⟩:=st.live;⟨o,ho⟩
 frame:=λ_ _ _ st hk=>st.at (λo e=>hk it (by simp) o e) λo e=>hk t (by simp) o e
 item:=λi s Q E hi st hQ=>LB st (x:=items[i]) (by simp[hi]) λh' a b=>hQ _ h' s.toks (by simp[hi]) a b
 done:=λs Q E st hE=>LJ hh st (by simp) hE
noncomputable def ItE(K:W1)(kk:kG)(a:jR):It:=
 ⟨λi H=>∃xs x,SqB K H kk a xs/\xs[i]?=Gc x,λi H x H'=>∃p y,H p=none/\x=.ref p/\(∀xs,SqB K H kk a xs->xs[i]?=Gc y)/\H'=upd H p (.tup [.int i,y]),λi H=>∃xs,SqB K H kk a xs/\xs.length<=i⟩
theorem RZ{P:js}{w:j6}{K:W1}{elts:Wp j4}{k:Nat}{pos:Pos}(kk:kG)(a e it:jR)(hei:e≠it):Turn P w K (.Tuple elts k pos) (ItE K kk a) [e,it] e (λi h=>(∃old,IsEnum h e it i old)/\JIt h kk it a i) where
 mem:=by simp
 obj:=λi h st b hb=>by
  obtain⟨⟨old,h1⟩,st2⟩:=st
  obtain⟨o,h2,h4⟩:=st2.live
  simp only[jX,jt,kr]at hb
  rcases hb with rfl|rfl
  .exact⟨_,h1,λv z=>nomatch z⟩
  .exact⟨o,h2,h4⟩
 keep:=λi h h' st k=>by
  obtain⟨⟨old,h1⟩,h2⟩:=st
  exact⟨⟨old,k e (by simp) _ h1⟩,h2.at λo q=>k it (by simp) o q⟩
 item:=by
  intro X hP hw hK hc i pins s σ H E I hf st hg
  subst hP hw hK
  obtain⟨xs,x,hq,hx⟩:=hg
  obtain⟨its,rv,p⟩:=I.sqB hq
  obtain⟨u,hu,ru⟩:=rv.get hx
  obtain⟨⟨old,h1⟩,h2⟩:=st
  obtain⟨oi,hi1,hi2⟩:=h2.live
  have hea:a≠e:=Bg I hq (hf e (by simp))
  have hia:a≠it:=Bg I hq (hf it (by simp))
  have hil:i<its.toArray.size:=by
   have:=(jb.mp hu).1
   simpa using this
  have hh:X.A.in1.handled=none:=I.ok.hd hc
  have D:=UJ (prog:=X.prog) (w:=X.w) hh it a hia its.toArray
  refine wpAny_pyNext_enum_itemD D h1 (h2.sit p) hil hei (by simp[hei,kZ hea]) ?_
  intro y h' tk hy out st' tup size kept
  have ey:y=u:=by
   have:its[i]?=Gc y:=by simpa using hy
   rw[hu]at this
   exact(kg this).symm
  subst ey
  refine⟨_,rfl,wpAny_letOwnedTupleGo_enum out λh'' en sb=>?_⟩
  have hfe:=hf e (by simp)
  have hfi:=hf it (by simp)
  have lt:∀b o,s.heap.get? b=Gc o->b≠s.heap.objs.size:=λb o q=>kA (ji q)
  have kept2:∀b o,b≠e->b≠it->s.heap.get? b=Gc o->h''.get? b=Gc o:=λb o b1 b2 q=>(sb.2 b b1).trans (kept b o b1 b2 q)
  have fr:H s.heap.objs.size=none:=I.hok.fresh (ja _)
  have tup2:h''.get? s.heap.objs.size=Gc {cls:=.type "tuple",data:=.seq #[.int i tk,y]}:=(sb.2 _ (kZ (lt e _ h1))).trans tup
  have ne1:∀b u,H b=Gc u->b≠e:=λb u q z=>by rw[z,hfe.1]at q;cases q
  have ne2:∀b u,H b=Gc u->b≠it:=λb u q z=>by rw[z,hfi.1]at q;cases q
  refine⟨.ref s.heap.objs.size,upd H s.heap.objs.size (.tup [.int i,x]),?_,rfl,⟨_,x,fr,rfl,λys hys=>by rw[I.Pq hys hq];exact hx,rfl⟩,⟨⟨y,en⟩,?_⟩,?_⟩
  .show Inv X pins σ _ {s with heap:=h'',gens:=s.gens,drawn:=s.drawn,toks:=tk+1}
   refine I.step (g':=s.gens) (d':=s.drawn) (ch:=[e,it]) ?_ ?_ ?_ ?_ ?_ ?_ ?_ ?_ ?_ ?_ I.bare
   .intro b hb
    simp only[jX,jt,kr]at hb
    rcases hb with rfl|rfl
    .exact⟨hfe.2.2.2.1,hfe.2.1,hfe.2.2.2.2.1,hfe.2.2.2.2.2⟩
    .exact⟨hfi.2.2.2.1,hfi.2.1,hfi.2.2.2.2.1,hfi.2.2.2.2.2⟩
   .exact λb o _ _ hc q _=>kept2 b o (λz=>hc (by simp[z])) (λz=>hc (by simp[z])) q
   .exact λb o _ _ hc q _=>⟨o.slots,kept2 b o (λz=>hc (by simp[z])) (λz=>hc (by simp[z])) q⟩
   .exact λb o _ q n=>by rw[AZ (lt b o q)];exact n
   .exact λb o hc q=>⟨o,kept2 b o (λz=>hc (by simp[z])) (λz=>hc (by simp[z])) q⟩
   .exact λb ys q=>by rw[AZ (BY q fr)];exact q
   .exact λb o u q=>by rw[AZ (BY q fr)];exact q
   .exact λb ps q=>⟨#[],by rw[AZ (BY q fr),q];simp⟩
   .rintro m ⟨o,es,ep,ho,r⟩
    exact⟨o,es,ep,kept2 _ o (kZ hfe.2.1) (kZ hfi.2.1) ho,r⟩
   .intro b v q
    by_cases hb:b=s.heap.objs.size
    .subst hb
     rw[BR]at q
     cases q
     exact⟨by show 2<=sizeLine;decide,[.int i tk,y],.cons ⟨tk,rfl⟩ (.cons ru .nil),⟨_,tup2,rfl,0,rfl⟩⟩
    .rw[AZ hb]at q
     refine(I.hok b v q).Rn (λc z hc r=>kept2 c z ?_ ?_ r) (λc r=>by rw[AZ (BY r fr)];exact r) (λc ys r=>by rw[AZ (BY r fr)];exact r)
     .rcases hc with z|z
      .rw[z];exact ne1 b v q
      .exact ne1 c _ z
     .rcases hc with z|z
      .rw[z];exact ne2 b v q
      .exact ne2 c _ z
  .have pa:Mc h'' kk a its.toArray:=p.mono λo q=>kept2 a o hea hia q
   exact(st'.at (λo q=>(sb.2 it (kZ hei)).trans q) λo q=>(sb.2 a hea).trans q).jit pa
  .intro b hb
   simp only[jX,jt,kr]at hb
   rcases hb with rfl|rfl
   .rw[AZ (lt b _ h1)];exact hfe.1
   .rw[AZ (lt b _ hi1)];exact hfi.1
 done:=by
  intro X hP hw hK hc i pins s σ H E I hf st hg
  subst hP hw hK
  obtain⟨xs,hq,hx⟩:=hg
  obtain⟨its,rv,p⟩:=I.sqB hq
  obtain⟨⟨old,h1⟩,h2⟩:=st
  have hl:=rv.length
  have hh:X.A.in1.handled=none:=I.ok.hd hc
  obtain⟨f0,f1,f2,f3,f4,f5⟩:=hf it (by simp)
  have D:Draws X.prog X.w X.A.in1 it [it,a] i (λ_ _=>sJ) (λj h=>j=i/\SIt h it a i its.toArray):=
   {live:=λ_ _ st=>let⟨o,ho,_⟩:=st.2.live;⟨o,ho⟩
    frame:=λ_ _ _ st hk=>⟨st.1,st.2.at (λo e=>hk it (by simp) o e) λo e=>hk a (by simp) o e⟩
    item:=λj s Q E hj st _=>absurd st.1 (kA hj)
    done:=λs Q E st hE=>LJ hh st.2 (by simp;lia) hE}
  exact wpAny_pyNext_enum_endD D h1 ⟨rfl,h2.sit p⟩ λh' eb=>⟨rfl,I.turned (t':=s.toks) (λb o hb q=>eb b o hb q) f0 f1 f3 f4 f5⟩
 self:=λ_ _ _ _ _ st h=>by
  obtain⟨⟨old,h1⟩,_⟩:=st
  exact tQ h1 h
section
variable{X:Cx}
noncomputable def Zo(K:W1)(ta:TA):TI:=λσ H R=>ta σ H λvs H1=>∃kk a,vs=[.ref a]/\(∃xs,SqB K H1 kk a xs)/\R (ItE K kk a) H1
theorem Vo{a:j4}{ta:TA}{p pos tp:Pos}{elts:Wp j4}{k:Nat}(hg:Gl X "enumerate")(hm:X.mg "enumerate"=none)(ha:PA X [a] ta)(hs:ju [a] X.env=[(false,eval a X.env)]:=by rfl):PI X (.Tuple elts k tp) (.Call (.Name "enumerate" p) [a] [] pos) (Zo X.K ta):=by
 intro pins s σ H R I h
 refine Call_ (NV I hg hm boot_enumerate (callWith_type1 (thn (ha pos pins s σ H _ I h) λus s1 ⟨vs,H1,I1,r1,q1⟩=>?_) hs rfl))
 obtain⟨kk,b,e,⟨xs,hq⟩,q⟩:=q1
 subst e
 obtain⟨u,rfl,ru⟩:=r1.one
 cases (show u=kD b from ru)
 obtain⟨its,rv,pt⟩:=I1.sqB hq
 have fin:∀h':j0,IsEnum h' (s1.heap.objs.size+1) s1.heap.objs.size 0 .none->JIt h' kk s1.heap.objs.size b 0->(∀b o,s1.heap.get? b=Gc o->h'.get? b=Gc o)->wpAny (model X.prog X.w) X.A (pyIter (.ref (s1.heap.objs.size+1))) (PIE X pins σ (.Tuple elts k tp) R) X.xe {s1 with heap:=h'}:=λh' en it kp=>by
  refine tQ (s:={s1 with heap:=h'}) en ?_
  refine⟨s1.heap.objs.size+1,[s1.heap.objs.size+1,s1.heap.objs.size],_,_,H1,rfl,I1.kept (t':=s1.toks) kp,RZ kk b (s1.heap.objs.size+1) s1.heap.objs.size (Nat.succ_ne_self _),⟨⟨_,en⟩,it⟩,λc hc=>?_,q⟩
  simp only[jX,jt,kr]at hc
  rcases hc with rfl|rfl
  .exact I1.YE (by lia) (I1.hok.fresh (by lia))
  .exact I1.YE (ja _) (I1.hok.fresh (ja _))
 cases kk with
 |true=>exact RV (show s1.heap.IsTuple b its.toArray from pt) λh' en it kp=>fin h' en it kp
 |false=>exact call_enumerate_list (show s1.heap.IsList b its.toArray from pt) λh' en it _ kp=>fin h' en it kp
end
end L2
end
noncomputable section
namespace St
open PySem PySem.Spec L2 PyProof.Rows
inductive Kd where
 |non|bl|int|str|tup|lst|dct
 deriving xD
noncomputable def Kd.ty:Kd->lx
 | .non=>"NoneType" | .bl=>"bool" | .int=>"int" | .str=>"str" | .tup=>"tuple" | .lst=>"list" | .dct=>"dict"
noncomputable def Kd.isA:Kd->lx->kG
 | .bl,"bool"=>true| .bl,"int"=>true| .int,"int"=>true| .str,"str"=>true| .tup,"tuple"=>true| .lst,"list"=>true| .dct,"dict"=>true
 |_,_=>false
section
variable{K:W1}
theorem Xc(k:Kd):mD K (.type k.ty) (.type "int")=Gc (k.isA "int"):=by
 cases k<;>first|rfl|(unfold mD;rfl)
theorem Vj(k:Kd):mD K (.type k.ty) (.type "bool")=Gc (k.isA "bool"):=by
 cases k<;>rfl
theorem kit_tuple(k:Kd):mD K (.type k.ty) (.type "tuple")=Gc (k.isA "tuple"):=by
 cases k<;>rfl
theorem X7(k:Kd):mD K (.type k.ty) (.type "str")=Gc (k.isA "str"):=by
 cases k<;>rfl
end
structure Dfn(P:js)(w:j6)(K:W1)(mg:Str->jO jN)(base:j0)(x:Str)(k:Nat)(ps:Wp Str)(sp:Sp):Prop where
 ex:∃f fd,mg x=Gc (.ref f)/\lL K (.ref f)=true/\Binds K fd ps []/\MU P w K mg base CX0 k f fd ps sp
structure Src(K:W1)(mg:Str->jO jN)(x:Str)(st:kE):Prop where
 ex:∃f fd,Fun K x x st f fd/\mg x=Gc (.ref f)
theorem dH{X:Cx}{k:Nat}{x:Str}{ps:Wp Str}{sp:Sp}{e:j4}{es:Wp j4}{t:TA}{p pos:Pos}(d:Dfn X.prog X.w X.K X.mg X.base x k ps sp)(hr:JX k X.A)(hg:Gl X x)(ha:PA X (e::es) t)(hdb:(x==("__debug__":Str))=false:=by decide)(he:ju (e::es) X.env=(false,eval e X.env)::ju es X.env:=by rfl)(hpl:(backTo pos (ju es X.env)).any (·.1)=false:=by rfl):PE X (.Call (.Name x p) (e::es) [] pos) (X3 sp [] E0 t):=by
 obtain⟨f,fd,a,b,c,F⟩:=d.ex
 exact Wk F hr hg a b c .nil eX ha hdb he hpl
section
variable{X:Cx}
theorem W9{n:Nat}(h:n<2^8000):n.log2<9000:=by
 by_cases h0:n=0
 .subst h0;decide
 .exact wK ((xW h0).mpr h) (by decide)
theorem Vp:OpR X (binaryOp .FloorDiv) (rI (λ_ j=>0<j/\j.natAbs<2^8000) λi j=>.int (i / j)):=opI λi j _ _ _ _ _ hc q=>by
 have h1:(0:Int)<j:=hc.1
 exact floordiv_int (by lia) (by rw[Int.fdiv_eq_ediv_of_nonneg i (by lia)];exact q) (.inl (PyProof.noPylong_of_log2 (W9 hc.2)))
theorem Rg{prog:js}{w:j6}{A:kK}(hh:A.handled=none){a it:jR}(hne:a≠it){vs:Wp jN}:Walks prog w A it [it,a] [it] vs.length (λi v=>vs[i]?=Gc v) (λi h=>h.IsListIter it a i/\h.IsList a vs.toArray) where
 sub:=λb hb=>by simp at hb;simp[hb]
 frame:=λi h h' st k=>⟨st.1.at λo e=>k it (by simp) o e,by
  obtain⟨o,ho,r⟩:=st.2
  exact⟨o,k a (by simp) o ho,r⟩⟩
 item:=λi s Q E hi st hQ=>by
  refine oS st.1 st.2 (x:=vs[i]) (by simp[hi]) λh' st' sb=>?_
  refine hQ _ h' s.toks (by simp[hi]) ⟨st',?_⟩ λb o hb e=>(sb.2 b (by simpa using hb)).trans e
  obtain⟨o,ho,r⟩:=st.2
  exact⟨o,(sb.2 a hne).trans ho,r⟩
 done:=λs Q E st hQ=>oq hh st.1 st.2 (by simp) λh' eb=>hQ h' s.toks λb o hb e=>eb b o (by simpa using hb) e
 self:=λi s Q E st hQ=>qy st.1 hQ
theorem Uw{ns:Wp Int}{j:Nat}(h:j<ns.length):(ns.take (j+1)).sum=(ns.take j).sum+ns.getD j 0:=by
 have e:ns.getD j 0=ns[j]:=by simp[jy,jS h]
 rw[um,jS h,List.sum_append,e]
 show _+(ns[j]+0)=_
 lia
theorem MP{ns:Wp Int}:∀{j:Nat},j<=ns.length->preSum (λi=>ns.getD i 0) j=(ns.take j).sum
 |0,_=>by simp[preSum]
 |j+1,h=>by
  rw[preSum,MP (by lia),Uw (by lia)]
theorem SO{ns:Wp Int}(h:∀n∈ns,0<=n/\n<=1000000):0<=ns.sum/\ns.sum<=1000000*ns.length:=by
 induction ns with
 |nil=>simp
 |cons a l ih=>
  have h1:=h a (by simp)
  have h2:=ih λn hn=>h n (by simp[hn])
  rw[nI,mB]
  have:((l.length+1:Nat):Int)=(l.length:Int)+1:=by lia
  lia
end
section
variable{prog:js}{w:j6}{A:kK}{E:jN->jQ->Prop}{s:jQ}
theorem J9{t sl:jR}{items:kP jN}{vl vu:jN}{lo hi:jO Int}{Q:jN->jQ->Prop}(ht:xF s.heap t items)(hs:s.heap.IsSliceOf sl vl vu .none)(pl:qk vl lo)(pu:qk vu hi)(hw:HT.sIx items.size 0 lo=0/\HT.sIx items.size items.size hi=items.size)(h:Q (.ref t) s):wpAny (model prog w) A (getItem (.ref t) (.ref sl)) Q E s:=by
 obtain⟨os,hos,hcs,hds⟩:=id hs
 have hTs:s.TypeIs (.ref sl) "slice":=⟨os,hos,hcs⟩
 unfold getItem
 try with_reducible refine kj ?_
 first|refine jM (jZ ?_)|skip
 refine jM (tF ht.typeIs (by decide) ?_)
 refine jM (lF (name:=lD "__getitem__") ht.typeIs kT
  (lQ kT ht.typeIs rX ?_ (sP _ _)))
 show wpAny _ _ (p0 (.ref t) >>= _) _ _ s
 refine jM (vR ht ?_)
 refine jM (ql hTs ?_)
 rw[kJ (by decide)]
 refine jM (HT.HV hs pl pu ?_)
 show wpAny _ _ (if(((HT.sIx items.size 0 lo:Nat):Int)==0 && (1:Int)==1 && (HT.sIx items.size items.size hi-HT.sIx items.size 0 lo)==items.size)=true then _ else _) _ _ s
 rw[kJ (by rw[hw.1,hw.2];simp)]
 unfold uo
 refine jM (jM (ql ht.typeIs (jZ ?_)))
 rw[kJ (by decide)]
 exact jM (qh (jZ ⟨_,rfl,jZ h⟩))
end
section
variable{X:Cx}
def gT(K:W1):V->jO Int->jO Int->Hp->VK->Prop:=λx lo hi H Q=>∃a xs,x=.ref a/\SqT K H a xs/\HT.sIx xs.length 0 lo=0/\HT.sIx xs.length xs.length hi=xs.length/\Q x H
theorem Y9:SlR X (gT X.K):=by
 intro pins s σ H x v vl vu lo hi sl Q I rx hs pl pu h
 obtain⟨a,xs,rfl,hx,h1,h2,q⟩:=h
 cases rx
 obtain⟨its,r,ht,hz⟩:=I.tuple hx
 have hlen:its.toArray.size=xs.length:=by rw[jd];exact r.length.symm
 refine⟨"tuple",_,kT.lookup,ht.typeIs,?_⟩
 exact J9 ht hs pl pu (by rw[hlen];exact⟨h1,h2⟩) ⟨.ref a,H,I,rfl,q⟩
noncomputable def dh(K:W1):R2:=λx y H Q=>∃a b ys,x=.ref a/\y=.ref b/\SqT K H a []/\SqT K H b ys/\Q (.ref b) H
theorem XQ:OpR X (binaryOp .Add) (dh X.K):=by
 intro pins s σ H x y v u Q I rx ry h
 obtain⟨a,b,ys,rfl,rfl,ha,hb,q⟩:=h
 cases rx
 cases ry
 obtain⟨its,r1,p1,_⟩:=I.tuple ha
 obtain⟨its2,r2,p2,_⟩:=I.tuple hb
 have e0:its=[]:=r1.N1.mpr rfl
 subst e0
 obtain⟨⟨cls,dd,data,sl⟩,ho,hc,n,hd⟩:=id p1
 obtain⟨⟨cls2,dd2,data2,sl2⟩,ho2,hc2,n2,hd2⟩:=id p2
 simp only at hc hd hc2 hd2
 subst hc hd hc2 hd2
 exact tE ⟨_,ho,rfl⟩ ⟨_,ho2,rfl⟩ qe sC oX oN (nv _ _)
  (tuple_addW0 a b #[] its2.toArray n n2 dd dd2 sl sl2 rfl) ⟨ho,ho2,⟨.ref b,H,I,rfl,q⟩⟩
end
end St
end
noncomputable section
namespace Mi
open PySem PySem.Spec L2
inductive D where
 |non|bl (b:kG)|int (i:Int)|str (x:Str)|ty (n:lx)|tup (ds:Wp D)|lst (ds:Wp D)|dct (kvs:Wp (Key×D))|scr (ns:Wp Int)|ref (n:Nat)
inductive Wv where
 |val (d:D)|own (ds:Wp D)
inductive Cl where
 |lst (ds:Wp D)|dct (kvs:Wp (Key×D))|tab (x:Str)
abbrev Sto:=Wp Cl
structure Ms where
 cel:Wp jR
 tmp:Wp jR
def Ms.mem(M:Ms)(a:jR):Prop:=a∈M.cel\/a∈M.tmp
noncomputable def Ms.no:Ms:=⟨[],[]⟩
theorem Ms.WA{a:jR}:¬Ms.no.mem a:=λz=>z.elim (λz=>by cases z) λz=>by cases z
def KL(K:W1)(a:jR)(xs:Wp V):Prop:=∃(o:Obj) (its:kP jN) (n:Nat),K.lookup a=Gc o/\o.cls=.type "list" /\o.dict=none/\o.data=.seq its n/\its.size<=sizeLine/\Vals xs its.toList
mutual
inductive EA(K:W1)(M:Ms)(H:Hp):V->D->Prop
 |non:EA K M H .non .non
 |bl (b:kG):EA K M H (.bl b) (.bl b)
 |int (i:Int):EA K M H (.int i) (.int i)
 |str (x:Str):EA K M H (.str x) (.str x)
 |ty (n:lx):EA K M H (.ty n) (.ty n)
 |tup {a:jR} {xs:Wp V} {ds:Wp D} (h:SqT K H a xs) (r:Al K M H xs ds):EA K M H (.ref a) (.tup ds)
 |lst {a:jR} {xs:Wp V} {ds:Wp D} (h:H a=Gc (.lst xs)) (n:¬M.mem a) (r:Al K M H xs ds):EA K M H (.ref a) (.lst ds)
 |scr {a:jR} {ns:Wp Int} (h:(Rd H a (.lst (ns.map V.int))/\¬M.mem a)\/KL K a (ns.map V.int)):EA K M H (.ref a) (.scr ns)
 |dct {a:jR} {kvs:Wp (Key×V)} {es:Wp (Key×D)} (h:H a=Gc (.dK kvs)) (n:¬M.mem a) (r:K6 K M H kvs es):EA K M H (.ref a) (.dct es)
 |ref {a:jR} {n:Nat} (h:M.cel[n]?=Gc a):EA K M H (.ref a) (.ref n)
inductive Al(K:W1)(M:Ms)(H:Hp):Wp V->Wp D->Prop
 |nil:Al K M H [] []
 |cons {v:V} {d:D} {vs:Wp V} {ds:Wp D} (h:EA K M H v d) (t:Al K M H vs ds):Al K M H (v::vs) (d::ds)
inductive K6(K:W1)(M:Ms)(H:Hp):Wp (Key×V)->Wp (Key×D)->Prop
 |nil:K6 K M H [] []
 |cons {k:Key} {v:V} {d:D} {vs:Wp (Key×V)} {ds:Wp (Key×D)} (h:EA K M H v d) (t:K6 K M H vs ds):K6 K M H ((k,v)::vs) ((k,d)::ds)
end
def MOk(M:Ms)(H:Hp):Prop:=∀a,M.mem a->(∃xs,H a=Gc (.lst xs))\/(∃kvs,H a=Gc (.dK kvs))\/∃ps,H a=Gc (.tbl ps)
structure Sp1(M:Ms)(H:Hp)(M':Ms)(H':Hp):Prop where
 mo:MOk M H
 pre:M.cel <+: M'.cel
 fresh:∀a,M'.mem a->M.mem a\/H a=none
 keep:∀a o,H a=Gc o->¬M.mem a->H' a=Gc o
structure Gr(M:Ms)(H:Hp)(M':Ms)(H':Hp):Prop where
 mo:MOk M H
 pre:M.cel <+: M'.cel
 tmp:M'.tmp=M.tmp
 fresh:∀a,a∈M'.cel->a∈M.cel\/H a=none
 keep:∀a o,H a=Gc o->a∉M.cel->H' a=Gc o
 some:∀a,H a≠none->H' a≠none
section
variable{K:W1}{M M' M2:Ms}{H H' H2:Hp}
theorem MOk.some(mo:MOk M H){a:jR}(h:M.mem a):H a≠none:=λz=>by
 rcases mo a h with⟨xs,e⟩|⟨xs,e⟩|⟨xs,e⟩<;>(rw[e]at z;cases z)
theorem Gr.st(g:Gr M H M' H'):Sp1 M H M' H':=⟨g.mo,g.pre,λa z=>z.elim (λz=>(g.fresh a z).imp .inl id) λz=>.inl (.inr (by rw[<-g.tmp];exact z)),λa o e n=>g.keep a o e λz=>n (.inl z)⟩
theorem Gr.refl(mo:MOk M H):Gr M H M H:=⟨mo,lO,rfl,λ_ z=>.inl z,λ_ _ e _=>e,λ_ e=>e⟩
theorem Gr.none(g:Gr M H M' H'){a:jR}(h:H' a=none):H a=none:=by
 cases e:H a with
 |none=>rfl
 |some o=>exact absurd h (g.some a (by rw[e];intro z;cases z))
theorem Gr.trans(h:Gr M H M' H')(g:Gr M' H' M2 H2):Gr M H M2 H2:=
 ⟨h.mo,h.pre.trans g.pre,g.tmp.trans h.tmp,λa z=>(g.fresh a z).elim (h.fresh a) λz=>.inr (h.none z),λa o e n=>g.keep a o (h.keep a o e n) (λz=>by
   rcases h.fresh a z with z|z
   .exact n z
   .rw[e]at z;cases z),λa e=>g.some a (h.some a e)⟩
theorem Gr.grow(mo:MOk M H)(k:∀a o,H a=Gc o->H' a=Gc o):Gr M H M H':=
 ⟨mo,lO,rfl,λ_ z=>.inl z,λb u eb _=>k b u eb,λb eb z=>by
   cases h:H b with
   |none=>exact eb h
   |some o=>rw[k b o h]at z;cases z⟩
theorem Ng{α:Type}{xs ys:Wp α}(h:xs <+: ys){n:Nat}{a:α}(e:xs[n]?=Gc a):ys[n]?=Gc a:=by
 obtain⟨zs,rfl⟩:=h
 rw[jT (jb.mp e).1]
 exact e
theorem VC{a:jR}{xs:Wp V}(h:SqT K H a xs)(k:∀b o,H b=Gc o->(∀ys,o≠.lst ys)->(∀ys,o≠.dK ys)->(∀ys,o≠.tbl ys)->H' b=Gc o):SqT K H' a xs:=by
 rcases h with h|h
 .rcases h with h|⟨o,h⟩
  .exact .inl (.inl (k _ _ h (λys z=>by cases z) (λys z=>by cases z) λys z=>by cases z))
  .exact .inl (.inr ⟨o,k _ _ h (λys z=>by cases z) (λys z=>by cases z) λys z=>by cases z⟩)
 .exact .inr h
theorem Sp1.sqT(g:Sp1 M H M' H'){a:jR}{xs:Wp V}(h:SqT K H a xs):SqT K H' a xs:=VC h λb o e n1 n2 n3=>g.keep b o e λz=>by
 rcases g.mo b z with⟨ys,q⟩|⟨ys,q⟩|⟨ys,q⟩
 .exact n1 ys (kg (e.symm.trans q))
 .exact n2 ys (kg (e.symm.trans q))
 .exact n3 ys (kg (e.symm.trans q))
theorem Sp1.nm(g:Sp1 M H M' H'){a:jR}{o:HO}(e:H a=Gc o)(n:¬M.mem a):¬M'.mem a:=λz=>by
 rcases g.fresh _ z with z|z
 .exact n z
 .rw[z]at e;cases e
theorem EA.step(g:Sp1 M H M' H'){v:V}{d:D}(h:EA K M H v d):EA K M' H' v d:=
 EA.rec (motive_1:=λv d _=>EA K M' H' v d) (motive_2:=λv d _=>Al K M' H' v d) (motive_3:=λv d _=>K6 K M' H' v d) .non .bl .int .str .ty (λh _ r=>.tup (g.sqT h) r) (λh n _ r=>.lst (g.keep _ _ h n) (g.nm h n) r) (λh=>by
  rcases h with⟨h,n⟩|h
  .rcases h with h|⟨o,h⟩
   .exact .scr (.inl ⟨.inl (g.keep _ _ h n),g.nm h n⟩)
   .exact .scr (.inl ⟨.inr ⟨o,g.keep _ _ h n⟩,g.nm h n⟩)
  .exact .scr (.inr h)) (λh n _ r=>.dct (g.keep _ _ h n) (g.nm h n) r) (λh=>.ref (Ng g.pre h)) .nil (λ_ _ h t=>.cons h t) .nil (λ_ _ h t=>.cons h t) h
theorem Al.ind{P:Wp V->Wp D->Prop}(n:P [] [])(c:∀{v:V} {d:D} {vs:Wp V} {ds:Wp D},EA K M H v d->P vs ds->P (v::vs) (d::ds)){vs:Wp V}{ds:Wp D}(h:Al K M H vs ds):P vs ds:=
 Al.rec (motive_1:=λ_ _ _=>sJ) (motive_2:=λv d _=>P v d) (motive_3:=λ_ _ _=>sJ) trivial (λ_=>trivial) (λ_=>trivial) (λ_=>trivial) (λ_=>trivial) (λ_ _ _=>trivial) (λ_ _ _ _=>trivial) (λ_=>trivial) (λ_ _ _ _=>trivial) (λ_=>trivial) n (λh _ _ t=>c h t) trivial (λ_ _ _ _=>trivial) h
theorem K6.ind{P:Wp (Key×V)->Wp (Key×D)->Prop}(n:P [] [])(c:∀{k:Key} {v:V} {d:D} {vs:Wp (Key×V)} {ds:Wp (Key×D)},EA K M H v d->P vs ds->P ((k,v)::vs) ((k,d)::ds)){vs:Wp (Key×V)}{ds:Wp (Key×D)}(h:K6 K M H vs ds):P vs ds:=
 K6.rec (motive_1:=λ_ _ _=>sJ) (motive_2:=λ_ _ _=>sJ) (motive_3:=λv d _=>P v d) trivial (λ_=>trivial) (λ_=>trivial) (λ_=>trivial) (λ_=>trivial) (λ_ _ _=>trivial) (λ_ _ _ _=>trivial) (λ_=>trivial) (λ_ _ _ _=>trivial) (λ_=>trivial) trivial (λ_ _ _ _=>trivial) n (λh _ _ t=>c h t) h
theorem Al.step(g:Sp1 M H M' H'){v:Wp V}{d:Wp D}(h:Al K M H v d):Al K M' H' v d:=h.ind .nil λh t=>.cons (h.step g) t
theorem K6.step(g:Sp1 M H M' H'){v:Wp (Key×V)}{d:Wp (Key×D)}(h:K6 K M H v d):K6 K M' H' v d:=h.ind .nil λh t=>.cons (h.step g) t
theorem Al.length:∀{v:Wp V} {d:Wp D},Al K M H v d->v.length=d.length
 |_,_,.nil=>rfl
 |_,_,.cons _ t=>by simp[Al.length t]
theorem Al.get:∀{v:Wp V} {d:Wp D} {i:Nat} {y:D},Al K M H v d->d[i]?=Gc y->∃x,v[i]?=Gc x/\EA K M H x y
 |_,_,i,y,.nil,e=>by simp at e
 |_,_,0,y,.cons h t,e=>by simp at e;subst e;exact⟨_,rfl,h⟩
 |_,_,i+1,y,.cons h t,e=>by
  obtain⟨x,h1,h2⟩:=Al.get (i:=i) t (by simpa using e)
  exact⟨x,by simpa using h1,h2⟩
theorem Al.append:∀{v v':Wp V} {d d':Wp D},Al K M H v d->Al K M H v' d'->Al K M H (v++v') (d++d')
 |_,_,_,_,.nil,s=>s
 |_,_,_,_,.cons h t,s=>.cons h (Al.append t s)
theorem Al.take:∀{v:Wp V} {d:Wp D} (n:Nat),Al K M H v d->Al K M H (v.take n) (d.take n)
 |_,_,0,_=>.nil
 |_,_,_+1,.nil=>.nil
 |_,_,n+1,.cons h t=>.cons h (Al.take n t)
theorem Al.drop:∀{v:Wp V} {d:Wp D} (n:Nat),Al K M H v d->Al K M H (v.drop n) (d.drop n)
 |_,_,0,r=>r
 |_,_,_+1,.nil=>.nil
 |_,_,n+1,.cons _ t=>Al.drop n t
theorem Al.set{x:V}{y:D}(r:EA K M H x y):∀{v:Wp V} {d:Wp D} (i:Nat),Al K M H v d->Al K M H (v.set i x) (d.set i y)
 |_,_,_,.nil=>.nil
 |_,_,0,.cons _ t=>.cons r t
 |_,_,i+1,.cons q t=>.cons q (Al.set r i t)
end
abbrev En:=Wp (jO D)
abbrev Sg:=Wp (jO V)
structure EnR(K:W1)(M:Ms)(E:En)(σ:Sg)(H:Hp):Prop where
 len:E.length=σ.length
 val:∀(i:Nat) (d:D),E[i]?=Gc (Gc d)->∃v,σ[i]?=Gc (Gc v)/\EA K M H v d
noncomputable def iK(x:Str):Str:=(x++(".<locals>.":Str))++("<lambda>":Str)
def YJ(K:W1)(c P:jR):Prop:=
 ∃o vs file tf flags tg inF text tt,K.lookup c=Gc o/\o.cls=sI "code" /\o.data=uI vs/\vs[11]?=Gc (kD P)/\vs.getD 11 kR=kD P/\vs.getD 18 kR=rW file tf/\vs.getD 7 kR=rT flags tg/\vs.getD 9 kR=sH inF/\vs.getD 10 kR=rT text tt/\c≠P
def TabAt(K:W1)(x:Str)(P:jR):Prop:=
 ∃f oc od fd osl c,kf K mainGlobals x=Gc (Gc (kD f))/\K.lookup f=Gc ⟨oc,od,Data.func fd,osl⟩/\fd.code=kD c/\YJ K c P
def ZY(q:Str)(o:Obj):Prop:=∃vs t,o.data=uI vs/\vs[1]?=Gc (rW q t)
structure Ve(K:W1)(H:Hp)(x:Str)(P:jR)(ps:kP jN):Prop where
 tri:PySem.TriplesOk ps.toList
 tat:TabAt K x P
 cod:∀pos cv,PySem.codeAmong pos ps.toList=Gc cv->∃c o,cv=kD c/\H c=Gc (.frz o (.own 0))/\ZY (iK x) o
theorem Ve.step{x:Str}{P:jR}{ps:kP jN}{K:W1}{M M':Ms}{H H':Hp}(t:Ve K H x P ps)(g:Sp1 M H M' H'):Ve K H' x P ps:=⟨t.tri,t.tat,λpos cv e=>by
 obtain⟨c,o,h1,h2,h3⟩:=t.cod pos cv e
 refine⟨c,o,h1,g.keep _ _ h2 λz=>?_,h3⟩
 rcases g.mo c z with⟨ys,q⟩|⟨ys,q⟩|⟨ys,q⟩<;>(rw[h2]at q;cases q)⟩
def cq(K:W1)(M:Ms)(H:Hp)(a:jR):Cl->Prop
 | .lst ds=>∃xs,H a=Gc (.lst xs)/\Al K M H xs ds
 | .dct es=>∃kvs,H a=Gc (.dK kvs)/\K6 K M H kvs es
 | .tab x=>∃ps,H a=Gc (.tbl ps)/\Ve K H x a ps
structure StR(K:W1)(M:Ms)(S:Sto)(H:Hp):Prop where
 mo:MOk M H
 nd:M.cel.Nodup
 nt:∀a∈M.tmp,a∉M.cel
 len:M.cel.length=S.length
 cell:∀(n:Nat) (a:jR) (c:Cl),M.cel[n]?=Gc a->S[n]?=Gc c->cq K M H a c
section
variable{K:W1}{M M' M2:Ms}{H H' H2:Hp}{E:En}{σ:Sg}{S:Sto}
theorem EnR.step(r:EnR K M E σ H)(g:Sp1 M H M' H'):EnR K M' E σ H':=⟨r.len,λi d e=>by
 obtain⟨v,h1,h2⟩:=r.val i d e
 exact⟨v,h1,h2.step g⟩⟩
theorem StR.grow(r:StR K M S H)(k:∀a o,H a=Gc o->H' a=Gc o):StR K M S H':=by
 have g:Sp1 M H M H':=⟨r.mo,lO,λ_ z=>.inl z,λa o e _=>k a o e⟩
 refine⟨λa z=>(r.mo a z).imp (λ⟨xs,e⟩=>⟨xs,k _ _ e⟩) (Or.imp (λ⟨xs,e⟩=>⟨xs,k _ _ e⟩) λ⟨xs,e⟩=>⟨xs,k _ _ e⟩),r.nd,r.nt,r.len,λn a c h1 h2=>?_⟩
 have q:=r.cell n a c h1 h2
 cases c with
 |lst ds=>obtain⟨xs,e,rr⟩:=q;exact⟨xs,k _ _ e,rr.step g⟩
 |dct ds=>obtain⟨xs,e,rr⟩:=q;exact⟨xs,k _ _ e,rr.step g⟩
 |tab ds=>obtain⟨xs,e,rr⟩:=q;exact⟨xs,k _ _ e,rr.step g⟩
theorem StR.chg(r:StR K M S H){n:Nat}{a:jR}{ds es:Wp D}{ys:Wp V}(h1:M.cel[n]?=Gc a)(h2:S[n]?=Gc (.lst ds))(hy:Al K M H ys es):StR K M (S.set n (.lst es)) (upd H a (.lst ys))/\Gr M H M (upd H a (.lst ys)):=by
 have ha:a∈M.cel:=jw h1
 have hl:n<S.length:=(jb.mp h2).1
 have g:Gr M H M (upd H a (.lst ys)):=⟨r.mo,lO,rfl,λ_ z=>.inl z,λb o eb nb=>by rw[AZ (λz=>nb (by rw[z];exact ha))];exact eb,λb eb=>by
  by_cases h:b=a
  .subst h;rw[BR];intro z;cases z
  .rw[AZ h];exact eb⟩
 refine⟨⟨λb z=>?_,r.nd,r.nt,by rw[lq];exact r.len,λm b c e1 e2=>?_⟩,g⟩
 .by_cases h:b=a
  .subst h;exact .inl ⟨ys,BR⟩
  .rw[AZ h];exact r.mo b z
 .by_cases h:n=m
  .subst h
   rw[h1]at e1;cases e1
   rw[jj hl]at e2;cases e2
   exact⟨ys,BR,hy.step g.st⟩
  .rw[jU h]at e2
   have hb:b≠a:=λz=>by
    subst z
    exact h ((qP (jb.mp h1).1 r.nd).mp (h1.trans e1.symm))
   have q:=r.cell m b c e1 e2
   cases c with
   |lst fs=>obtain⟨xs,e,rr⟩:=q;exact⟨xs,by rw[AZ hb];exact e,rr.step g.st⟩
   |dct fs=>obtain⟨xs,e,rr⟩:=q;exact⟨xs,by rw[AZ hb];exact e,rr.step g.st⟩
   |tab fs=>obtain⟨xs,e,rr⟩:=q;exact⟨xs,by rw[AZ hb];exact e,rr.step g.st⟩
theorem StR.YH(r:StR K M S H){a:jR}{xs:Wp V}{ds:Wp D}(e:H a=none)(k:∀b o,H b=Gc o->H' b=Gc o)(ea:H' a=Gc (.lst xs))(rr:Al K M H xs ds):StR K ⟨M.cel++[a],M.tmp⟩ (S++[.lst ds]) H'/\Gr M H ⟨M.cel++[a],M.tmp⟩ H':=by
 have g:Gr M H ⟨M.cel++[a],M.tmp⟩ H':=⟨r.mo,qD _ _,rfl,λb z=>by
  rcases kB.mp z with z|z
  .exact .inl z
  .simp at z;subst z;exact .inr e,λb o eb _=>k b o eb,λb eb z=>by
  cases h:H b with
  |none=>exact eb h
  |some o=>rw[k b o h]at z;cases z⟩
 have na:¬M.mem a:=λz=>r.mo.some z e
 refine⟨⟨λb z=>?_,?_,λb hb z=>?_,by simp[r.len],λm b c e1 e2=>?_⟩,g⟩
 .have z':M.mem b\/b=a:=by
   rcases z with z|z
   .rcases kB.mp z with z|z
    .exact .inl (.inl z)
    .simp at z;exact .inr z
   .exact .inl (.inr z)
  rcases z' with z|z
  .exact(r.mo b z).imp (λ⟨xs,e⟩=>⟨xs,k _ _ e⟩) (Or.imp (λ⟨xs,e⟩=>⟨xs,k _ _ e⟩) λ⟨xs,e⟩=>⟨xs,k _ _ e⟩)
  .subst z;exact .inl ⟨xs,ea⟩
 .rw[qQ]
  refine⟨r.nd,by simp,λx hx y hy=>?_⟩
  simp at hy;subst hy
  exact λz=>na (.inl (by rw[<-z];exact hx))
 .rcases kB.mp z with z|z
  .exact r.nt b hb z
  .simp at z;subst z;exact na (.inr hb)
 .by_cases h:m<S.length
  .rw[jT (by rw[r.len];exact h)]at e1
   rw[jT h]at e2
   have q:=r.cell m b c e1 e2
   cases c with
   |lst fs=>obtain⟨xs,e,rr⟩:=q;exact⟨xs,k _ _ e,rr.step g.st⟩
   |dct fs=>obtain⟨xs,e,rr⟩:=q;exact⟨xs,k _ _ e,rr.step g.st⟩
   |tab fs=>obtain⟨xs,e,rr⟩:=q;exact⟨xs,k _ _ e,rr.step g.st⟩
  .have hm:m=S.length:=by
    have:=(jb.mp e2).1
    simp at this;lia
   subst hm
   rw[kS (by rw[r.len];exact ja _)]at e1
   rw[kS (ja _)]at e2
   rw[r.len]at e1
   simp at e1 e2
   subst e1 e2
   exact⟨xs,ea,rr.step g.st⟩
end
noncomputable def iE:jO ml->kG
 |some .local=>true
 |some .cell=>true
 |some .free=>true
 |_=>false
noncomputable def eW(sc:mC)(x:Str):kG:=iE (sc.names.lookup x)
theorem Yt{sc:mC}{x:Str}(h:eW sc x=true):Vis sc x:=by
 unfold eW at h
 unfold Vis
 cases e:sc.names.lookup x with
 |none=>rw[e]at h;cases h
 |some k=>
  rw[e]at h
  cases k<;>first|(cases h;done)|simp
abbrev Ev:=En->Sto->jO (D×Sto)
noncomputable def tD(K:W1)(f:Ev):TE:=λσ H Q=>∃M E S d S',f E S=Gc (d,S')/\EnR K M E σ H/\StR K M S H/\∀v H' M',Gr M H M' H'->StR K M' S' H'->EA K M' H' v d->Q v H'
structure DE(X:Cx)(e:j4)(f:Ev):Prop where
 pe:PE X e (tD X.K f)
theorem B9{X:Cx}{e:j4}{t t':TE}(h:PE X e t)(m:∀σ H Q,t' σ H Q->t σ H Q):PE X e t':=λpins s σ H Q I q=>h pins s σ H Q I (m _ _ _ q)
theorem Sy{X:Cx}{e:j4}{t t':TT}(h:PT X e t)(m:∀σ H Q,t' σ H Q->t σ H Q):PT X e t':=λpins s σ H Q I q=>h pins s σ H Q I (m _ _ _ q)
theorem JB{K:W1}{f:Ev}{σ:Sg}{H:Hp}{Q Q':VK}(h:tD K f σ H Q)(m:∀v H',Q v H'->Q' v H'):tD K f σ H Q':=by
 obtain⟨M,E,S,d,S',e,r,st,q⟩:=h
 exact⟨M,E,S,d,S',e,r,st,λv H' M' g s r=>m _ _ (q v H' M' g s r)⟩
theorem BG{α β:Type}{o:jO α}{k:α->jO β}{y:β}(e:o.bind k=Gc y):∃x,o=Gc x/\k x=Gc y:=by
 cases o with
 |none=>cases e
 |some x=>exact⟨x,rfl,e⟩
theorem LM{α β:Type}{o:jO α}{k:α->β}{y:β}(e:o.map k=Gc y):∃x,o=Gc x/\k x=y:=by
 cases o with
 |none=>cases e
 |some x=>cases e;exact⟨x,rfl,rfl⟩
noncomputable def fz:Wv->D
 | .val d=>d
 | .own ds=>.lst ds
noncomputable def at?(E:En)(i:Nat):jO D:=(E[i]?).join
theorem at?_some{E:En}{i:Nat}{w:D}(h:at? E i=Gc w):E[i]?=Gc (Gc w):=by
 unfold at? at h
 cases e:E[i]? with
 |none=>rw[e]at h;cases h
 |some q=>rw[e]at h;exact congrArg Gc h
noncomputable def evs:Wp Ev->En->Sto->jO (Wp D×Sto)
 | [],_,S=>Gc ([],S)
 |f::fs,E,S=>(f E S).bind λr=>(evs fs E r.2).map λq=>(r.1::q.1,q.2)
noncomputable def tDs(K:W1):Wp Ev->TA
 | []=>gI
 |f::fs=>aN (tD K f) (tDs K fs)
structure DEs(X:Cx)(es:Wp j4)(fs:Wp Ev):Prop where
 pe:PA X es (tDs X.K fs)
theorem AE{X:Cx}:DEs X [] []:=⟨QM⟩
theorem AA{X:Cx}{e:j4}{es:Wp j4}{f:Ev}{fs:Wp Ev}(h:DE X e f)(t:DEs X es fs)(hs:ju (e::es) X.env=(false,eval e X.env)::ju es X.env:=by rfl):DEs X (e::es) (f::fs):=⟨KY h.pe t.pe hs⟩
section
variable{K:W1}{M M':Ms}{E:En}{S:Sto}{σ:Sg}{H H':Hp}
theorem HW:∀{fs:Wp Ev} {M:Ms} {S:Sto} {ds:Wp D} {S':Sto} {H:Hp} {Q:Wp V->Hp->Prop},evs fs E S=Gc (ds,S')->EnR K M E σ H->StR K M S H->(∀vs H' M',Gr M H M' H'->StR K M' S' H'->Al K M' H' vs ds->Q vs H')->tDs K fs σ H Q
 | [],M,S,ds,S',H,Q,e,r,st,q=>by
   cases e
   exact q [] H M (.refl st.mo) st .nil
 |f::fs,M,S,ds,S',H,Q,e,r,st,q=>by
  obtain⟨⟨d,S1⟩,e1,e⟩:=BG e
  obtain⟨⟨es,S2⟩,e2,e⟩:=LM e
  cases e
  refine⟨M,E,S,d,S1,e1,r,st,λv H1 M1 g1 st1 d1=>?_⟩
  exact HW e2 (r.step g1.st) st1 λvs H2 M2 g2 st2 d2=>q _ _ M2 (g1.trans g2) st2 (.cons (d1.step g2.st) d2)
theorem L9:∀{fs:Wp Ev} {S:Sto} {ds:Wp D} {S':Sto},evs fs E S=Gc (ds,S')->ds.length=fs.length
 | [],_,_,_,e=>by cases e;rfl
 |f::fs,S,ds,S',e=>by
  obtain⟨⟨d,S1⟩,e1,e⟩:=BG e
  obtain⟨⟨es,S2⟩,e2,e⟩:=LM e
  cases e
  simp[L9 e2]
def Sh(K:W1)(M:Ms)(H:Hp)(v:V):Wv->Prop
 | .val d=>EA K M H v d
 | .own ds=>∃a xs,v=.ref a/\H a=Gc (.lst xs)/\Al K M H xs ds
inductive Shs(K:W1)(M:Ms)(H:Hp):Wp V->Wp Wv->Prop
 |nil:Shs K M H [] []
 |cons {v:V} {w:Wv} {vs:Wp V} {ws:Wp Wv} (h:Sh K M H v w) (t:Shs K M H vs ws):Shs K M H (v::vs) (w::ws)
noncomputable def dr(S:Sto):D->Wv
 | .ref n=>match S[n]? with
   |some (.lst ds)=>.own ds
   |_=>.val (.ref n)
 |d=>.val d
theorem XU(st:StR K M S H){v:V}{d:D}(h:EA K M H v d):Sh K M H v (dr S d):=by
 cases h with
 |ref h=>
  rename_i a n
  show Sh K M H (.ref a) (match S[n]? with|some (.lst ds)=>.own ds|_=>.val (.ref n))
  split
  .rename_i ds e
   obtain⟨xs,h1,h2⟩:=st.cell n a _ h e
   exact⟨a,xs,rfl,h1,h2⟩
  .exact .ref h
 |non=>exact .non
 |bl b=>exact .bl b
 |int b=>exact .int b
 |str b=>exact .str b
 |ty b=>exact .ty b
 |tup h r=>exact .tup h r
 |lst h n r=>exact .lst h n r
 |scr h=>exact .scr h
 |dct h n r=>exact .dct h n r
theorem WR(st:StR K M S H):∀{vs:Wp V} {ds:Wp D},Al K M H vs ds->Shs K M H vs (ds.map (dr S))
 |_,_,.nil=>.nil
 |_,_,.cons h t=>.cons (XU st h) (WR st t)
def NwR(K:W1)(M:Ms)(H H':Hp)(v:V):Wv->Prop
 | .val d=>EA K M H' v d
 | .own ds=>∃a xs,v=.ref a/\H a=none/\H' a=Gc (.lst xs)/\Al K M H xs ds
structure Nw(K:W1)(M:Ms)(H H':Hp)(v:V)(w:Wv):Prop where
 grow:∀a o,H a=Gc o->H' a=Gc o
 rel:NwR K M H H' v w
theorem Nw.same{v:V}{d:D}(mo:MOk M H)(h:EA K M H v d):Nw K M H H v (.val d):=⟨λ_ _ e=>e,h⟩
theorem Dy{a:jR}{o:HO}(e:H a=none):∀b u,H b=Gc u->upd H a o b=Gc u:=λb u eb=>by rw[AZ (λz=>by subst z;rw[e]at eb;cases eb)];exact eb
theorem Nw.lst{a:jR}{xs:Wp V}{ds:Wp D}(mo:MOk M H)(e:H a=none)(h:Al K M H xs ds):Nw K M H (upd H a (.lst xs)) (.ref a) (.own ds):=⟨Dy e,a,xs,rfl,e,BR,h⟩
theorem Nw.tup{a:jR}{xs:Wp V}{ds:Wp D}(mo:MOk M H)(e:H a=none)(h:Al K M H xs ds):Nw K M H (upd H a (.tup xs)) (.ref a) (.val (.tup ds)):=⟨Dy e,.tup (.of BR) (h.step (Gr.grow mo (Dy e)).st)⟩
noncomputable def fin:kG->Wv->Sto->jO (D×Sto)
 |_,.val d,S=>Gc (d,S)
 |false,.own ds,S=>Gc (.lst ds,S)
 |true,.own ds,S=>Gc (.ref S.length,S++[.lst ds])
theorem Nw.fin{c:kG}{v:V}{w:Wv}{d:D}{S':Sto}(n:Nw K M H H' v w)(st:StR K M S H)(e:fin c w S=Gc (d,S')):∃M',Gr M H M' H'/\StR K M' S' H'/\EA K M' H' v d:=by
 cases w with
 |val d'=>
  cases e
  exact⟨M,.grow st.mo n.grow,st.grow n.grow,n.rel⟩
 |own ds=>
  obtain⟨a,xs,rfl,h1,h2,h3⟩:=n.rel
  cases c with
  |false=>
   cases e
   exact⟨M,.grow st.mo n.grow,st.grow n.grow,.lst h2 (λz=>st.mo.some z h1) (h3.step (Gr.grow st.mo n.grow).st)⟩
  |true=>
   cases e
   obtain⟨s1,g1⟩:=st.YH h1 n.grow h2 h3
   refine⟨_,g1,s1,.ref ?_⟩
   rw[<-st.len]
   exact jz
abbrev Op1:=Wv->jO Wv
abbrev Op2:=Wv->Wv->jO Wv
abbrev OpN:=Wp Wv->jO Wv
noncomputable def rOp(K:W1)(op:Op2):R2:=λx y H Q=>∃M w1 w2 r,op w1 w2=Gc r/\MOk M H/\Sh K M H x w1/\Sh K M H y w2/\∀v H',Nw K M H H' v r->Q v H'
def rUn(K:W1)(op:Op1):V->Hp->VK->Prop:=λx H Q=>∃M w r,op w=Gc r/\MOk M H/\Sh K M H x w/\∀v H',Nw K M H H' v r->Q v H'
def rN(K:W1)(op:OpN):Wp V->Hp->VK->Prop:=λxs H Q=>∃M ws r,op ws=Gc r/\MOk M H/\Shs K M H xs ws/\∀v H',Nw K M H H' v r->Q v H'
noncomputable def OR(c:kG)(op:OpN)(fs:Wp Ev):Ev:=λE S=>(evs fs E S).bind λr=>(op (r.1.map (dr r.2))).bind λw=>fin c w r.2
abbrev eOp:=OR false
abbrev ae:=OR true
noncomputable def o1(op:Op1):OpN| [a]=>op a|_=>none
noncomputable def o2(op:Op2):OpN| [a,b]=>op a b|_=>none
theorem NU{c:kG}{op:OpN}{fs:Wp Ev}{Q:VK}{d:D}{S':Sto}(e:OR c op fs E S=Gc (d,S'))(r:EnR K M E σ H)(st:StR K M S H)(h:∀v H' M',Gr M H M' H'->StR K M' S' H'->EA K M' H' v d->Q v H'):tDs K fs σ H λvs H1=>rN K op vs H1 Q:=by
 obtain⟨⟨ds,S1⟩,e1,e⟩:=BG e
 obtain⟨w,e2,e⟩:=BG e
 refine HW e1 r st λvs H1 M1 g1 st1 d1=>⟨M1,_,w,e2,st1.mo,WR st1 d1,λv H2 n=>?_⟩
 obtain⟨M2,g2,st2,d2⟩:=n.fin st1 e
 exact h v H2 M2 (g1.trans g2) st2 d2
end
theorem ZP{K:W1}{f:Op2}{x y:V}{H:Hp}{Q:VK}(h:rN K (o2 f) [x,y] H Q):rOp K f x y H Q:=by
 obtain⟨M,ws,r,e,mo,s,q⟩:=h
 cases s with
 |cons h1 s=>
  cases s with
  |cons h2 s=>
   cases s
   exact⟨M,_,_,r,e,mo,h1,h2,q⟩
theorem aI{K:W1}{f:Op1}{x:V}{H:Hp}{Q:VK}(h:rN K (o1 f) [x] H Q):rUn K f x H Q:=by
 obtain⟨M,ws,r,e,mo,s,q⟩:=h
 cases s with
 |cons h1 s=>
  cases s
  exact⟨M,_,r,e,mo,h1,q⟩
theorem Qd{K:W1}{c:kG}{f:Op2}{fa fb:Ev}{σ:Sg}{H:Hp}{Q:VK}(h:tD K (OR c (o2 f) [fa,fb]) σ H Q):tOp (rOp K f) (tD K fa) (tD K fb) σ H Q:=by
 obtain⟨M,E,S,d,S',e,r,st,q⟩:=h
 have z:tD K fa σ H λx H1=>tD K fb σ H1 λy H2=>rN K (o2 f) [x,y] H2 Q:=NU (Q:=Q) e r st q
 exact JB z λx H1 z1=>JB z1 λy H2 z2=>ZP z2
theorem Zk{K:W1}{c:kG}{f:Op1}{fa:Ev}{σ:Sg}{H:Hp}{Q:VK}(h:tD K (OR c (o1 f) [fa]) σ H Q):tUn (rUn K f) (tD K fa) σ H Q:=by
 obtain⟨M,E,S,d,S',e,r,st,q⟩:=h
 have z:tD K fa σ H λx H1=>rN K (o1 f) [x] H1 Q:=NU (Q:=Q) e r st q
 exact JB z λx H1 z1=>aI z1
section
variable{X:Cx}{a b e:j4}{es:Wp j4}{fa fb:Ev}{fs:Wp Ev}{pos p:Pos}{c:kG}
theorem AY{op:Operator}{f:Op2}(ho:OpR X (binaryOp op) (rOp X.K f))(ha:DE X a fa)(hb:DE X b fb):DE X (.BinOp a op b pos) (OR c (o2 f) [fa,fb]):=⟨B9 (eP ho ha.pe hb.pe) λ_ _ _ h=>Qd h⟩
theorem FD{op:CmpOp}{f:Op2}(ho:OpR X (compareOp op) (rOp X.K f))(ha:DE X a fa)(hb:DE X b fb)(hm:behindInMarks op b=false:=by rfl):DE X (.Compare a [op] [b] pos) (OR c (o2 f) [fa,fb]):=⟨B9 (Xf ho ha.pe hb.pe hm) λ_ _ _ h=>Qd h⟩
theorem Pp{op:UnaryOp}{f:Op1}(ho:UnR X (unaryOp op) (rUn X.K f))(ha:DE X a fa):DE X (.UnaryOp op a pos) (OR c (o1 f) [fa]):=⟨B9 (cW ho ha.pe) λ_ _ _ h=>Zk h⟩
theorem AL{f:Op2}(hr:IxR X (rOp X.K f))(ha:DE X a fa)(hb:DE X b fb)(hs:TU b:=by exact λ_ _=>rfl):DE X (.Subscript a b pos) (OR c (o2 f) [fa,fb]):=⟨B9 (dc hr ha.pe hb.pe hs) λ_ _ _ h=>Qd h⟩
theorem Aq{id:lx}{x:Str}{f:OpN}(hc:FN X (.builtin id) (rN X.K f))(hg:Gl X x)(hm:X.mg x=none)(hv:bootBuiltins x=Gc (.builtin id))(ha:DEs X (e::es) fs)(hn:x≠ "__name__":=by decide)(hdb:(x==("__debug__":Str))=false:=by decide)(he:ju (e::es) X.env=(false,eval e X.env)::ju es X.env:=by rfl)(hpl:(backTo pos (ju es X.env)).any (·.1)=false:=by rfl):DE X (.Call (.Name x p) (e::es) [] pos) (OR c f fs):=⟨
 B9 (VJ hc hg hm hv ha.pe hn hdb he hpl) λ_ _ _ h=>by
  obtain⟨M,E,S,d,S',e,r,st,q⟩:=h
  exact NU e r st q⟩
theorem BM{T:lx}{x:Str}{f:OpN}(hc:FN X (.type T) (rN X.K f))(hg:Gl X x)(hm:X.mg x=none)(hv:bootBuiltins x=Gc (.type T))(ha:DEs X (e::es) fs)(hn:x≠ "__name__":=by decide)(hdb:(x==("__debug__":Str))=false:=by decide)(he:ju (e::es) X.env=(false,eval e X.env)::ju es X.env:=by rfl)(hpl:(backTo pos (ju es X.env)).any (·.1)=false:=by rfl):DE X (.Call (.Name x p) (e::es) [] pos) (OR c f fs):=⟨
 B9 (Uk hc hg hm hv ha.pe hn hdb he hpl) λ_ _ _ h=>by
  obtain⟨M,E,S,d,S',e,r,st,q⟩:=h
  exact NU e r st q⟩
noncomputable def eC(d:D):Ev:=λ_ S=>Gc (d,S)
theorem O6{v:V}{d:D}(h:PE X e (tC v))(r:∀K M H,EA K M H v d):DE X e (eC d):=⟨B9 h λσ H Q z=>by
 obtain⟨M,E,S,w,S',e,rr,st,q⟩:=z
 cases e
 exact q _ _ M (.refl st.mo) st (r _ _ _)⟩
theorem AG{i:Int}{j:Nat}:DE X (.Constant (.int i) j pos) (eC (.int i)):=O6 Yn λ_ _ _=>.int _
theorem Ri{i:kG}{j:Nat}:DE X (.Constant (.bool i) j pos) (eC (.bl i)):=O6 di λ_ _ _=>.bl _
theorem Aw{i:Str}{j:Nat}:DE X (.Constant (.str i) j pos) (eC (.str i)):=O6 T5 λ_ _ _=>.str _
theorem Il{j:Nat}:DE X (.Constant .none j pos) (eC .non):=O6 Z7 λ_ _ _=>.non
noncomputable def eV(i:Nat):Ev:=λE S=>(at? E i).map λd=>(d,S)
theorem AB(i:Nat){x:Str}(hN:X.N[i]?=Gc x:=by rfl)(hv:eW X.env.scope x=true:=by rfl)(hd:(x==("__debug__":Str))=false:=by decide)(hcd:(x==("__classdict__":Str))=false:=by decide):DE X (.Name x pos) (eV i):=⟨B9 (NJ hN (Yt hv) hd hcd) λσ H Q z=>by
 obtain⟨M,E,S,d,S',e,r,st,q⟩:=z
 obtain⟨d',e1,e⟩:=LM e
 cases e
 obtain⟨v,hv,rd⟩:=r.val i d (at?_some e1)
 exact⟨v,hv,q v H M (.refl st.mo) st rd⟩⟩
end
theorem HN:fillsNumberSlot (.type "tuple") "mul"=pure false:=
 fillsNumberSlot_seq (id:="tuple.__mul__") (r:=Gc (.builtin "tuple.__rmul__")) pD.lookup (by decide+kernel) tS.lookup (by decide+kernel)
theorem K1:seqRepeat? (.type "tuple")=pure (Gc (.builtin "tuple.__mul__")):=by
 unfold seqRepeat?
 rw[seqSlot_of (T:="tuple") (name:="__mul__") (id:="tuple.__mul__") pD.lookup (by decide+kernel),seqSlot_of (T:="tuple") (name:="__rmul__") (id:="tuple.__rmul__") tS.lookup (by decide+kernel)]
 rfl
theorem Iv(a:Int)(t:Tok)(l:jR)(items:kP jN)(n:Nat)(dd:jO jR)(sl:kP (jO jN)):Meets (og.«int.__rmul__» ⟨[.int a t,.ref l],[]⟩) (λ_ R s=>s.heap.get? l=Gc {cls:=.type "tuple",dict:=dd,data:=.seq items n,slots:=sl}/\R (.ok (.ret Value.notImplemented)) s):=
 .of_wp λprog w A R s h=>by obtain⟨hp,g,d,tk,os⟩:=s;obtain⟨hl,h⟩:=h;wp_walk;exact⟨_,rfl,h⟩
theorem UK(its:Wp jN)(m:Nat):sQ (λx1 x2=>x1++x2) #[] (jg m its.toArray)=(jg m its).flatten.toArray:=by
 have:=foldl_rep its m []
 rw[kh]at this
 exact this
theorem Xv{X:Cx}:OpR X (binaryOp .Mult) (λx y H Q=>∃a xs k,x=.ref a/\y=.int k/\SqT X.K H a xs/\xs≠[]/\1<=k/\xs.length*k.toNat<=sizeLine/\(k=1->Q (.ref a) H)/\(k≠1->∀p,H p=none->Q (.ref p) (upd H p (.tup (jg k.toNat xs).flatten)))):=by
 intro pins s σ H x y v u Q I rx ry h
 obtain⟨a,xs,k,rfl,rfl,hx,hne,hk,hz,q1,q2⟩:=h
 cases rx
 obtain⟨t,rfl⟩:=ry
 obtain⟨its,r,⟨⟨c,dd,data,sl⟩,ho,hc,n,hd⟩,hzz⟩:=I.tuple hx
 simp only at hc hd
 subst hc hd
 have hl:=r.length
 have hsz:its.toArray.size=xs.length:=by rw[jd];exact hl.symm
 have hpos:0<xs.length:=rf.mpr hne
 have hkl:k.toNat<=sizeLine:=jY (Nat.le_mul_of_pos_left _ hpos) hz
 have hk63:k<2^63:=by
  have:(sizeLine:Nat)<2^63:=by decide
  lia
 refine ni (T:="tuple") (U:="int") (by decide) ⟨_,ho,rfl⟩ (λs'=>pB s' k t) HN qv nF K1 qf.lookup
  (pC nF (pB s k t) qg (qN _ _) (Iv k t a its.toArray n dd sl) ⟨ho,rfl,⟨_,ho,rfl⟩,?_⟩)
 refine lQ pD ⟨_,ho,rfl⟩ tT ?_ (sU _ _)
 unfold og.«tuple.__mul__»
 wp_walk using jv ho
 rw[kC (show¬(decide (k< -2^63)||decide (k≥2^63))=true by
  rw[kq]
  rintro (z|z)
  .have:=jh z;lia
  .have:=jh z;lia)]
 wp_walk using jv ho
 by_cases h1:k=1
 .subst h1
  rw[kJ (show(its.toArray.isEmpty||(1:Int)==1)=true by simp)]
  wp_walk using jv ho
  exact⟨_,rfl,.ref a,H,I,rfl,q1 rfl⟩
 .have hemp:its.toArray.isEmpty=false:=by
   cases its with
   |nil=>rw[oG]at hl;lia
   |cons b bs=>rfl
  rw[kC (show¬(its.toArray.isEmpty||k==1)=true by rw[hemp];simpa using h1)]
  wp_walk using jv ho
  have hmul:((its.toArray.size:Int)*k)=((xs.length*k.toNat:Nat):Int):=by
   rw[hsz,qx]
   congr 1
   lia
  rw[kC (show¬(decide (k<=0)||its.toArray.isEmpty)=true by
   rw[hemp,Bool.or_false]
   intro z
   have:=jh z
   lia)]
  wp_walk
  rw[kC (show¬((its.toArray.size:Int)*k>(2^63-1) / 8) by
   rw[hmul]
   have:(sizeLine:Nat)<=(2^63-1) / 8:=by decide
   lia)]
  wp_walk
  rw[kC (show¬qE ((its.toArray.size:Int)*k)=true by
   unfold qE
   rw[hmul]
   intro z
   have:=jh z
   lia)]
  rw[UK]
  wp_walk
  have hlen:(jg k.toNat its).flatten.length<=sizeLine:=by rw[len_rep,m9,<-hl];exact hz
  rw[kC (show¬((jg k.toNat its).flatten.toArray.size>sizeLine) by rw[jd];lia)]
  wp_walk
  refine⟨_,rfl,.ref _,_,I.laid (o:=.tup (jg k.toNat xs).flatten) (t':=s.toks) (λb ob q=>jP _ q) (ja _) ?_,rfl,q2 h1 _ (I.hok.fresh (ja _))⟩
  exact⟨by rw[len_rep,m9];exact hz,_,r.rep k.toNat,nk _ _⟩
mutual
noncomputable def D.py:D->PyData
 | .non=>.none| .bl b=>.bool b| .int i=>.int i| .str x=>.str x| .ty _=>.none
 | .tup ds=>.tuple (D.pys ds)| .lst ds=>.list (D.pys ds)| .dct _=>.none| .scr _=>.none| .ref _=>.none
noncomputable def D.pys:Wp D->Wp PyData
 | []=>[]
 |d::ds=>D.py d::D.pys ds
end
mutual
noncomputable def D.lay:D->kG
 | .non=>true| .bl _=>true| .int _=>true| .str x=>nM x| .ty _=>false| .dct _=>false| .scr _=>false| .ref _=>false
 | .tup ds=>D.QQ ds| .lst ds=>D.QQ ds
noncomputable def D.QQ:Wp D->kG
 | []=>true
 |d::ds=>D.lay d && D.QQ ds
end
mutual
theorem LW:∀{d:D},d.lay=true->d.py.canLay0=true
 | .non,_=>rfl
 | .bl _,_=>rfl
 | .int _,_=>rfl
 | .str x,h=>h
 | .ty _,h=>lT h
 | .dct _,h=>lT h
 | .scr _,h=>lT h
 | .ref _,h=>lT h
 | .tup ds,h=>by show oj (D.pys ds)=true;exact OQ h
 | .lst ds,h=>by show oj (D.pys ds)=true;exact OQ h
theorem OQ:∀{ds:Wp D},D.QQ ds=true->oj (D.pys ds)=true
 | [],_=>rfl
 |d::ds,h=>by
  have h':(D.lay d && D.QQ ds)=true:=h
  rw[jW]at h'
  show(PyData.canLay0 d.py && oj (D.pys ds))=true
  rw[LW h'.1,OQ h'.2];rfl
end
section
variable{X:Cx}{pins:Wp (jR×Obj)}{σ:Sg}{H:Hp}{s:jQ}{M:Ms}
theorem L7(I:Inv X pins σ H s){a:jR}{xs:Wp V}(h:Rd H a (.lst xs)):∃its:Wp jN,Vals xs its/\∃o n,s.heap.get? a=Gc o/\o.cls=.type "list" /\o.data=.seq its.toArray n:=by
 obtain⟨z,its,n,r,e⟩:=h.ok I.hok
 exact⟨its,r,_,n,e,rfl,rfl⟩
theorem EA.reads(I:Inv X pins σ H s){v:V}{d:D}(h:EA X.K M H v d):∀{u:jN},RelV v u->d.lay=true->∃as,Reads s.heap u d.py as:=
 EA.rec (motive_1:=λv d _=>∀{u:jN},RelV v u->d.lay=true->∃as,Reads s.heap u d.py as) (motive_2:=λvs ds _=>∀{us:Wp jN},Vals vs us->D.QQ ds=true->∃as,xY s.heap us (D.pys ds) as) (motive_3:=λ_ _ _=>sJ)
  (λr _=>by cases r;exact⟨_,.none⟩) (λb _ r _=>by cases r;exact⟨_,.bool b⟩) (λb _ r _=>by obtain⟨t,rfl⟩:=r;exact⟨_,.int b t⟩) (λb _ r _=>by obtain⟨t,rfl⟩:=r;exact⟨_,.str b t⟩) (λ_ _ _ h=>lT h)
  (fun h _ ih _ r hl => by
    cases r
    obtain⟨its,rv,⟨o,e,hc,n,hd⟩,_⟩:=I.tuple h
    obtain⟨as,ra⟩:=ih rv hl
    exact⟨as,.tuple e hc hd ra⟩)
  (fun h _ _ ih _ r hl => by
    cases r
    obtain⟨its,rv,o,n,e,hc,hd⟩:=L7 I (.inl h)
    obtain⟨as,ra⟩:=ih rv hl
    exact⟨_,.list e hc hd ra⟩)
  (λ_ _ _ h=>lT h) (λ_ _ _ _ _ _ h=>lT h) (λ_ _ _ h=>lT h)
  (fun r _ => by cases r; exact ⟨_, .nil⟩) (fun {v d vs ds} _ _ ih1 ih2 _ r hl => by
    cases r with
    |cons r1 r2=>
     have hl':(D.lay d && D.QQ ds)=true:=hl
     rw[jW]at hl'
     obtain⟨as,ra⟩:=ih1 r1 hl'.1
     obtain⟨bs,rb⟩:=ih2 r2 hl'.2
     exact⟨_,.cons ra rb⟩) trivial (λ_ _ _ _=>trivial) h
theorem Al.reads(I:Inv X pins σ H s){vs:Wp V}{ds:Wp D}(h:Al X.K M H vs ds):∀{us:Wp jN},Vals vs us->D.QQ ds=true->∃as,xY s.heap us (D.pys ds) as:=
 h.ind (P:=λvs ds=>∀{us:Wp jN},Vals vs us->D.QQ ds=true->∃as,xY s.heap us (D.pys ds) as) (λr _=>by cases r;exact⟨_,.nil⟩) (λ{v d vs ds} h ih2 _ r hl=>by
  cases r with
  |cons r1 r2=>
   have hl':(D.lay d && D.QQ ds)=true:=hl
   rw[jW]at hl'
   obtain⟨as,ra⟩:=h.reads I r1 hl'.1
   obtain⟨bs,rb⟩:=ih2 r2 hl'.2
   exact⟨_,.cons ra rb⟩)
end
noncomputable def deq(a b:D):kG:=PyData.eqv a.py b.py
noncomputable def Qa(a b:D):kG:=a.lay && b.lay && decide (min a.py.depth b.py.depth<=60)
noncomputable def wEq:Op2:=λa b=>if Qa (fz a) (fz b)=true then Gc (.val (.bl (deq (fz a) (fz b))))else none
noncomputable def wNe:Op2:=λa b=>if Qa (fz a) (fz b)=true then Gc (.val (.bl (!deq (fz a) (fz b))))else none
section
variable{X:Cx}
theorem Sh.reads{pins:Wp (jR×Obj)}{σ:Sg}{H:Hp}{s:jQ}{M:Ms}{v:V}{u:jN}{w:Wv}(h:Sh X.K M H v w)(I:Inv X pins σ H s)(r:RelV v u)(hl:(fz w).lay=true):∃as,Reads s.heap u (fz w).py as:=by
 cases w with
 |val d=>exact EA.reads I h r hl
 |own ds=>
  obtain⟨a,xs,rfl,h1,h2⟩:=h
  cases r
  obtain⟨its,rv,o,n,e,hc,hd⟩:=L7 I (.inl h1)
  obtain⟨as,ra⟩:=Al.reads I h2 rv hl
  exact⟨_,.list e hc hd ra⟩
theorem Bq(hu:X.A.units+100<cLine):OpR X (compareOp .Eq) (rOp X.K wEq):=by
 intro pins s σ H x y v u Q I rx ry h
 obtain⟨M,w1,w2,r,e,mo,s1,s2,q⟩:=h
 unfold wEq at e
 split at e
 .rename_i hk
  unfold Qa at hk
  rw[jW,jW]at hk
  cases e
  obtain⟨as,ra⟩:=s1.reads I rx hk.1.1
  obtain⟨bs,rb⟩:=s2.reads I ry hk.1.2
  have hd:=jh hk.2
  exact SeqAt.compareEq_reads ra rb (LW hk.1.1) (LW hk.1.2) (by omega) ⟨.bl _,H,I,rfl,q _ _ (.same mo (.bl _))⟩
 .cases e
theorem Jc(hu:X.A.units+100<cLine):OpR X (compareOp .NotEq) (rOp X.K wNe):=by
 intro pins s σ H x y v u Q I rx ry h
 obtain⟨M,w1,w2,r,e,mo,s1,s2,q⟩:=h
 unfold wNe at e
 split at e
 .rename_i hk
  unfold Qa at hk
  rw[jW,jW]at hk
  cases e
  obtain⟨as,ra⟩:=s1.reads I rx hk.1.1
  obtain⟨bs,rb⟩:=s2.reads I ry hk.1.2
  have hd:=jh hk.2
  exact SeqAt.compareNe_reads ra rb (LW hk.1.1) (LW hk.1.2) (by omega) ⟨.bl _,H,I,rfl,q _ _ (.same mo (.bl _))⟩
 .cases e
noncomputable def wI2(f:Int->Int->jO D):Op2
 | .val (.int i),.val (.int j)=>(f i j).map .val
 |_,_=>none
theorem Qo{g:jN->jN->Sem jN}{C:Int->Int->Prop}{h:Int->Int->V}{f:Int->Int->jO D}(o:OpR X g (rI C h))(hf:∀i j d,f i j=Gc d->C i j/\∀K M H,EA K M H (h i j) d):OpR X g (rOp X.K (wI2 f)):=by
 intro pins s σ H x y v u Q I rx ry hh
 obtain⟨M,w1,w2,r,e,mo,s1,s2,q⟩:=hh
 unfold wI2 at e
 split at e
 .cases s1
  cases s2
  rename_i i j
  cases e1:f i j with
  |none=>rw[e1]at e;cases e
  |some d=>
   rw[e1]at e
   cases e
   obtain⟨c,rd⟩:=hf i j d e1
   exact o pins s σ H _ _ v u Q I rx ry ⟨i,j,rfl,rfl,c,q _ _ (.same mo (rd _ _ _))⟩
 .cases e
theorem L8{g:jN->jN->Sem jN}{h:Int->Int->V}{f:Int->Int->jO D}(o:OpR X g (rI0 h))(hf:∀i j d,f i j=Gc d->∀K M H,EA K M H (h i j) d):OpR X g (rOp X.K (wI2 f)):=by
 intro pins s σ H x y v u Q I rx ry hh
 obtain⟨M,w1,w2,r,e,mo,s1,s2,q⟩:=hh
 unfold wI2 at e
 split at e
 .cases s1
  cases s2
  rename_i i j
  cases e1:f i j with
  |none=>rw[e1]at e;cases e
  |some d=>
   rw[e1]at e
   cases e
   exact o pins s σ H _ _ v u Q I rx ry ⟨i,j,rfl,rfl,q _ _ (.same mo (hf i j d e1 _ _ _))⟩
 .cases e
noncomputable def Qn:Op2:=wI2 λi j=>Gc (.int (i-j))
noncomputable def WH:Nat:=2^60000
noncomputable def GC:Nat:=2^8000
noncomputable def Dp(i j:Int):kG:=decide (i.natAbs<2^64)||(decide (j.natAbs<2^64)||(decide (i.natAbs<WH) && decide (j.natAbs<WH)))
theorem YI:OpR X (binaryOp .Mult) (rI (λi j=>Dp i j=true) λi j=>.int (i*j)):=by
 intro pins s σ H x y v u Q I rx ry h
 obtain⟨i,j,rfl,rfl,hk,q⟩:=h
 unfold Dp at hk
 rw[kq,kq,jW]at hk
 rcases hk with hk|hk|hk
 .have:=jh hk
  exact WV pins s σ H _ _ v u Q I rx ry ⟨i,j,rfl,rfl,.inl ⟨by omega,by omega⟩,q⟩
 .have:=jh hk
  exact WV pins s σ H _ _ v u Q I rx ry ⟨i,j,rfl,rfl,.inr ⟨by omega,by omega⟩,q⟩
 .have h1:i.natAbs<2^60000:=jh hk.1
  have h2:j.natAbs<2^60000:=jh hk.2
  obtain⟨t1,rfl⟩:=rx
  obtain⟨t2,rfl⟩:=ry
  exact vB ⟨.int _,H,I.tok _,⟨_,rfl⟩,q⟩ (uq (m:=60000) (n:=60000) (rH.mpr h1) (rH.mpr h2) (by decide))
noncomputable def Z2:Op2:=wI2 λi j=>if Dp i j=true then Gc (.int (i*j))else none
noncomputable def Nd:Op2:=wI2 λi j=>if(decide (0<j) && decide (j.natAbs<GC))=true then Gc (.int (i / j))else none
noncomputable def Pf:Op2:=wI2 λi j=>if 0<j then Gc (.int (i % j))else none
noncomputable def YZ:Op2:=wI2 λi j=>if(decide (0<=j) && decide (j<=1000) && decide (i.natAbs<2^64))=true then Gc (.int (i^j.toNat))else none
noncomputable def wLt:Op2:=wI2 λi j=>Gc (.bl (decide (i<j)))
noncomputable def wLe:Op2:=wI2 λi j=>Gc (.bl (decide (i<=j)))
noncomputable def wGt:Op2:=wI2 λi j=>Gc (.bl (decide (j<i)))
noncomputable def wGe:Op2:=wI2 λi j=>Gc (.bl (decide (j<=i)))
theorem GU:OpR X (binaryOp .Sub) (rOp X.K Qn):=L8 ZU λi j d e K M H=>by cases e;exact .int _
theorem YB:OpR X (binaryOp .Mult) (rOp X.K Z2):=Qo YI λi j d e=>by
 split at e
 .rename_i hk
  cases e
  exact⟨hk,λ_ _ _=>.int _⟩
 .cases e
theorem HB:OpR X (binaryOp .FloorDiv) (rOp X.K Nd):=Qo St.Vp λi j d e=>by
 split at e
 .rename_i hk
  rw[jW]at hk
  cases e
  exact⟨⟨jh hk.1,jh hk.2⟩,λ_ _ _=>.int _⟩
 .cases e
theorem GS:OpR X (binaryOp .Mod) (rOp X.K Pf):=Qo Zv λi j d e=>by
 split at e
 .rename_i hk
  cases e
  exact⟨hk,λ_ _ _=>.int _⟩
 .cases e
theorem Pm:OpR X (binaryOp .Pow) (rOp X.K YZ):=Qo Y4 λi j d e=>by
 split at e
 .rename_i hk
  rw[jW,jW]at hk
  cases e
  have:=jh hk.1.2
  exact⟨⟨jh hk.1.1,by omega,jh hk.2⟩,λ_ _ _=>.int _⟩
 .cases e
theorem Ke:OpR X (compareOp .Lt) (rOp X.K wLt):=L8 cw λi j d e K M H=>by cases e;exact .bl _
theorem Ze:OpR X (compareOp .LtE) (rOp X.K wLe):=L8 eE λi j d e K M H=>by cases e;exact .bl _
theorem PN:OpR X (compareOp .Gt) (rOp X.K wGt):=L8 dZ λi j d e K M H=>by cases e;exact .bl _
theorem Q6:OpR X (compareOp .GtE) (rOp X.K wGe):=L8 cg λi j d e K M H=>by cases e;exact .bl _
noncomputable def asL:Wv->jO (Wp D)
 | .own ds=>Gc ds
 | .val (.lst ds)=>Gc ds
 |_=>none
noncomputable def asT:Wv->jO (Wp D)
 | .val (.tup ds)=>Gc ds
 |_=>none
noncomputable def asC:Wv->jO (Wp D)
 | .val (.scr ns)=>Gc (ns.map .int)
 |_=>none
noncomputable def asS(w:Wv):jO (Wp D):=(asL w).or ((asT w).or (asC w))
section
variable{K:W1}{M:Ms}{H:Hp}{v:V}{w:Wv}{ds:Wp D}
theorem Sh.l(h:Sh K M H v w)(e:asL w=Gc ds):∃a xs,v=.ref a/\H a=Gc (.lst xs)/\Al K M H xs ds:=by
 cases w with
 |own es=>cases e;obtain⟨a,xs,rfl,h1,h2⟩:=h;exact⟨a,xs,rfl,h1,h2⟩
 |val d=>
  cases d<;>first|(cases e;done)|skip
  cases e
  cases h with
  |lst h n r=>exact⟨_,_,rfl,h,r⟩
theorem Sh.t(h:Sh K M H v w)(e:asT w=Gc ds):∃a xs,v=.ref a/\SqT K H a xs/\Al K M H xs ds:=by
 cases w with
 |own es=>cases e
 |val d=>
  cases d<;>first|(cases e;done)|skip
  cases e
  cases h with
  |tup h r=>exact⟨_,_,rfl,h,r⟩
theorem LI:∀{ns:Wp Int},Al K M H (ns.map V.int) (ns.map D.int)
 | []=>.nil
 |n::ns=>.cons (.int n) LI
theorem Sh.c(h:Sh K M H v w)(e:asC w=Gc ds):∃a xs,v=.ref a/\SqL K H a xs/\Al K M H xs ds:=by
 cases w with
 |own es=>cases e
 |val d=>
  cases d<;>first|(cases e;done)|skip
  cases e
  cases h with
  |scr h=>
   refine⟨_,_,rfl,?_,LI⟩
   rcases h with h|h
   .exact .inl h.1
   .exact .inr h
theorem Sh.s(h:Sh K M H v w)(e:asS w=Gc ds):∃a xs,v=.ref a/\(SqL K H a xs\/SqT K H a xs)/\Al K M H xs ds:=by
 unfold asS at e
 cases e1:asL w with
 |some es=>
  rw[e1]at e
  cases e
  obtain⟨a,xs,h1,h2,h3⟩:=h.l e1
  exact⟨a,xs,h1,.inl (.of h2),h3⟩
 |none=>
  rw[e1]at e
  cases e2:asT w with
  |some es=>
   rw[e2]at e
   cases e
   obtain⟨a,xs,h1,h2,h3⟩:=h.t e2
   exact⟨a,xs,h1,.inr h2,h3⟩
  |none=>
   rw[e2]at e
   obtain⟨a,xs,h1,h2,h3⟩:=h.c e
   exact⟨a,xs,h1,.inl h2,h3⟩
end
noncomputable def Ha:Op1:=λw=>match w with
 | .val (.str z)=>if z.length<=sizeLine then Gc (.val (.int z.length))else none
 |_=>(asS w).map λds=>.val (.int ds.length)
theorem BU:FN X (.builtin "len") (rN X.K (o1 Ha)):=by
 intro pins s σ H xs us Q I r h
 obtain⟨M,ws,w,e,mo,sh,q⟩:=h
 cases sh with
 |nil=>cases e
 |cons h1 t=>
  cases t with
  |cons h2 t=>cases e
  |nil=>
   rename_i v w1
   have e':Ha w1=Gc w:=e
   unfold Ha at e'
   split at e'
   .split at e'
    .rename_i z hz
     cases e'
     cases h1
     exact Oq pins s σ H _ us Q I r ⟨z,rfl,hz,q _ _ (.same mo (.int _))⟩
    .cases e'
   .cases e1:asS w1 with
    |none=>rw[e1]at e';cases e'
    |some ds=>
     rw[e1]at e'
     cases e'
     obtain⟨a,ys,rfl,h3,h4⟩:=h1.s e1
     refine O7 pins s σ H _ us Q I r ⟨a,ys,rfl,h3,q _ _ ?_⟩
     rw[h4.length]
     exact .same mo (.int _)
noncomputable def wIx:Op2:=λa b=>match a,b with
 |a,.val (.int i)=>(asS a).bind λds=>(atI ds i).map .val
 |_,_=>none
theorem W6{K:W1}{M:Ms}{H:Hp}{xs:Wp V}{ds:Wp D}{i:Int}{d:D}(h:Al K M H xs ds)(e:atI ds i=Gc d):∃x,atI xs i=Gc x/\EA K M H x d:=by
 unfold atI at e⊢
 rw[h.length]
 cases e1:ixN ds.length i with
 |none=>rw[e1]at e;cases e
 |some j=>
  rw[e1]at e
  exact h.get e
theorem AW:IxR X (rOp X.K wIx):=by
 intro value slice pins s σ H x y v u Q I rx ry h hs
 obtain⟨M,w1,w2,r,e,mo,s1,s2,q⟩:=h
 unfold wIx at e
 split at e
 .rename_i i
  cases e1:asS w1 with
  |none=>rw[e1]at e;cases e
  |some ds=>
   rw[e1]at e
   simp only[pE]at e
   cases e2:atI ds i with
   |none=>rw[e2]at e;cases e
   |some d=>
    rw[e2]at e
    cases e
    cases s2
    obtain⟨a,ys,rfl,h3,h4⟩:=s1.s e1
    obtain⟨z,h5,h6⟩:=W6 h4 e2
    rcases h3 with h3|h3
    .exact XZ value slice pins s σ H _ _ v u Q I rx ry ⟨a,ys,i,z,rfl,rfl,h3,h5,q _ _ (.same mo h6)⟩ hs
    .exact Zm value slice pins s σ H _ _ v u Q I rx ry ⟨a,ys,i,z,rfl,rfl,h3,h5,q _ _ (.same mo h6)⟩ hs
 .cases e
end
section
variable{X:Cx}
noncomputable def C4:Op2:=λa b=>match a,b with
 | .val (.int i),.val (.int j)=>Gc (.val (.int (i+j)))
 | .val (.str x),.val (.str y)=>if x.length+y.length<=sizeLine then Gc (.val (.str (x++y)))else none
 | .val (.tup xs),.val (.tup ys)=>if xs.length+ys.length<=sizeLine then Gc (.val (.tup (xs++ys)))else none
 |a,b=>(asL a).bind λxs=>(asL b).bind λys=>if xs.length+ys.length<=sizeLine then Gc (.own (xs++ys))else none
theorem Aa:OpR X (binaryOp .Add) (rOp X.K C4):=by
 intro pins s σ H x y v u Q I rx ry h
 obtain⟨M,w1,w2,r,e,mo,s1,s2,q⟩:=h
 unfold C4 at e
 split at e
 .cases e
  cases s1;cases s2
  exact Z4 pins s σ H _ _ v u Q I rx ry ⟨_,_,rfl,rfl,q _ _ (.same mo (.int _))⟩
 .split at e
  .cases e
   cases s1;cases s2
   exact RK pins s σ H _ _ v u Q I rx ry ⟨_,_,rfl,rfl,by assumption,q _ _ (.same mo (.str _))⟩
  .cases e
 .split at e
  .rename_i xs ys hz
   cases e
   cases s1 with
   |tup h1 r1=>
    cases s2 with
    |tup h2 r2=>
     rename_i a xs' b ys'
     have l1:=r1.length
     have l2:=r2.length
     by_cases hx:xs'=[]
     .subst hx
      cases r1
      refine St.XQ pins s σ H _ _ v u Q I rx ry ⟨_,_,_,rfl,rfl,h1,h2,q _ _ (.same mo ?_)⟩
      exact .tup h2 r2
     .refine W4 pins s σ H _ _ v u Q I rx ry ⟨_,_,_,_,rfl,rfl,h1,h2,hx,by lia,λz=>?_,λ_ p hp=>q _ _ (.tup mo hp (r1.append r2))⟩
      subst z
      cases r2
      rw[mP]at q
      exact q _ _ (.same mo (.tup h1 r1))
  .cases e
 .cases e1:asL w1 with
  |none=>rw[e1]at e;cases e
  |some xs=>
   rw[e1]at e
   cases e2:asL w2 with
   |none=>rw[e2]at e;cases e
   |some ys=>
    rw[e2]at e
    simp only[pE]at e
    split at e
    .rename_i hz
     cases e
     obtain⟨a,xs',rfl,h1,r1⟩:=s1.l e1
     obtain⟨b,ys',rfl,h2,r2⟩:=s2.l e2
     have l1:=r1.length
     have l2:=r2.length
     exact aK pins s σ H _ _ v u Q I rx ry ⟨a,b,xs',ys',rfl,rfl,h1,h2,by lia,λp hp=>q _ _ (.lst mo hp (r1.append r2))⟩
    .cases e
noncomputable def bX:Op2:=λa b=>match a,b with
 | .val (.int i),.val (.int j)=>if Dp i j=true then Gc (.val (.int (i*j)))else none
 | .val (.tup xs),.val (.int k)=>if(!xs.isEmpty && decide (1<=k) && decide (xs.length*k.toNat<=sizeLine))=true then Gc (.val (.tup (jg k.toNat xs).flatten))else none
 |a,.val (.int k)=>(asL a).bind λxs=>if(decide (k<2^63) && decide (-(2^63)<=k) && decide (xs.length*k.toNat<=sizeLine))=true then Gc (.own (jg k.toNat xs).flatten)else none
 |_,_=>none
theorem Al.rep{K:W1}{M:Ms}{H:Hp}{xs:Wp V}{ds:Wp D}(h:Al K M H xs ds):∀n:Nat,Al K M H (jg n xs).flatten (jg n ds).flatten
 |0=>.nil
 |n+1=>by
  rw[lN,lN,mT,mT]
  exact h.append (Al.rep h n)
theorem R6:OpR X (binaryOp .Mult) (rOp X.K bX):=by
 intro pins s σ H x y v u Q I rx ry h
 obtain⟨M,w1,w2,r,e,mo,s1,s2,q⟩:=h
 unfold bX at e
 split at e
 .rename_i i j
  refine YB pins s σ H x y v u Q I rx ry ⟨M,_,_,r,?_,mo,s1,s2,q⟩
  unfold Z2 wI2
  show sV Wv.val (if Dp i j=true then Gc (D.int (i*j))else none)=Gc r
  split at e
  .rename_i hk
   rw[kJ hk]
   exact e
  .cases e
 .rename_i xs k
  split at e
  .rename_i hk
   rw[jW,jW]at hk
   cases e
   cases s2
   cases s1 with
   | @tup a ys _ h1 r1=>
     have l1:=r1.length
     have z:=jh hk.2
     have hk1:=jh hk.1.2
     have hne:ys≠[]:=λzz=>by
      subst zz
      cases r1
      exact absurd hk.1.1 (by decide)
     refine Xv pins s σ H _ _ v u Q I rx ry ⟨a,ys,k,rfl,rfl,h1,hne,hk1,by rw[l1];exact z,λe1=>?_,λ_ p hp=>q _ _ (.tup mo hp (r1.rep _))⟩
     subst e1
     have:(jg (1:Int).toNat xs).flatten=xs:=by simp
     rw[this]at q
     exact q _ _ (.same mo (.tup h1 r1))
  .cases e
 .rename_i k hn hn2
  cases e1:asL w1 with
  |none=>rw[e1]at e;cases e
  |some xs=>
   rw[e1]at e
   simp only[pE]at e
   split at e
   .rename_i hk
    rw[jW,jW]at hk
    cases e
    cases s2
    obtain⟨a,xs',rfl,h1,r1⟩:=s1.l e1
    have l1:=r1.length
    have z:=jh hk.2
    exact ZG pins s σ H _ _ v u Q I rx ry ⟨a,k,xs',rfl,rfl,h1,jh hk.1.2,jh hk.1.1,by rw[l1];exact z,λp hp=>q _ _ (.lst mo hp (r1.rep _))⟩
   .cases e
 .cases e
noncomputable def R3:Op1
 | .val (.int i)=>Gc (.val (.int (-i)))
 |_=>none
theorem JJ:UnR X (unaryOp .USub) (rUn X.K R3):=by
 intro pins s σ H x v Q I rx h
 obtain⟨M,w,r,e,mo,s1,q⟩:=h
 unfold R3 at e
 split at e
 .cases e
  cases s1
  exact ZW pins s σ H _ v Q I rx ⟨_,rfl,q _ _ (.same mo (.int _))⟩
 .cases e
noncomputable def JD:D->kG
 | .non=>true| .bl _=>true| .int _=>true| .str _=>true
 |_=>false
theorem Sh.flat{K:W1}{M:Ms}{H:Hp}{v:V}{w:Wv}(h:Sh K M H v w)(f:JD (fz w)=true):EA K M H v (fz w):=by
 cases w with
 |val d=>exact h
 |own ds=>cases f
noncomputable def inD(x:D)(xs:Wp D):kG:=xs.any λy=>deq y x
theorem Ql{K:W1}{M:Ms}{H:Hp}{v:V}{d:D}(h:EA K M H v d)(f:JD d=true):MY v=true:=by
 cases h<;>first|rfl|cases f
theorem Xe{K:W1}{M:Ms}{H:Hp}{v u:V}{d e:D}(h:EA K M H v d)(g:EA K M H u e)(f:JD d=true)(f':JD e=true):eqV v u=deq d e:=by
 cases h<;>first|(cases f;done)|skip
 all_goals (cases g<;>first|(cases f';done)|rfl)
theorem PU{K:W1}{M:Ms}{H:Hp}:∀{vs:Wp V} {ds:Wp D},Al K M H vs ds->ds.all JD=true->vs.all MY=true
 |_,_,.nil,_=>rfl
 |_,_,.cons h t,f=>by
  rw[qU,jW]at f⊢
  exact⟨Ql h f.1,PU t f.2⟩
theorem UP{K:W1}{M:Ms}{H:Hp}{u:V}{e:D}(g:EA K M H u e)(f':JD e=true):∀{vs:Wp V} {ds:Wp D},Al K M H vs ds->ds.all JD=true->inV u vs=inD e ds
 |_,_,.nil,_=>rfl
 |_,_,.cons h t,f=>by
  rw[qU,jW]at f
  have ih:=UP g f' t f.2
  unfold inV inD at ih⊢
  rw[qV,qV,ih,Xe h g f.1 f']
noncomputable def wIn(neg:kG):Op2:=λa b=>(asS b).bind λds=>if(JD (fz a) && ds.all JD)=true then Gc (.val (.bl (if neg then !inD (fz a) ds else inD (fz a) ds)))else none
theorem WU{M:Ms}{H:Hp}{x y:V}{w1 w2 r:Wv}{neg:kG}{Q:VK}(e:wIn neg w1 w2=Gc r)(mo:MOk M H)(s1:Sh X.K M H x w1)(s2:Sh X.K M H y w2)(q:∀v H',Nw X.K M H H' v r->Q v H'):rIn X.K neg x y H Q:=by
 unfold wIn at e
 cases e1:asS w2 with
 |none=>rw[e1]at e;cases e
 |some ds=>
  rw[e1]at e
  simp only[pE]at e
  split at e
  .rename_i hk
   rw[jW]at hk
   cases e
   obtain⟨a,xs,rfl,h3,h4⟩:=s2.s e1
   have g1:=s1.flat hk.1
   refine⟨a,xs,rfl,h3,Ql g1 hk.1,PU h4 hk.2,?_⟩
   rw[UP g1 hk.1 h4 hk.2]
   exact q _ _ (.same mo (.bl _))
  .cases e
theorem Ir:OpR X (compareOp .In) (rOp X.K (wIn false)):=by
 intro pins s σ H x y v u Q I rx ry h
 obtain⟨M,w1,w2,r,e,mo,s1,s2,q⟩:=h
 exact UD pins s σ H _ _ v u Q I rx ry (WU e mo s1 s2 q)
theorem LY:OpR X (compareOp .NotIn) (rOp X.K (wIn true)):=by
 intro pins s σ H x y v u Q I rx ry h
 obtain⟨M,w1,w2,r,e,mo,s1,s2,q⟩:=h
 exact OX pins s σ H _ _ v u Q I rx ry (WU e mo s1 s2 q)
noncomputable def isN:Wv->kG
 | .val .non=>true
 |_=>false
noncomputable def Ry(neg:kG):Op2:=λa b=>match b with
 | .val .non=>Gc (.val (.bl (if neg then !isN a else isN a)))
 |_=>none
theorem Xs{K:W1}{M:Ms}{H:Hp}{x:V}{w:Wv}(s:Sh K M H x w):decide (x=.non)=isN w:=by
 cases w with
 |own ds=>obtain⟨a,xs,rfl,_⟩:=s;rfl
 |val d=>cases s<;>rfl
theorem IS:OpR X (compareOp .IsNot) (rOp X.K (Ry true)):=by
 intro pins s σ H x y v u Q I rx ry h
 obtain⟨M,w1,w2,r,e,mo,s1,s2,q⟩:=h
 unfold Ry at e
 split at e
 .cases e
  cases s2
  refine XB pins s σ H _ _ v u Q I rx ry ⟨rfl,?_⟩
  rw[Xs s1]
  exact q _ _ (.same mo (.bl _))
 .cases e
theorem KZ{K:W1}{M:Ms}{H:Hp}{xs:Wp V}{ws:Wp Wv}{f:Op1}{r:Wv}(h:Shs K M H xs ws)(e:o1 f ws=Gc r):∃v w,xs=[v]/\ws=[w]/\Sh K M H v w/\f w=Gc r:=by
 cases h with
 |nil=>cases e
 |cons h1 t=>
  cases t with
  |cons h2 t=>cases e
  |nil=>exact⟨_,_,rfl,rfl,h1,e⟩
theorem QD{K:W1}{M:Ms}{H:Hp}{xs:Wp V}{ws:Wp Wv}{f:Op2}{r:Wv}(h:Shs K M H xs ws)(e:o2 f ws=Gc r):∃v w v' w',xs=[v,v']/\ws=[w,w']/\Sh K M H v w/\Sh K M H v' w'/\f w w'=Gc r:=by
 cases h with
 |nil=>cases e
 |cons h1 t=>
  cases t with
  |nil=>cases e
  |cons h2 t=>
   cases t with
   |cons h3 t=>cases e
   |nil=>exact⟨_,_,_,_,rfl,rfl,h1,h2,e⟩
noncomputable def Yc:Op1
 | .val (.int i)=>Gc (.val (.int (if i<0 then-i else i)))
 |_=>none
theorem Lg:FN X (.builtin "abs") (rN X.K (o1 Yc)):=by
 intro pins s σ H xs us Q I r h
 obtain⟨M,ws,w,e,mo,sh,q⟩:=h
 obtain⟨v,w1,rfl,rfl,s1,e1⟩:=KZ sh e
 unfold Yc at e1
 split at e1
 .cases e1
  cases s1
  exact VQ pins s σ H _ us Q I r ⟨_,rfl,q _ _ (.same mo (.int _))⟩
 .cases e1
noncomputable def bP:Op2:=wI2 λi j=>Gc (.int (if j>i then j else i))
noncomputable def Ya:Op2:=wI2 λi j=>Gc (.int (if j<i then j else i))
theorem Q0{f:Int->Int->jO D}{a b r:Wv}(e:wI2 f a b=Gc r):∃i j d,a=.val (.int i)/\b=.val (.int j)/\f i j=Gc d/\r=.val d:=by
 unfold wI2 at e
 split at e
 .rename_i i j
  cases e1:f i j with
  |none=>rw[e1]at e;cases e
  |some d=>rw[e1]at e;cases e;exact⟨i,j,d,rfl,rfl,e1,rfl⟩
 .cases e
theorem UQ(hc:X.calm=true):FN X (.builtin "max") (rN X.K (o2 bP)):=by
 intro pins s σ H xs us Q I r h
 obtain⟨M,ws,w,e,mo,sh,q⟩:=h
 obtain⟨v,w1,v',w2,rfl,rfl,s1,s2,e1⟩:=QD sh e
 obtain⟨i,j,d,rfl,rfl,e2,rfl⟩:=Q0 e1
 cases e2;cases s1;cases s2
 exact Tw hc pins s σ H _ us Q I r ⟨_,_,rfl,q _ _ (.same mo (.int _))⟩
theorem O2(hc:X.calm=true):FN X (.builtin "min") (rN X.K (o2 Ya)):=by
 intro pins s σ H xs us Q I r h
 obtain⟨M,ws,w,e,mo,sh,q⟩:=h
 obtain⟨v,w1,v',w2,rfl,rfl,s1,s2,e1⟩:=QD sh e
 obtain⟨i,j,d,rfl,rfl,e2,rfl⟩:=Q0 e1
 cases e2;cases s1;cases s2
 exact TN hc pins s σ H _ us Q I r ⟨_,_,rfl,q _ _ (.same mo (.int _))⟩
noncomputable def Fd:Op1:=λw=>(asS w).map λds=>.val (.tup ds)
theorem Bm:FN X (.type "tuple") (rN X.K (o1 Fd)):=by
 intro pins s σ H xs us Q I r h
 obtain⟨M,ws,w,e,mo,sh,q⟩:=h
 obtain⟨v,w1,rfl,rfl,s1,e1⟩:=KZ sh e
 unfold Fd at e1
 cases e2:asS w1 with
 |none=>rw[e2]at e1;cases e1
 |some ds=>
  rw[e2]at e1
  cases e1
  obtain⟨a,ys,rfl,h3,h4⟩:=s1.s e2
  refine Nm pins s σ H _ us Q I r ⟨a,ys,rfl,?_⟩
  rcases h3 with h3|h3
  .exact .inl ⟨h3,λl hl=>q _ _ (.tup mo hl h4)⟩
  .exact .inr ⟨h3,q _ _ (.same mo (.tup h3 h4))⟩
noncomputable def PR:Op1:=λw=>(asS w).map λds=>.own ds
theorem J5:FN X (.type "list") (rN X.K (o1 PR)):=by
 intro pins s σ H xs us Q I r h
 obtain⟨M,ws,w,e,mo,sh,q⟩:=h
 obtain⟨v,w1,rfl,rfl,s1,e1⟩:=KZ sh e
 unfold PR at e1
 cases e2:asS w1 with
 |none=>rw[e2]at e1;cases e1
 |some ds=>
  rw[e2]at e1
  cases e1
  obtain⟨a,ys,rfl,h3,h4⟩:=s1.s e2
  exact Oz pins s σ H _ us Q I r ⟨a,ys,rfl,h3,λl hl=>q _ _ (.lst mo hl h4)⟩
noncomputable def WJ:Op1
 | .val (.int i)=>Gc (.val (.int i))
 | .val (.bl b)=>Gc (.val (.int (if b then 1 else 0)))
 |_=>none
theorem Jv:FN X (.type "int") (rN X.K (o1 WJ)):=by
 intro pins s σ H xs us Q I r h
 obtain⟨M,ws,w,e,mo,sh,q⟩:=h
 obtain⟨v,w1,rfl,rfl,s1,e1⟩:=KZ sh e
 unfold WJ at e1
 split at e1
 .cases e1;cases s1
  exact Ov pins s σ H _ us Q I r (.inl ⟨_,rfl,q _ _ (.same mo (.int _))⟩)
 .cases e1;cases s1
  exact Ov pins s σ H _ us Q I r (.inr ⟨_,rfl,q _ _ (.same mo (.int _))⟩)
 .cases e1
noncomputable def kdW:Wv->jO St.Kd
 | .own _=>Gc .lst
 | .val .non=>Gc .non| .val (.bl _)=>Gc .bl| .val (.int _)=>Gc .int| .val (.str _)=>Gc .str| .val (.lst _)=>Gc .lst| .val (.dct _)=>Gc .dct| .val (.tup _)=>Gc .tup
 | .val (.ty _)=>none| .val (.scr _)=>none| .val (.ref _)=>none
end
section
variable{X:Cx}
theorem V8{K:W1}(k:St.Kd):mD K (.type k.ty) (.type "list")=Gc (k.isA "list"):=by
 cases k<;>rfl
noncomputable def RO(T:lx):kG:=T== "int" ||T== "bool" ||T== "tuple" ||T== "str" ||T== "list"
theorem Zp{K:W1}{T:lx}(h:RO T=true)(k:St.Kd):mD K (.type k.ty) (.type T)=Gc (k.isA T):=by
 unfold RO at h
 simp only[kq,nB]at h
 rcases h with(((rfl|rfl)|rfl)|rfl)|rfl
 .exact St.Xc k
 .exact St.Vj k
 .exact St.kit_tuple k
 .exact St.X7 k
 .exact V8 k
noncomputable def aM:Op2:=λa t=>match t with
 | .val (.ty T)=>if RO T=true then(kdW a).map λk=>.val (.bl (k.isA T))else none
 |_=>none
theorem Oa:FN X (.builtin "isinstance") (rN X.K (o2 aM)):=by
 intro pins s σ H xs us Q I r h
 obtain⟨M,ws,w,e,mo,sh,q⟩:=h
 obtain⟨v,w1,v',w2,rfl,rfl,s1,s2,e1⟩:=QD sh e
 unfold aM at e1
 split at e1
 .rename_i T
  split at e1
  .rename_i hT
   cases e2:kdW w1 with
   |none=>rw[e2]at e1;cases e1
   |some k=>
    rw[e2]at e1
    cases e1
    cases s2
    obtain⟨u1,u2,rfl,r1,r2⟩:=r.two
    cases (show u2=sI T from r2)
    have fin:∀tk,EP X pins σ Q (.bool (k.isA T)) {s with toks:=tk}:=λtk=>⟨.bl _,H,I.tok tk,rfl,q _ _ (.same mo (.bl _))⟩
    have kk:=Zp (K:=X.K) hT k
    cases w1 with
    |own ds=>
     cases e2
     obtain⟨a,ys,rfl,h1,_⟩:=s1
     exact Fz I r1 (.lst h1) kk fin
    |val d=>
     have s1':EA X.K M H v d:=s1
     cases s1' with
     |non=>cases e2;exact Fz I r1 .non kk fin
     |bl b=>cases e2;exact Fz I r1 (.bl b) kk fin
     |int b=>cases e2;exact Fz I r1 (.int b) kk fin
     |str b=>cases e2;exact Fz I r1 (.str b) kk fin
     |ty b=>cases e2
     |scr h=>cases e2
     |lst h n rr=>cases e2;exact Fz I r1 (.lst h) kk fin
     |dct h n rr=>cases e2;exact Fz I r1 (.dK h) kk fin
     |ref h=>cases e2
     |tup h rr=>
      cases e2
      rename_i a ys ds
      cases (show u1=kD a from r1)
      obtain⟨its,_,⟨o,h1,h2,_⟩,_⟩:=I.tuple h
      exact ko sN I.kIn ⟨o,h1,h2⟩ kk (λz=>nomatch z) fin
  .cases e1
 .cases e1
noncomputable def CS(fs:Wp Ev):Ev:=λE S=>(evs fs E S).bind λr=>if r.1.length<=sizeLine then Gc (.tup r.1,r.2)else none
noncomputable def VA(c:kG)(fs:Wp Ev):Ev:=λE S=>(evs fs E S).bind λr=>if r.1.length<=sizeLine then fin c (.own r.1) r.2 else none
abbrev JW:=VA false
abbrev Mm:=VA true
theorem Ar{es:Wp j4}{fs:Wp Ev}{k:Nat}{pos:Pos}(h:DEs X es fs):DE X (.Tuple es k pos) (CS fs):=⟨B9 (Y0 h.pe) λσ H Q z=>by
 obtain⟨M,E,S,d,S',e,r,st,q⟩:=z
 obtain⟨⟨ds,S1⟩,e1,e⟩:=BG e
 dsimp only at e
 split at e
 .cases e
  refine HW e1 r st λvs H1 M1 g1 st1 d1=>⟨by rw[d1.length];assumption,λp hp=>?_⟩
  have n:=Nw.tup st1.mo hp d1
  exact q _ _ M1 (g1.trans (.grow st1.mo n.grow)) (st1.grow n.grow) n.rel
 .cases e⟩
theorem Bw{c:kG}{es:Wp j4}{fs:Wp Ev}{pos:Pos}(h:DEs X es fs):DE X (.List es pos) (VA c fs):=⟨B9 (Zf h.pe) λσ H Q z=>by
 obtain⟨M,E,S,d,S',e,r,st,q⟩:=z
 obtain⟨⟨ds,S1⟩,e1,e⟩:=BG e
 dsimp only at e
 split at e
 .refine HW e1 r st λvs H1 M1 g1 st1 d1=>⟨by rw[d1.length];assumption,λp hp=>?_⟩
  obtain⟨M2,g2,st2,d2⟩:=(Nw.lst st1.mo hp d1).fin st1 e
  exact q _ _ M2 (g1.trans g2) st2 d2
 .cases e⟩
noncomputable def Jr(f g:Ev):Ev:=λE S=>(f E S).bind λr=>match r.1 with
 | .bl true=>g E r.2
 | .bl false=>Gc (.bl false,r.2)
 |_=>none
noncomputable def eOr(f g:Ev):Ev:=λE S=>(f E S).bind λr=>match r.1 with
 | .bl false=>g E r.2
 | .bl true=>Gc (.bl true,r.2)
 |_=>none
noncomputable def R1(f:Ev):Ev:=λE S=>(f E S).bind λr=>match r.1 with
 | .bl b=>Gc (.bl (!b),r.2)
 |_=>none
noncomputable def eIf(c f g:Ev):Ev:=λE S=>(c E S).bind λr=>match r.1 with
 | .bl true=>f E r.2
 | .bl false=>g E r.2
 |_=>none
theorem RA{K:W1}{M:Ms}{H:Hp}{v:V}{b:kG}(h:EA K M H v (.bl b)):v=.bl b:=by cases h;rfl
variable{a b c:j4}{rest:Wp j4}{f g h:Ev}{pos:Pos}
theorem HX{op:BoolOp}(h:DE X a f):DE X (.BoolOp op [a] pos) f:=⟨Zz h.pe⟩
theorem HR(ha:DE X a f)(hb:DE X (.BoolOp .And (b::rest) pos) g):DE X (.BoolOp .And (a::b::rest) pos) (Jr f g):=⟨B9 (Ym ha.pe hb.pe) λσ H Q z=>by
 obtain⟨M,E,S,d,S',e,r,st,q⟩:=z
 obtain⟨⟨d1,S1⟩,e1,e⟩:=BG e
 dsimp only at e
 refine⟨M,E,S,d1,S1,e1,r,st,λv H1 M1 g1 st1 r1=>?_⟩
 split at e
 .cases RA r1
  refine⟨_,rfl,?_⟩
  refine XI ?_
  exact⟨M1,E,S1,d,S',e,r.step g1.st,st1,λv H2 M2 g2 st2 r2=>q _ _ M2 (g1.trans g2) st2 r2⟩
 .cases e
  cases RA r1
  refine⟨_,rfl,?_⟩
  refine X9 ?_
  exact q _ _ M1 g1 st1 r1
 .cases e⟩
theorem ZX(ha:DE X a f):DE X (.UnaryOp .Not a pos) (R1 f):=⟨B9 (Zh ha.pe) λσ H Q z=>by
 obtain⟨M,E,S,d,S',e,r,st,q⟩:=z
 obtain⟨⟨d1,S1⟩,e1,e⟩:=BG e
 dsimp only at e
 split at e
 .cases e
  refine⟨M,E,S,_,_,e1,r,st,λv H1 M1 g1 st1 r1=>?_⟩
  cases RA r1
  exact⟨_,rfl,q _ _ M1 g1 st1 (.bl _)⟩
 .cases e⟩
noncomputable def tDT(K:W1)(f:Ev):TT:=λσ H Q=>∃M E S b S',f E S=Gc (.bl b,S')/\EnR K M E σ H/\StR K M S H/\∀H' M',Gr M H M' H'->StR K M' S' H'->Q b H'
structure DT(X:Cx)(e:j4)(f:Ev):Prop where
 pe:PT X e (tDT X.K f)
structure DW(X:Cx)(e:j4)(f:Ev):Prop where
 pe:PW X e (tDT X.K f)
theorem DW.dt(h:DW X a f):DT X a f:=⟨PW.pt h.pe⟩
theorem Yz{t:TE}(h:PT X a (aE t))(m:∀σ H Q,tD X.K f σ H Q->t σ H Q):DT X a f:=⟨Sy h λσ H Q z=>by
 obtain⟨M,E,S,b,S',e,r,st,q⟩:=z
 refine m _ _ _ ⟨M,E,S,_,S',e,r,st,λv H1 M1 g1 st1 r1=>?_⟩
 cases RA r1
 exact⟨_,rfl,q _ M1 g1 st1⟩⟩
theorem O5(h:DE X a f)(he:∀whole,isTrue a X.env whole=(do let v<-whole;standAt a.pos;holding [v] (truthy v)):=by intro _;rfl):DT X a f:=Yz (t:=tD X.K f) (aP h.pe he) λ_ _ _ z=>z
theorem Ac{fa fb:Ev}{op:CmpOp}{f:Op2}(ho:OpR X (compareOp op) (rOp X.K f))(ha:DE X a fa)(hb:DE X b fb)(hm:behindInMarks op b=false:=by rfl):DT X (.Compare a [op] [b] pos) (eOp (o2 f) [fa,fb]):=
 Yz (W8 ho ha.pe hb.pe hm) λ_ _ _ h=>Qd h
theorem Ox(ha:DT X a f):DT X (.UnaryOp .Not a pos) (R1 f):=⟨Sy (aV ha.pe) λσ H Q z=>by
 obtain⟨M,E,S,b,S',e,r,st,q⟩:=z
 obtain⟨⟨w1,S1⟩,e1,e⟩:=BG e
 dsimp only at e
 split at e
 .cases e
  exact⟨M,E,S,_,_,e1,r,st,q⟩
 .cases e⟩
theorem Iy(ha:DT X a f):DW X (.BoolOp .And [a] pos) f:=⟨XE ha.pe⟩
theorem QT(ha:DT X a f):DW X (.BoolOp .Or [a] pos) f:=⟨Z5 ha.pe⟩
theorem T9{e:j4}{t t':TT}(h:PW X e t)(m:∀σ H Q,t' σ H Q->t σ H Q):PW X e t':=λwh pins s σ H Q I q=>h wh pins s σ H Q I (m _ _ _ q)
theorem LX(ha:DT X a f)(hb:DW X (.BoolOp .And (b::rest) pos) g):DW X (.BoolOp .And (a::b::rest) pos) (Jr f g):=⟨T9 (ZZ ha.pe hb.pe) λσ H Q z=>by
 obtain⟨M,E,S,k,S',e,r,st,q⟩:=z
 obtain⟨⟨w1,S1⟩,e1,e⟩:=BG e
 dsimp only at e
 split at e
 .refine⟨M,E,S,_,S1,e1,r,st,λH1 M1 g1 st1=>?_⟩
  refine XI ?_
  exact⟨M1,E,S1,k,S',e,r.step g1.st,st1,λH2 M2 g2 st2=>q _ M2 (g1.trans g2) st2⟩
 .cases e
  refine⟨M,E,S,_,_,e1,r,st,λH1 M1 g1 st1=>?_⟩
  refine X9 ?_
  exact q _ M1 g1 st1
 .cases e⟩
theorem V3(ha:DT X a f)(hb:DW X (.BoolOp .Or (b::rest) pos) g):DW X (.BoolOp .Or (a::b::rest) pos) (eOr f g):=⟨T9 (dF ha.pe hb.pe) λσ H Q z=>by
 obtain⟨M,E,S,k,S',e,r,st,q⟩:=z
 obtain⟨⟨w1,S1⟩,e1,e⟩:=BG e
 dsimp only at e
 split at e
 .refine⟨M,E,S,_,S1,e1,r,st,λH1 M1 g1 st1=>?_⟩
  refine X9 ?_
  exact⟨M1,E,S1,k,S',e,r.step g1.st,st1,λH2 M2 g2 st2=>q _ M2 (g1.trans g2) st2⟩
 .cases e
  refine⟨M,E,S,_,_,e1,r,st,λH1 M1 g1 st1=>?_⟩
  refine XI ?_
  exact q _ M1 g1 st1
 .cases e⟩
theorem cj(hc:DT X c f)(ha:DE X a g)(hb:DE X b h):DE X (.IfExp c a b pos) (eIf f g h):=⟨B9 (Va hc.pe ha.pe hb.pe) λσ H Q z=>by
 obtain⟨M,E,S,d,S',e,r,st,q⟩:=z
 obtain⟨⟨w1,S1⟩,e1,e⟩:=BG e
 dsimp only at e
 split at e
 .refine⟨M,E,S,_,S1,e1,r,st,λH1 M1 g1 st1=>?_⟩
  refine XI ?_
  exact⟨M1,E,S1,d,S',e,r.step g1.st,st1,λv H2 M2 g2 st2 r2=>q _ _ M2 (g1.trans g2) st2 r2⟩
 .refine⟨M,E,S,_,S1,e1,r,st,λH1 M1 g1 st1=>?_⟩
  refine X9 ?_
  exact⟨M1,E,S1,d,S',e,r.step g1.st,st1,λv H2 M2 g2 st2 r2=>q _ _ M2 (g1.trans g2) st2 r2⟩
 .cases e⟩
end
inductive Fl where
 |nx
 |ret (d:D)
abbrev Ex:=En->Sto->jO (Fl×En×Sto)
def End(K:W1)(M:Ms)(H:Hp)(Dn:Ends)(E':En)(S':Sto):Fl->Prop
 | .nx=>∀σ' H' M',Gr M H M' H'->EnR K M' E' σ' H'->StR K M' S' H'->Dn.nx σ' H'
 | .ret d=>∀v H' M',Gr M H M' H'->StR K M' S' H'->EA K M' H' v d->Dn.rt v H'
noncomputable def tX(K:W1)(f:Ex):TS:=λDn σ H=>∃M E S fl E' S',f E S=Gc (fl,E',S')/\EnR K M E σ H/\StR K M S H/\End K M H Dn E' S' fl
structure DS(X:Cx)(st:kE)(f:Ex):Prop where
 pe:PS X st (tX X.K f)
structure DSs(X:Cx)(st:Wp kE)(f:Ex):Prop where
 pe:PSs X st (tX X.K f)
theorem GQ{X:Cx}{e:kE}{t t':TS}(h:PS X e t)(m:∀Dn σ H,t' Dn σ H->t Dn σ H):PS X e t':=λpins s σ H Dn I q=>h pins s σ H Dn I (m _ _ _ q)
theorem QW{X:Cx}{e:Wp kE}{t t':TS}(h:PSs X e t)(m:∀Dn σ H,t' Dn σ H->t Dn σ H):PSs X e t':=λpins s σ H Dn I q=>h pins s σ H Dn I (m _ _ _ q)
theorem End.later{K:W1}{M M1:Ms}{H H1:Hp}{Dn:Ends}{E':En}{S':Sto}{fl:Fl}(q:End K M H Dn E' S' fl)(g:Gr M H M1 H1):End K M1 H1 Dn E' S' fl:=by
 cases fl with
 |nx=>exact λσ' H' M' g' r st=>q σ' H' M' (g.trans g') r st
 |ret d=>exact λv H' M' g' st r=>q v H' M' (g.trans g') st r
noncomputable def Ad(f g:Ex):Ex:=λE S=>(f E S).bind λr=>match r.1 with
 | .nx=>g r.2.1 r.2.2
 | .ret w=>Gc (.ret w,r.2)
noncomputable def EC:Ex:=λE S=>Gc (.nx,E,S)
section
variable{X:Cx}{st:kE}{rest a b:Wp kE}{f g h:Ex}{c e:j4}{k:Ev}{pos:Pos}
theorem Ap:DSs X [] EC:=⟨QW Xw λDn σ H z=>by
 obtain⟨M,E,S,fl,E',S',e,r,st,q⟩:=z
 cases e
 exact q _ _ M (.refl st.mo) r st⟩
theorem AH(h1:DS X st f)(h2:DSs X rest g):DSs X (st::rest) (Ad f g):=⟨QW (Qc h1.pe h2.pe) λDn σ H z=>by
 obtain⟨M,E,S,fl,E',S',e,r,st,q⟩:=z
 obtain⟨⟨f1,E1,S1⟩,e1,e⟩:=BG e
 dsimp only at e
 split at e
 .exact⟨M,E,S,.nx,E1,S1,e1,r,st,λσ1 H1 M1 g1 r1 st1=>⟨M1,E1,S1,fl,E',S',e,r1,st1,q.later g1⟩⟩
 .cases e
  exact⟨M,E,S,.ret _,_,_,e1,r,st,q⟩⟩
theorem AK(h1:DS X st f):DSs X [st] f:=⟨Pw h1.pe⟩
noncomputable def xIf(c:Ev)(f g:Ex):Ex:=λE S=>(c E S).bind λr=>match r.1 with
 | .bl true=>f E r.2
 | .bl false=>g E r.2
 |_=>none
theorem Bz(hc:DT X c k)(ha:DSs X a f)(hb:DSs X b g):DS X (.If c a b pos) (xIf k f g):=⟨GQ (eA hc.pe ha.pe hb.pe) λDn σ H z=>by
 obtain⟨M,E,S,fl,E',S',e,r,st,q⟩:=z
 obtain⟨⟨w1,S1⟩,e1,e⟩:=BG e
 dsimp only at e
 split at e
 .refine⟨M,E,S,_,S1,e1,r,st,λH1 M1 g1 st1=>?_⟩
  refine XI ?_
  exact⟨M1,E,S1,fl,E',S',e,r.step g1.st,st1,q.later g1⟩
 .refine⟨M,E,S,_,S1,e1,r,st,λH1 M1 g1 st1=>?_⟩
  refine X9 ?_
  exact⟨M1,E,S1,fl,E',S',e,r.step g1.st,st1,q.later g1⟩
 .cases e⟩
noncomputable def Ba(k:Ev):Ex:=λE S=>(k E S).map λr=>(.ret r.1,E,r.2)
theorem AV(h:DE X e k):DS X (.Return (Gc e) pos) (Ba k):=⟨GQ (WY h.pe) λDn σ H z=>by
 obtain⟨M,E,S,fl,E',S',e,r,st,q⟩:=z
 obtain⟨⟨d,S1⟩,e1,e⟩:=LM e
 cases e
 exact⟨M,E,S,d,S1,e1,r,st,λv H1 M1 g1 st1 r1=>q _ _ M1 g1 st1 r1⟩⟩
end
section
variable{K:W1}{M:Ms}{E:En}{σ:Sg}{H:Hp}{i:Nat}{d:D}{v:V}
theorem EnR.put(r:EnR K M E σ H)(rd:EA K M H v d):EnR K M (E.set i (Gc d)) (σ.set i (Gc v)) H:=by
 refine⟨by rw[lq,lq];exact r.len,λj e ej=>?_⟩
 by_cases h:i=j
 .subst h
  by_cases hi:i<E.length
  .rw[jj hi]at ej
   cases ej
   exact⟨v,jj (by rw[<-r.len];exact hi),rd⟩
  .rw[List.getElem?_eq_none_iff.mpr (by rw[lq];lia)]at ej;cases ej
 .rw[jU h]at ej
  obtain⟨v',h1,h2⟩:=r.val j e ej
  exact⟨v',by rw[jU h];exact h1,h2⟩
end
noncomputable def By(i:Nat)(k:Ev):Ex:=λE S=>(k E S).map λr=>(.nx,E.set i (Gc r.1),r.2)
theorem Ah{X:Cx}{e:j4}{k:Ev}{pos pos':Pos}(i:Nat){x:Str}(h:DE X e k)(hN:X.N.Nodup)(hi:X.N[i]?=Gc x:=by rfl)(hx:Loc X.env.scope x:=by first|exact Or.inl rfl|exact Or.inr rfl)(hs:swapsWith e (Gc (.Name x pos')) pos.line X.env=pure false:=by rfl)(hf:X.fn x=true\/X.env.scope.names.lookup x=Gc .local:=by first|exact .inl rfl|exact .inr rfl):DS X (.Assign [.Name x pos'] e pos) (By i k):=⟨
 GQ (Yx hN hi hx h.pe hs hf) λDn σ H z=>by
  obtain⟨M,E,S,fl,E',S',e,r,st,q⟩:=z
  obtain⟨⟨d,S1⟩,e1,e⟩:=LM e
  cases e
  exact⟨M,E,S,d,S1,e1,r,st,λv H1 M1 g1 st1 r1=>q _ _ M1 g1 ((r.step g1.st).put r1) st1⟩⟩
noncomputable def Df(k:Ev):Ex:=λE S=>(k E S).map λr=>(.nx,E,r.2)
theorem Ck{X:Cx}{e:j4}{k:Ev}{pos:Pos}(h:DE X e k)(hs:swapsWith e none pos.line X.env=pure false:=by rfl):DS X (.Expr e pos) (Df k):=⟨GQ (Ue h.pe hs) λDn σ H z=>by
 obtain⟨M,E,S,fl,E',S',e,r,st,q⟩:=z
 obtain⟨⟨d,S1⟩,e1,e⟩:=LM e
 cases e
 exact⟨M,E,S,d,S1,e1,r,st,λv H1 M1 g1 st1 r1=>q _ _ M1 g1 (r.step g1.st) st1⟩⟩
noncomputable def E7(S:Sto)(n:Nat):jO (Wp D):=match S[n]? with
 |some (.lst ds)=>Gc ds
 |_=>none
theorem FO{S:Sto}{n:Nat}{ds:Wp D}(h:E7 S n=Gc ds):S[n]?=Gc (.lst ds):=by
 unfold E7 at h
 split at h
 .rename_i e
  cases h
  exact e
 .cases h
abbrev Mo:=Sto->Wp D->Wp D->jO (D×Wp D)
noncomputable def Pe(op:Mo)(f:Ev)(fs:Wp Ev):Ev:=λE S=>(f E S).bind λr=>match r.1 with
 | .ref n=>(E7 r.2 n).bind λ_=>(evs fs E r.2).bind λp=>(E7 p.2 n).bind λds=>(op p.2 ds p.1).map λq=>(q.1,p.2.set n (.lst q.2))
 |_=>none
def bT(K:W1)(op:Mo):V->Wp V->Hp->VK->Prop:=λx vs H Q=>∃M S n a ds args d ds',x=.ref a/\M.cel[n]?=Gc a/\S[n]?=Gc (.lst ds)/\op S ds args=Gc (d,ds')/\StR K M S H/\Al K M H vs args/\∀v H',StR K M (S.set n (.lst ds')) H'->Gr M H M H'->EA K M H' v d->Q v H'
section
variable{X:Cx}
theorem ZL{op:Mo}{f:Ev}{fs:Wp Ev}{σ:Sg}{H:Hp}{Q:VK}(h:tD X.K (Pe op f fs) σ H Q):tBM X.K "list" (bT X.K op) (tD X.K f) (tDs X.K fs) σ H Q:=by
 obtain⟨M,E,S,d,S',e,r,st,q⟩:=h
 obtain⟨⟨d1,S1⟩,e1,e⟩:=BG e
 dsimp only at e
 split at e
 .rename_i n
  obtain⟨ds0,e2,e⟩:=BG e
  obtain⟨⟨args,S2⟩,e3,e⟩:=BG e
  obtain⟨ds,e4,e⟩:=BG e
  obtain⟨⟨dd,ds'⟩,e5,e⟩:=LM e
  cases e
  refine⟨M,E,S,_,S1,e1,r,st,λv H1 M1 g1 st1 r1=>?_⟩
  cases r1 with
  |ref hc=>
   rename_i a
   obtain⟨xs,h1,h2⟩:=st1.cell n a _ hc (FO e2)
   refine⟨.inl ⟨rfl,xs,.of h1⟩,?_⟩
   refine HW e3 (r.step g1.st) st1 λvs H2 M2 g2 st2 r2=>?_
   exact⟨M2,S2,n,a,ds,args,dd,ds',rfl,Ng g2.pre hc,FO e4,e5,st2,r2,λv H3 st3 g3 r3=>q _ _ M2 ((g1.trans g2).trans g3) st3 r3⟩
 .cases e
theorem Kp{id:lx}{name:Str}{o e:j4}{es:Wp j4}{op:Mo}{f:Ev}{fs:Wp Ev}{apos cpos:Pos}(slot:Slot "list" name id)(hty:typeOf (.builtin id)=pure (.type "method_descriptor"))(hm:MtR X id (bT X.K op))(ho:DE X o f)(ha:DEs X (e::es) fs)(hbase:attributeBase o name X.env (eval o X.env)=eval o X.env:=by rfl)(hfew:((backTo cpos (ju (e::es) X.env)).all (λx=> !x.1) && (backToKw cpos (keywordEach [] X.env)).all (λx=>x.1.isSome) && decide ((e::es).length+([]:Wp uV).length+(if([]:Wp uV).isEmpty then 0 else 1)<30))=true:=by rfl)(hline:(apos.endLine==cpos.line)=true:=by rfl)(hs:ju (e::es) X.env=(false,eval e X.env)::ju es X.env:=by rfl)(hplain:(backTo cpos (ju es X.env)).any (·.1)=false:=by rfl):DE X (.Call (.Attribute o name apos) (e::es) [] cpos) (Pe op f fs):=⟨B9 (dE PySem.F.plainAttrs_list slot hty hm ho.pe ha.pe hbase hfew hline hs hplain) λσ H Q z=>ZL z⟩
noncomputable def P9:Mo
 |_,ds,[x]=>if ds.length<sizeLine then Gc (.non,ds++[x])else none
 |_,_,_=>none
theorem Qp{K:W1}{M:Ms}{H:Hp}{vs:Wp V}{d:D}(h:Al K M H vs [d]):∃v,vs=[v]/\EA K M H v d:=by
 cases h with
 |cons h t=>cases t;exact⟨_,rfl,h⟩
theorem JU:MtR X "list.append" (bT X.K P9):=by
 intro pins s σ H x vs v us Q I rx rv h
 obtain⟨M,S,n,a,ds,args,d,ds',rfl,hc,hn,e,st,ra,q⟩:=h
 unfold P9 at e
 split at e
 .split at e
  .rename_i hz
   cases e
   obtain⟨xs,h1,h2⟩:=st.cell n a _ hc hn
   obtain⟨y,rfl,ry⟩:=Qp ra
   obtain⟨st2,g2⟩:=st.chg hc hn (h2.append (.cons ry .nil))
   exact Ow pins s σ H _ _ v us Q I rx rv ⟨a,xs,y,rfl,rfl,h1,by rw[h2.length];exact hz,q _ _ st2 g2 .non⟩
  .cases e
 .cases e
end
noncomputable def NN(k f o:Ev):Ex:=λE S=>(k E S).bind λr=>(f E r.2).bind λb=>(o E b.2).bind λi=>match b.1,i.1 with
 | .ref n,.int j=>(E7 i.2 n).bind λds=>(ixN ds.length j).map λm=>(.nx,E,i.2.set n (.lst (ds.set m r.1)))
 |_,_=>none
theorem CB {X : Cx} {e t bs : j4} {k f o : Ev} {ps pos : Pos} (h : DE X e k) (hb : DE X bs f) (ht : DE X t o) (ha : ∀ v, assign (.Subscript bs t ps) X.env v = (do
      let ov ← holding [v] (eval bs X.env)
      let iv ← holding [v, ov] (eval t X.env)
      standAt ps
      holding [v, ov, iv] (setItem ov iv v)
      release [v, ov, iv] []) := by intro _; rfl)
    (hs : swapsWithSole [.Subscript bs t ps] e pos.line X.env = pure false := by rfl) (hw : swappedStores [.Subscript bs t ps] e X.env = pure none := by rfl)
    (h1 : (assignEach [.Subscript bs t ps] X.env).map (·.2) = [assign (.Subscript bs t ps) X.env] := by rfl) :
    DS X (.Assign [.Subscript bs t ps] e pos) (NN k f o) := ⟨
  GQ (WG h.pe (Yv hb.pe ht.pe set_list ha) hs hw h1) fun Dn σ H z => by
    obtain ⟨M, E, S, fl, E', S', e, r, st, q⟩ := z
    obtain ⟨⟨d, S1⟩, e1, e⟩ := BG e
    obtain ⟨⟨b, S2⟩, e2, e⟩ := BG e
    obtain ⟨⟨i, S3⟩, e3, e⟩ := BG e
    dsimp only at e e1 e2 e3
    split at e
    · rename_i n j _
      obtain ⟨ds, e4, e⟩ := BG e
      obtain ⟨m, e5, e⟩ := LM e
      cases e
      refine ⟨M, E, S, d, S1, e1, r, st, fun v H1 M1 g1 st1 r1 => ?_⟩
      refine ⟨M1, E, S1, _, S2, e2, r.step g1.st, st1, fun bv H2 M2 g2 st2 r2 => ?_⟩
      refine ⟨M2, E, S2, _, S3, e3, (r.step g1.st).step g2.st, st2, fun iv H3 M3 g3 st3 r3 => ?_⟩
      cases r3
      cases r2 with
      | ref hc =>
        rename_i a
        have hc3 := Ng g3.pre hc
        obtain ⟨xs, h1, h2⟩ := st3.cell n a _ hc3 (FO e4)
        obtain ⟨st4, g4⟩ := st3.chg hc3 (FO e4) (h2.set ((r1.step g2.st).step g3.st) m)
        have g := ((g1.trans g2).trans g3).trans g4
        exact ⟨a, xs, j, m, rfl, rfl, h1, by rw [h2.length]; exact e5, q _ _ M3 g (r.step g.st) st4⟩
    · cases e⟩
abbrev Fn:=Wp D->Sto->jO (D×Sto)
noncomputable def flD:Fl->D
 | .nx=>.non
 | .ret d=>d
noncomputable def A6(N:Nat)(body:Ex):Fn:=λds S=>(body (ds.map Gc++jg (N-ds.length) none) S).map λr=>(flD r.1,r.2.2)
def Av{α:Type}(a:α):α:=Classical.choose (⟨a,rfl⟩:∃x,x=a)
theorem OL{α:Type}(a:α):Av a=a:=wu (⟨a,rfl⟩:∃x,x=a)
noncomputable def spD(K:W1)(np:Nat)(f:Fn):Sp:=λvs H Q _=>∃M ds S d S',ds.length=np/\f ds S=Gc (d,S')/\Al K M H vs ds/\StR K M S H/\∀v H' M',Gr M H M' H'->StR K M' S' H'->EA K M' H' v d->Q v H'
theorem PY{α:Type}{xs:Wp α}{i:Nat}{x:α}(h:(xs.map Gc)[i]?=Gc (Gc x)):xs[i]?=Gc x:=by
 rw[jq]at h
 cases e:xs[i]? with
 |none=>rw[e]at h;cases h
 |some y=>rw[e]at h;cases h;rfl
theorem TV{α:Type}{xs:Wp (jO α)}{k i:Nat}{x:α}(h:(xs++jg k none)[i]?=Gc (Gc x)):xs[i]?=Gc (Gc x):=by
 by_cases hi:i<xs.length
 .rw[jT hi]at h;exact h
 .rw[kS (by lia),qd]at h
  split at h<;>cases h
theorem Xd{α:Type}{xs:Wp (jO α)}{k i:Nat}{x:jO α}(h:xs[i]?=Gc x):(xs++jg k none)[i]?=Gc x:=by
 rw[jT (jb.mp h).1];exact h
theorem EnR.args{K:W1}{M:Ms}{H:Hp}{vs:Wp V}{ds:Wp D}(r:Al K M H vs ds)(k:Nat):EnR K M (ds.map Gc++jg k none) (vs.map Gc++jg k none) H:=by
 refine⟨by simp[r.length],λi d e=>?_⟩
 obtain⟨v,h1,h2⟩:=r.get (PY (TV e))
 exact⟨v,Xd (by rw[jq,h1];rfl),h2⟩
section
variable{P:js}{w:j6}{K:W1}{mg:Str->jO jN}{base:j0}
theorem Y6{x:Str}{st:kE}{f:jR}{fd:lE}{N ps:Wp Str}{k np:Nat}{b:Ex}(Fu:Fun K x x st f fd)(S:AQ N ps (AI st))(hp:ps.length=np)(hb:∀(cdv:jN) (A:kK) (outer:Wp oO) (s:jQ) (H:Hp) (E:XK),JX k (A.deeper (lr x (AI st) s.heap.objs.size f cdv))->DSs (QC CX0 P w K mg base N x (AI st) f cdv A outer s H E).nox (DL st) b):MU P w K mg base CX0 (k+1) f fd ps (spD K np (Av (A6 N.length b))):=by
 rw[OL]
 refine Fu.ok S (λvs H Q E h=>?_) (λcdv A outer s H vs Q E hr h=>?_)
 .obtain⟨M,ds,S0,d,S',hl,_,r,_⟩:=h
  have:=r.length
  lia
 .obtain⟨M,ds,S0,d,S',hl,e,r,st,q⟩:=h
  have hlen:=r.length
  refine⟨_,(hb cdv A outer s H E hr).pe,?_⟩
  obtain⟨⟨fl,E',S1⟩,e1,e⟩:=LM e
  cases e
  refine⟨M,_,S0,fl,E',S1,e1,?_,st,?_⟩
  .rw[show L2.start N vs=vs.map Gc++jg (N.length-ds.length) none from by unfold L2.start;rw[hlen]]
   exact .args r _
  .cases fl with
   |nx=>exact λσ' H' M' g _ st'=>q _ _ M' g st' .non
   |ret d=>exact λv H' M' g st' r'=>q _ _ M' g st' r'
theorem Zy{x:Str}{st:kE}{N ps:Wp Str}{k np:Nat}{b:Ex}(S:St.Src K mg x st)(sc:AQ N ps (AI st))(hp:ps.length=np)(hbi:∀f fd,Fun K x x st f fd->Binds K fd ps [])(hb:∀(f:jR) (cdv:jN) (A:kK) (outer:Wp oO) (s:jQ) (H:Hp) (E:XK),JX k (A.deeper (lr x (AI st) s.heap.objs.size f cdv))->DSs (QC CX0 P w K mg base N x (AI st) f cdv A outer s H E).nox (DL st) b):St.Dfn P w K mg base x (k+1) ps (spD K np (Av (A6 N.length b))):=by
 obtain⟨f,fd,Fu,hm⟩:=S.ex
 exact⟨f,fd,hm,Fu.kp,hbi f fd Fu,Y6 Fu sc hp λcdv A outer s H E hr=>hb f cdv A outer s H E hr⟩
end
noncomputable def AM(f:Fn)(fs:Wp Ev):Ev:=λE S=>(evs fs E S).bind λr=>f r.1 r.2
theorem XN{K:W1}{np:Nat}{f:Fn}{fs:Wp Ev}{σ:Sg}{H:Hp}{Q:VK}(hn:fs.length=np)(h:tD K (AM f fs) σ H Q):X3 (spD K np f) [] E0 (tDs K fs) σ H Q:=by
 obtain⟨M,E,S,d,S',e,r,st,q⟩:=h
 obtain⟨⟨ds,S1⟩,e1,e⟩:=BG e
 refine HW e1 r st λvs H1 M1 g1 st1 r1=>?_
 rw[mP]
 exact⟨M1,ds,S1,d,S',by rw[L9 e1];exact hn,e,r1,st1,λv H2 M2 g2 st2 r2=>q _ _ M2 (g1.trans g2) st2 r2⟩
theorem Xn{X:Cx}{k np:Nat}{x:Str}{ps:Wp Str}{f:Fn}{e:j4}{es:Wp j4}{fs:Wp Ev}{p pos:Pos}(d:St.Dfn X.prog X.w X.K X.mg X.base x k ps (spD X.K np f))(hr:JX k X.A)(hg:Gl X x)(ha:DEs X (e::es) fs)(hn:fs.length=np:=by rfl)(hdb:(x==("__debug__":Str))=false:=by decide)(he:ju (e::es) X.env=(false,eval e X.env)::ju es X.env:=by rfl)(hpl:(backTo pos (ju es X.env)).any (·.1)=false:=by rfl):DE X (.Call (.Name x p) (e::es) [] pos) (AM f fs):=⟨B9 (St.dH d hr hg ha.pe hdb he hpl) λσ H Q z=>XN hn z⟩
abbrev Tf:=D->En->Sto->jO En
noncomputable def tG(K:W1)(t:Tf):TG:=λv σ H Q=>∃M d E E' S,t d E S=Gc E'/\EnR K M E σ H/\StR K M S H/\EA K M H v d/\∀σ',EnR K M E' σ' H->Q σ' H
structure DG(X:Cx)(tg:j4)(t:Tf):Prop where
 pe:PG X tg (tG X.K t)
noncomputable def tNm(i:Nat):Tf:=λd E _=>Gc (E.set i (Gc d))
theorem UR{X:Cx}{e:j4}{t t':TG}(h:PG X e t)(m:∀v σ H Q,t' v σ H Q->t v σ H Q):PG X e t':=λpins s σ H v u Q I r q=>h pins s σ H v u Q I r (m _ _ _ _ q)
theorem Af{X:Cx}{pos:Pos}(i:Nat){x:Str}(hN:X.N.Nodup)(hi:X.N[i]?=Gc x:=by rfl)(hx:Loc X.env.scope x:=by first|exact Or.inl rfl|exact Or.inr rfl)(hf:X.fn x=true\/X.env.scope.names.lookup x=Gc .local:=by first|exact .inl rfl|exact .inr rfl):DG X (.Name x pos) (tNm i):=⟨UR (Xr hN hi hx hf) λv σ H Q z=>by
 obtain⟨M,d,E,E',S,e,r,st,rd,q⟩:=z
 cases e
 exact q _ (r.put rd)⟩
noncomputable def tMs:Wp Tf->Wp D->En->Sto->jO En
 | [],[],E,_=>Gc E
 |t::ts,d::ds,E,S=>(t d E S).bind λE1=>tMs ts ds E1 S
 |_,_,_,_=>none
noncomputable def tTp(ts:Wp Tf):Tf:=λd E S=>match d with
 | .tup ds=>tMs ts ds E S
 | .lst ds=>tMs ts ds E S
 | .ref n=>(E7 S n).bind λds=>tMs ts ds E S
 |_=>none
noncomputable def tGs(K:W1):Wp Tf->TGs
 | []=>fU
 |t::ts=>Yl (tG K t) (tGs K ts)
theorem QU{K:W1}{M:Ms}{H:Hp}{S:Sto}(st:StR K M S H):∀{ts:Wp Tf} {ds:Wp D} {vs:Wp V} {E E':En} {σ:Sg} {Q:Sg->Hp->Prop},tMs ts ds E S=Gc E'->EnR K M E σ H->Al K M H vs ds->(∀σ',EnR K M E' σ' H->Q σ' H)->tGs K ts vs σ H Q
 | [],[],_,E,E',σ,Q,e,r,rd,q=>by
   cases e
   cases rd
   exact⟨rfl,q _ r⟩
 |t::ts,d::ds,_,E,E',σ,Q,e,r,rd,q=>by
  obtain⟨E1,e1,e⟩:=BG e
  cases rd with
  |cons h1 h2=>exact⟨_,_,rfl,M,d,E,E1,S,e1,r,st,h1,λσ1 r1=>QU st e r1 h2 q⟩
 | [],_::_,_,E,E',σ,Q,e,r,rd,q=>by cases e
 |_::_,[],_,E,E',σ,Q,e,r,rd,q=>by cases e
theorem OJ:∀{ts:Wp Tf} {ds:Wp D} {E E':En} {S:Sto},tMs ts ds E S=Gc E'->ds.length=ts.length
 | [],[],_,_,_,_=>rfl
 |t::ts,d::ds,E,E',S,e=>by
  obtain⟨E1,e1,e⟩:=BG e
  simp[OJ e]
 | [],_::_,_,_,_,e=>by cases e
 |_::_,[],_,_,_,e=>by cases e
structure DGs(X:Cx)(es:Wp j4)(ts:Wp Tf):Prop where
 pe:PGs X es (tGs X.K ts)
theorem Bb{X:Cx}:DGs X [] []:=⟨YV⟩
theorem AO{X:Cx}{e:j4}{es:Wp j4}{t:Tf}{ts:Wp Tf}(h:DG X e t)(g:DGs X es ts)(hs:(assignEach (e::es) X.env).map (·.2)=assign e X.env::(assignEach es X.env).map (·.2):=by rfl):DGs X (e::es) (t::ts):=⟨Vb h.pe g.pe hs⟩
theorem Eg{X:Cx}{k:Nat}{es:Wp j4}{ts:Wp Tf}{pos:Pos}(hc:X.calm=true)(h:DGs X es ts)(hn:(assignEach es X.env).length=ts.length:=by rfl)(hst:(assignEach es X.env).findIdx? (·.1)=none:=by rfl):DG X (.Tuple es k pos) (tTp ts):=⟨
 UR (aZ hc h.pe hn hst) λv σ H Q z=>by
  obtain⟨M,d,E,E',S,e,r,st,rd,q⟩:=z
  unfold tTp at e
  split at e
  .cases rd with
   |tup h1 h2=>exact⟨_,_,rfl,.inl h1,by rw[h2.length];exact OJ e,QU st e r h2 q⟩
  .cases rd with
   |lst h1 n h2=>exact⟨_,_,rfl,.inr h1,by rw[h2.length];exact OJ e,QU st e r h2 q⟩
  .obtain⟨ds,e1,e⟩:=BG e
   cases rd with
   |ref hc=>
    obtain⟨xs,h1,h2⟩:=st.cell _ _ _ hc (FO e1)
    exact⟨_,_,rfl,.inr h1,by rw[h2.length];exact OJ e,QU st e r h2 q⟩
  .cases e⟩
noncomputable def Ml(t:Tf)(k:Ev):Ex:=λE S=>(k E S).bind λr=>(t r.1 E r.2).map λE'=>(.nx,E',r.2)
theorem FA{X:Cx}{tg e:j4}{t:Tf}{k:Ev}{pos:Pos}(h:DE X e k)(hg:DG X tg t)(hs:swapsWithSole [tg] e pos.line X.env=pure false:=by rfl)(hw:swappedStores [tg] e X.env=pure none:=by rfl)(h1:(assignEach [tg] X.env).map (·.2)=[assign tg X.env]:=by rfl):DS X (.Assign [tg] e pos) (Ml t k):=⟨GQ (WG h.pe hg.pe hs hw h1) λDn σ H z=>by
 obtain⟨M,E,S,fl,E',S',e,r,st,q⟩:=z
 obtain⟨⟨d,S1⟩,e1,e⟩:=BG e
 obtain⟨E2,e2,e⟩:=LM e
 cases e
 exact⟨M,E,S,d,S1,e1,r,st,λv H1 M1 g1 st1 r1=>⟨M1,d,E,_,S1,e2,r.step g1.st,st1,r1,λσ' r2=>q _ _ M1 g1 r2 st1⟩⟩⟩
noncomputable def Rm(i j:Nat)(f g:Ev):Ex:=λE S=>(evs [f,g] E S).bind λr=>match r.1 with
 | [d,d']=>Gc (.nx,(E.set i (Gc d)).set j (Gc d'),r.2)
 |_=>none
theorem Ki{X:Cx}{i j:Nat}{x y:Str}{a b:j4}{f g:Ev}{px py pt:Pos}{kt k2:Nat}{pt2 pos:Pos}(hc:X.calm=true)(hN:X.N.Nodup)(hi:X.N[i]?=Gc x)(hj:X.N[j]?=Gc y)(hij:i≠j)(hx:X.env.scope.names.lookup x=Gc .local)(hy:X.env.scope.names.lookup y=Gc .local)(ha:DE X a f)(hb:DE X b g)(hw:swappedStores [.Tuple [.Name x px,.Name y py] kt pt] (.Tuple [a,b] k2 pt2) X.env=pure (Gc [x,y]):=by rfl)(hsa:ju [a,b] X.env=(false,eval a X.env)::ju [b] X.env:=by rfl)(hsb:ju [b] X.env=(false,eval b X.env)::ju [] X.env:=by rfl)(hs:swapsWithSole [.Tuple [.Name x px,.Name y py] kt pt] (.Tuple [a,b] k2 pt2) pos.line X.env=pure false:=by rfl):DS X (.Assign [.Tuple [.Name x px,.Name y py] kt pt] (.Tuple [a,b] k2 pt2) pos) (Rm i j f g):=⟨by
 refine GQ (Yq hc hN hi hj hij hx hy (KY ha.pe (KY hb.pe QM hsb) hsa) hw hs) λDn σ H z=>?_
 obtain⟨M,E,S,fl,E',S',e,r,st,q⟩:=z
 obtain⟨⟨ds,S1⟩,e1,e⟩:=BG e
 refine HW (K:=X.K) (fs:=[f,g]) e1 r st λvs H1 M1 g1 st1 r1=>?_
 dsimp only at e
 split at e
 .rename_i d d'
  cases e
  cases r1 with
  |cons h1 t=>
   cases t with
   |cons h2 t=>
    cases t
    exact⟨_,_,rfl,q _ _ M1 g1 (((r.step g1.st).put h1).put h2) st1⟩
 .cases e⟩
noncomputable def Kf:Ex:=λ_ _=>none
theorem Nx{X:Cx}{st:kE}:DS X st Kf:=⟨λ_ _ _ _ _ _ z=>by
 obtain⟨M,E,S,fl,E',S',e,_⟩:=z
 cases e⟩
abbrev Gd:=Wp (Nat×Wp D)
def gOk(gs:Gd)(S:Sto):Prop:=∀g∈gs,E7 S g.1=Gc g.2
abbrev Sr:=En->Sto->jO ((Wp D×Gd)×Sto)
structure Zt(K:W1)(M:Ms)(H:Hp)(gs:Gd)(ds:Wp D)(J:It):Prop where
 go:∀(i:Nat) (H2:Hp) (M2:Ms) (S2:Sto),Sp1 M H M2 H2->StR K M2 S2 H2->gOk gs S2->i<ds.length->J.go i H2
 stop:∀(i:Nat) (H2:Hp) (M2:Ms) (S2:Sto),Sp1 M H M2 H2->StR K M2 S2 H2->gOk gs S2->ds.length<=i->J.stop i H2
 yld:∀(i:Nat) (H2:Hp) (M2:Ms) (S2:Sto) (x:V) (H3:Hp) (d:D),Sp1 M H M2 H2->StR K M2 S2 H2->gOk gs S2->ds[i]?=Gc d->J.yld i H2 x H3->(∀a o,H2 a=Gc o->H3 a=Gc o)/\EA K M2 H3 x d
noncomputable def tI(K:W1)(s:Sr):TI:=λσ H R=>∃M E S ds gs S',s E S=Gc ((ds,gs),S')/\EnR K M E σ H/\StR K M S H/\∀J H' M',Gr M H M' H'->StR K M' S' H'->Zt K M' H' gs ds J->R J H'
structure DI(X:Cx)(tg iter:j4)(s:Sr):Prop where
 pe:PI X tg iter (tI X.K s)
theorem OK{X:Cx}{tg e:j4}{t t':TI}(h:PI X tg e t)(m:∀σ H R,t' σ H R->t σ H R):PI X tg e t':=λpins s σ H R I q=>h pins s σ H R I (m _ _ _ q)
noncomputable def gP(K:W1)(tl:TE):TI:=λσ H R=>tl σ H λx H1=>∃a,x=.ref a/\(((∃xs,SqL K H1 a xs)/\R (Itl K a) H1)\/((∃xs,SqT K H1 a xs)/\R (Itt K a) H1))
theorem Y5{X:Cx}{tg l:j4}{tl:TE}(hl:PE X l tl):PI X tg l (gP X.K tl):=by
 intro pins s σ H R I h
 refine thn (hl pins s σ H _ I h) λv s1 ⟨x,H1,I1,r1,q1⟩=>?_
 obtain⟨a,e,q1⟩:=q1
 subst e
 cases r1
 rcases q1 with⟨⟨xs,hq⟩,q⟩|⟨⟨xs,hq⟩,q⟩
 .obtain⟨its,rv,p,hz⟩:=I1.list hq
  refine lZ p.isList ?_
  refine⟨s1.heap.objs.size,[s1.heap.objs.size],_,_,H1,rfl,I1.kept (t':=s1.toks) λb o e=>jP _ e,SM a _,⟨_,jx _ rfl,rfl,rfl⟩,λb hb=>?_,q⟩
  have e:b=s1.heap.objs.size:=by simpa using hb
  subst e
  exact I1.YE (ja _) (I1.hok.fresh (ja _))
 .obtain⟨its,rv,p,hz⟩:=I1.tuple hq
  refine lR (show s1.heap.IsTuple a its.toArray from p) ?_
  refine⟨s1.heap.objs.size,[s1.heap.objs.size],_,_,H1,rfl,I1.kept (t':=s1.toks) λb o e=>jP _ e,RG a _,⟨_,jx _ rfl,rfl,rfl⟩,λb hb=>?_,q⟩
  have e:b=s1.heap.objs.size:=by simpa using hb
  subst e
  exact I1.YE (ja _) (I1.hok.fresh (ja _))
theorem Al.get'{K:W1}{M:Ms}{H:Hp}{vs:Wp V}{ds:Wp D}{i:Nat}(h:Al K M H vs ds)(hi:i<ds.length):∃x,vs[i]?=Gc x:=by
 have:=h.length
 exact⟨vs[i],jS (by omega)⟩
structure SqF(K:W1)(M:Ms)(H:Hp)(gs:Gd)(k:kG)(a:jR)(ds:Wp D):Prop where
 keep:∀(H2:Hp) (M2:Ms) (S2:Sto),Sp1 M H M2 H2->StR K M2 S2 H2->gOk gs S2->∃xs,(if k=true then SqT K H2 a xs else SqL K H2 a xs)/\Al K M2 H2 xs ds
noncomputable def sqD(S:Sto):D->jO (Wp D×Gd)
 | .tup ds=>Gc (ds,[])
 | .lst ds=>Gc (ds,[])
 | .ref n=>(E7 S n).map λds=>(ds,[(n,ds)])
 | .scr ns=>Gc (ns.map .int,[])
 |_=>none
theorem Qb{K:W1}{M:Ms}{H:Hp}{S:Sto}{v:V}{d:D}{ds:Wp D}{gs:Gd}(st:StR K M S H)(h:EA K M H v d)(e:sqD S d=Gc (ds,gs)):∃k a,v=.ref a/\SqF K M H gs k a ds:=by
 cases h with
 |tup h r=>cases e;exact⟨true,_,rfl,⟨λH2 M2 S2 g _ _=>⟨_,g.sqT h,r.step g⟩⟩⟩
 |lst h n r=>cases e;exact⟨false,_,rfl,⟨λH2 M2 S2 g _ _=>⟨_,SqL.of (g.keep _ _ h n),r.step g⟩⟩⟩
 |scr h=>
  cases e
  refine⟨false,_,rfl,⟨λH2 M2 S2 g _ _=>⟨_,?_,LI⟩⟩⟩
  rcases h with⟨h,n⟩|h
  .rcases h with h|⟨o,h⟩
   .exact .inl (.inl (g.keep _ _ h n))
   .exact .inl (.inr ⟨o,g.keep _ _ h n⟩)
  .exact .inr h
 |ref h=>
  obtain⟨es,e1,e⟩:=LM e
  cases e
  refine⟨false,_,rfl,⟨λH2 M2 S2 g st2 ok=>?_⟩⟩
  obtain⟨xs,h1,h2⟩:=st2.cell _ _ _ (Ng g.pre h) (FO (ok _ (kN.mpr rfl)))
  exact⟨xs,SqL.of h1,h2⟩
 |non=>cases e
 |bl b=>cases e
 |int b=>cases e
 |str b=>cases e
 |ty b=>cases e
 |dct h n r=>cases e
theorem dJ{K:W1}{M:Ms}{H:Hp}{gs:Gd}{k:kG}{a:jR}{ds:Wp D}(h:SqF K M H gs k a ds):Zt K M H gs ds (if k=true then Itt K a else Itl K a):=by
 cases k with
 |true=>
  exact{
   go:=λi H2 M2 S2 g st ok hi=>let⟨xs,h1,h2⟩:=h.keep H2 M2 S2 g st ok;let⟨x,hx⟩:=h2.get' hi;⟨xs,x,h1,hx⟩
   stop:=λi H2 M2 S2 g st ok hi=>let⟨xs,h1,h2⟩:=h.keep H2 M2 S2 g st ok;⟨xs,h1,by have:=h2.length;omega⟩
   yld:=λi H2 M2 S2 x H3 d g st ok hd hy=>by
    obtain⟨xs,h1,h2⟩:=h.keep H2 M2 S2 g st ok
    obtain⟨rfl,hy⟩:=hy
    refine⟨λ_ _ e=>e,?_⟩
    have hx:=hy xs h1
    obtain⟨x',h3,h4⟩:=h2.get hd
    rw[hx]at h3;cases h3
    exact h4}
 |false=>
  exact{
   go:=λi H2 M2 S2 g st ok hi=>let⟨xs,h1,h2⟩:=h.keep H2 M2 S2 g st ok;let⟨x,hx⟩:=h2.get' hi;⟨xs,x,h1,hx⟩
   stop:=λi H2 M2 S2 g st ok hi=>let⟨xs,h1,h2⟩:=h.keep H2 M2 S2 g st ok;⟨xs,h1,by have:=h2.length;omega⟩
   yld:=λi H2 M2 S2 x H3 d g st ok hd hy=>by
    obtain⟨xs,h1,h2⟩:=h.keep H2 M2 S2 g st ok
    obtain⟨rfl,hy⟩:=hy
    refine⟨λ_ _ e=>e,?_⟩
    have hx:=hy xs h1
    obtain⟨x',h3,h4⟩:=h2.get hd
    rw[hx]at h3;cases h3
    exact h4}
noncomputable def Mu(f:Ev):Sr:=λE S=>(f E S).bind λr=>(sqD r.2 r.1).map λp=>(p,r.2)
theorem OB{S:Sto}{d:D}{ds:Wp D}{gs:Gd}(e:sqD S d=Gc (ds,gs)):gOk gs S:=by
 cases d<;>first|(cases e;done)|skip
 all_goals first
  |(cases e;intro g hg;cases hg;done)
  |(obtain⟨es,e1,e⟩:=LM e
    cases e
    intro g hg
    rw[kN.mp hg]
    exact e1)
theorem Fc{X:Cx}{tg e:j4}{f:Ev}(h:DE X e f):DI X tg e (Mu f):=⟨OK (Y5 h.pe) λσ H R z=>by
 obtain⟨M,E,S,ds,gs,S',e,r,st,q⟩:=z
 obtain⟨⟨d,S1⟩,e1,e⟩:=BG e
 obtain⟨⟨ds',gs'⟩,e2,e⟩:=LM e
 cases e
 refine⟨M,E,S,d,S1,e1,r,st,λv H1 M1 g1 st1 r1=>?_⟩
 obtain⟨k,a,rfl,sq⟩:=Qb st1 r1 e2
 obtain⟨xs,hs,_⟩:=sq.keep H1 M1 S1 (Gr.refl st1.mo).st st1 (OB e2)
 have it:=dJ sq
 refine⟨a,rfl,?_⟩
 cases k with
 |true=>exact .inr ⟨⟨xs,hs⟩,q _ _ M1 g1 st1 it⟩
 |false=>exact .inl ⟨⟨xs,hs⟩,q _ _ M1 g1 st1 it⟩⟩
noncomputable def Mq(lo:Int)(n:Nat):Wp D:=(lJ n).map λ(i:Nat)=>.int (lo+(i:Int))
theorem Yk{K:W1}{M:Ms}{H:Hp}{lo:Int}{n:Nat}:Zt K M H [] (Mq lo n) (Itr lo n) where
 go:=λi H2 M2 S2 g st ok hi=>by
  have:i<n:=by unfold Mq at hi;simpa using hi
  exact this
 stop:=λi H2 M2 S2 g st ok hi=>by
  have:n<=i:=by unfold Mq at hi;simpa using hi
  exact this
 yld:=λi H2 M2 S2 x H3 d g st ok hd hy=>by
  obtain⟨rfl,rfl⟩:=hy
  refine⟨λ_ _ e=>e,?_⟩
  unfold Mq at hd
  rw[jq]at hd
  cases e:(lJ n)[i]? with
  |none=>rw[e]at hd;cases hd
  |some j=>
   rw[e]at hd
   cases hd
   have:j=i:=by
    obtain⟨h1,h2⟩:=jb.mp e
    simpa using h2.symm
   subst this
   exact .int _
noncomputable def QF(fs:Wp Ev):Sr:=λE S=>(evs fs E S).bind λr=>match r.1 with
 | [.int j]=>if(decide (-(2^62)<=j) && decide (j<2^62))=true then Gc ((Mq 0 j.toNat,[]),r.2)else none
 | [.int i,.int j]=>if(decide (-(2^62)<=i) && decide (i<2^62) && decide (-(2^62)<=j) && decide (j<2^62))=true then Gc ((Mq i (j-i).toNat,[]),r.2)else none
 |_=>none
theorem VT{K:W1}{M:Ms}{H:Hp}{vs:Wp V}{j:Int}(h:Al K M H vs [.int j]):vs=[.int j]:=by
 cases h with
 |cons h t=>cases t;cases h;rfl
theorem HE{X:Cx}{tg a:j4}{o:Ev}{p pos:Pos}(hg:Gl X "range")(hm:X.mg "range"=none)(ha:DEs X [a] [o])(hs:ju [a] X.env=[(false,eval a X.env)]:=by rfl):DI X tg (.Call (.Name "range" p) [a] [] pos) (QF [o]):=⟨
 OK (Sj hg hm ha.pe hs) λσ H R z=>by
  obtain⟨M,E,S,ds,gs,S',e,r,st,q⟩:=z
  obtain⟨⟨ws,S1⟩,e1,e⟩:=BG e
  have hl:=L9 e1
  refine HW e1 r st λvs H1 M1 g1 st1 r1=>?_
  dsimp only at e
  split at e
  .split at e
   .rename_i j hk
    rw[jW]at hk
    cases e
    exact⟨j,VT r1,jh hk.1,jh hk.2,q _ _ M1 g1 st1 Yk⟩
   .cases e
  .simp at hl
  .cases e⟩
open Classical in
def MW(gs:Gd)(t:Tf)(body:Ex):Wp D->En->Sto->jO (Fl×En×Sto)
 | [],E,S=>if gOk gs S then Gc (.nx,E,S)else none
 |d::ds,E,S=>if gOk gs S then(t d E S).bind λE1=>(body E1 S).bind λr=>match r.1 with
  | .nx=>MW gs t body ds r.2.1 r.2.2
  | .ret w=>Gc (.ret w,r.2)
  else none
def QG(s:Sr)(t:Tf)(body:Ex):Ex:=λE S=>(s E S).bind λr=>MW r.1.2 t body r.1.1 E r.2
theorem OW{α:Type}{xs:Wp α}{i:Nat}{x:α}{r:Wp α}(h:xs.drop i=x::r):xs[i]?=Gc x/\xs.drop (i+1)=r/\i<xs.length:=by
 have hi:i<xs.length:=by
  by_cases hi:i<xs.length
  .exact hi
  .rw[lM (by omega)]at h;cases h
 rw[kW hi]at h
 cases h
 exact⟨jS hi,rfl,hi⟩
theorem He{X:Cx}{tg iter:j4}{body:Wp kE}{s:Sr}{t:Tf}{b:Ex}{pos:Pos}(hp:tw (model X.prog X.w) X.A X.env X.xe)(hc:X.calm=true)(hi:DI X tg iter s)(hg:DG X tg t)(hb:DSs X body b)(hs:∀x,foldedSetIterable iter X.env x=pure x:=by intro _;rfl):DS X (.For tg iter body [] pos) (QG s t b):=⟨GQ (aF hp hc hi.pe hg.pe hb.pe hs) λDn σ H z=>by
 obtain⟨M,E,S,fl,E',S',e,r,st,q⟩:=z
 obtain⟨⟨⟨ds,gs⟩,S1⟩,e1,e⟩:=BG e
 dsimp only at e
 refine⟨M,E,S,ds,gs,S1,e1,r,st,λJ H1 M1 g1 st1 it=>?_⟩
 refine⟨λi m σ' H'=>m=ds.length-i/\∃E2 S2 M2,MW gs t b (ds.drop i) E2 S2=Gc (fl,E',S')/\Gr M1 H1 M2 H'/\EnR X.K M2 E2 σ' H'/\StR X.K M2 S2 H',⟨_,rfl,E,S1,M1,e,.refl st1.mo,r.step g1.st,st1⟩,λi m σ2 H2 hW=>?_⟩
 obtain⟨rfl,E2,S2,M2,e2,g2,r2,st2⟩:=hW
 cases ed:ds.drop i with
 |nil=>
  rw[ed]at e2
  unfold MW at e2
  split at e2
  .rename_i ok
   cases e2
   left
   exact⟨it.stop i H2 M2 _ g2.st st2 ok (rJ.mp ed),q _ _ M2 (g1.trans g2) r2 st2⟩
  .cases e2
 |cons d rest=>
  obtain⟨d1,d2,d3⟩:=OW ed
  rw[ed]at e2
  unfold MW at e2
  split at e2
  .rename_i ok
   obtain⟨E3,e3,e2⟩:=BG e2
   obtain⟨⟨f4,E4,S4⟩,e4,e2⟩:=BG e2
   dsimp only at e2
   right
   refine⟨it.go i H2 M2 S2 g2.st st2 ok d3,λσ' H'=>∃m',m'<ds.length-i/\(m'=ds.length-(i+1)/\∃E2 S2 M2,MW gs t b (ds.drop (i+1)) E2 S2=Gc (fl,E',S')/\Gr M1 H1 M2 H'/\EnR X.K M2 E2 σ' H'/\StR X.K M2 S2 H'),λσ' H' z=>z,λx H3 hy=>?_⟩
   obtain⟨k3,rx⟩:=it.yld i H2 M2 S2 x H3 d g2.st st2 ok d1 hy
   have g3:Gr M2 H2 M2 H3:=.grow st2.mo k3
   refine⟨M2,d,E2,E3,S2,e3,r2.step g3.st,st2.grow k3,rx,λσ4 r4=>?_⟩
   refine⟨M2,E3,S2,f4,E4,S4,e4,r4,st2.grow k3,?_⟩
   split at e2
   .exact λσ6 H6 M6 g6 r6 st6=>⟨_,by omega,rfl,E4,S4,M6,by rw[d2];exact e2,(g2.trans g3).trans g6,r6,st6⟩
   .cases e2
    exact λv H6 M6 g6 st6 r6=>q _ _ M6 (((g1.trans g2).trans g3).trans g6) st6 r6
  .cases e2⟩
noncomputable def Hn(c:Ev)(b:Ex):Nat->En->Sto->jO (Fl×En×Sto)
 |0,_,_=>none
 |k+1,E,S=>(c E S).bind λr=>match r.1 with
  | .bl true=>(b E r.2).bind λp=>match p.1 with
    | .nx=>Hn c b k p.2.1 p.2.2
    | .ret w=>Gc (.ret w,p.2)
  | .bl false=>Gc (.nx,E,r.2)
  |_=>none
noncomputable def Om(fuel:En->Nat)(c:Ev)(b:Ex):Ex:=λE S=>Hn c b (fuel E) E S
theorem Qg{X:Cx}{c:j4}{body:Wp kE}{k:Ev}{b:Ex}{pos:Pos}(fuel:En->Nat)(hp:tw (model X.prog X.w) X.A X.env X.xe)(hc:DT X c k)(hb:DSs X body b):DS X (.While c body [] pos) (Om fuel k b):=⟨
 GQ (U0 hp hc.pe hb.pe) λDn σ H z=>by
  obtain⟨M,E,S,fl,E',S',e,r,st,q⟩:=z
  refine⟨λm σ' H'=>∃E2 S2 M2,Hn k b m E2 S2=Gc (fl,E',S')/\Gr M H M2 H'/\EnR X.K M2 E2 σ' H'/\StR X.K M2 S2 H',⟨fuel E,E,S,M,e,.refl st.mo,r,st⟩,λm σ2 H2 hW=>?_⟩
  obtain⟨E2,S2,M2,e2,g2,r2,st2⟩:=hW
  cases m with
  |zero=>cases e2
  |succ m=>
   obtain⟨⟨w3,S3⟩,e3,e2⟩:=BG e2
   dsimp only at e2
   split at e2
   .obtain⟨⟨f4,E4,S4⟩,e4,e2⟩:=BG e2
    refine⟨M2,E2,S2,true,S3,e3,r2,st2,λH3 M3 g3 st3=>?_⟩
    refine XI ⟨λσ' H'=>∃m',m'<m+1/\∃E2 S2 M2,Hn k b m' E2 S2=Gc (fl,E',S')/\Gr M H M2 H'/\EnR X.K M2 E2 σ' H'/\StR X.K M2 S2 H',λσ' H' z=>z,?_⟩
    refine⟨M3,E2,S3,f4,E4,S4,e4,r2.step g3.st,st3,?_⟩
    dsimp only at e2
    split at e2
    .exact λσ5 H5 M5 g5 r5 st5=>⟨m,by omega,E4,S4,M5,e2,(g2.trans g3).trans g5,r5,st5⟩
    .cases e2
     exact λv H5 M5 g5 st5 r5=>q _ _ M5 ((g2.trans g3).trans g5) st5 r5
   .cases e2
    refine⟨M2,_,S2,false,_,e3,r2,st2,λH3 M3 g3 st3=>?_⟩
    refine X9 ?_
    exact q _ _ M3 (g2.trans g3) (r2.step g3.st) st3
   .cases e2⟩
noncomputable def RN(i:Nat):En->Nat:=λE=>match at? E i with
 |some (.int j)=>j.natAbs+2
 |_=>0
section
variable{K:W1}{M M' M2:Ms}{H H' H2:Hp}{S:Sto}
structure GrX(M:Ms)(H:Hp)(M':Ms)(H':Hp):Prop where
 pre:M.cel <+: M'.cel
 fresh:∀a,a∈M'.cel->a∈M.cel\/H a=none
 keep:∀a o,H a=Gc o->a∉M.cel->H' a=Gc o
 some:∀a,H a≠none->H' a≠none
theorem GrX.none(g:GrX M H M' H'){a:jR}(h:H' a=none):H a=none:=by
 cases e:H a with
 |none=>rfl
 |some o=>exact absurd h (g.some a (by rw[e];intro z;cases z))
theorem Gr.x(g:Gr M H M' H'):GrX M H M' H':=⟨g.pre,g.fresh,g.keep,g.some⟩
theorem GrX.trans(h:GrX M H M' H')(g:GrX M' H' M2 H2):GrX M H M2 H2:=
 ⟨h.pre.trans g.pre,λa z=>(g.fresh a z).elim (h.fresh a) λz=>.inr (h.none z),λa o e n=>g.keep a o (h.keep a o e n) (λz=>by
   rcases h.fresh a z with z|z
   .exact n z
   .rw[e]at z;cases z),λa e=>g.some a (h.some a e)⟩
theorem StR.Yy(r:StR K M S H){a:jR}(e:H a=none):StR K ⟨M.cel,a::M.tmp⟩ S (upd H a (.lst []))/\GrX M H ⟨M.cel,a::M.tmp⟩ (upd H a (.lst []))/\Sp1 M H ⟨M.cel,a::M.tmp⟩ (upd H a (.lst [])):=by
 have k:∀b o,H b=Gc o->upd H a (.lst []) b=Gc o:=Dy e
 have na:¬M.mem a:=λz=>r.mo.some z e
 have s1:Sp1 M H ⟨M.cel,a::M.tmp⟩ (upd H a (.lst [])):=⟨r.mo,lO,λb z=>by
  rcases z with z|z
  .exact .inl (.inl z)
  .rcases jX.mp z with z|z
   .subst z;exact .inr e
   .exact .inl (.inr z),λb o eb _=>k b o eb⟩
 refine⟨⟨λb z=>?_,r.nd,λb hb z=>?_,r.len,λn b c h1 h2=>?_⟩,⟨lO,λb z=>.inl z,λb o eb _=>k b o eb,λb eb z=>?_⟩,s1⟩
 .by_cases h:b=a
  .subst h;exact .inl ⟨[],BR⟩
  .rw[AZ h]
   refine r.mo b ?_
   rcases z with z|z
   .exact .inl z
   .rcases jX.mp z with z|z
    .exact absurd z h
    .exact .inr z
 .rcases jX.mp hb with hb|hb
  .subst hb;exact na (.inl z)
  .exact r.nt b hb z
 .have q:=r.cell n b c h1 h2
  cases c with
  |lst ds=>obtain⟨xs,e,rr⟩:=q;exact⟨xs,k _ _ e,rr.step s1⟩
  |dct ds=>obtain⟨xs,e,rr⟩:=q;exact⟨xs,k _ _ e,rr.step s1⟩
  |tab ds=>obtain⟨xs,e,rr⟩:=q;exact⟨xs,k _ _ e,rr.step s1⟩
 .cases h:H b with
  |none=>exact eb h
  |some o=>rw[k b o h]at z;cases z
theorem StR.Xi(r:StR K M S H){a:jR}{ys:Wp V}(ha:a∈M.tmp):StR K M S (upd H a (.lst ys))/\Sp1 M H M (upd H a (.lst ys)):=by
 have s1:Sp1 M H M (upd H a (.lst ys)):=⟨r.mo,lO,λb z=>.inl z,λb o eb nb=>by rw[AZ (λz=>nb (by rw[z];exact .inr ha))];exact eb⟩
 refine⟨⟨λb z=>?_,r.nd,r.nt,r.len,λn b c h1 h2=>?_⟩,s1⟩
 .by_cases h:b=a
  .subst h;exact .inl ⟨ys,BR⟩
  .rw[AZ h];exact r.mo b z
 .have hb:b≠a:=λz=>r.nt a ha (by rw[<-z];exact jw h1)
  have q:=r.cell n b c h1 h2
  cases c with
  |lst ds=>obtain⟨xs,e,rr⟩:=q;exact⟨xs,by rw[AZ hb];exact e,rr.step s1⟩
  |dct ds=>obtain⟨xs,e,rr⟩:=q;exact⟨xs,by rw[AZ hb];exact e,rr.step s1⟩
  |tab ds=>obtain⟨xs,e,rr⟩:=q;exact⟨xs,by rw[AZ hb];exact e,rr.step s1⟩
theorem StR.Xg{c:Wp jR}{t:Wp jR}{a:jR}{xs:Wp V}{ds:Wp D}{cf:kG}{d:D}{S':Sto}(r:StR K ⟨c,a::t⟩ S H)(nt:a∉t)(e:H a=Gc (.lst xs))(rr:Al K ⟨c,a::t⟩ H xs ds)(ef:fin cf (.own ds) S=Gc (d,S')):∃c',StR K ⟨c',t⟩ S' H/\EA K ⟨c',t⟩ H (.ref a) d/\c <+: c'/\(∀b∈c',b∈c\/b=a):=by
 have nc:a∉c:=r.nt a jr
 cases cf with
 |false=>
  cases ef
  have s1:Sp1 ⟨c,a::t⟩ H ⟨c,t⟩ H:=⟨r.mo,lO,λb z=>.inl (z.imp id (jf _)),λ_ _ e _=>e⟩
  refine⟨c,⟨λb z=>r.mo b (z.imp id (jf _)),r.nd,λb hb=>r.nt b (jf _ hb),r.len,λn b cl h1 h2=>?_⟩,.lst e (λz=>z.elim nc nt) (rr.step s1),lO,λb z=>.inl z⟩
  have q:=r.cell n b cl h1 h2
  cases cl with
  |lst ds=>obtain⟨xs,e,rr⟩:=q;exact⟨xs,e,rr.step s1⟩
  |dct ds=>obtain⟨xs,e,rr⟩:=q;exact⟨xs,e,rr.step s1⟩
  |tab ds=>obtain⟨xs,e,rr⟩:=q;exact⟨xs,e,rr.step s1⟩
 |true=>
  cases ef
  have s1:Sp1 ⟨c,a::t⟩ H ⟨c++[a],t⟩ H:=⟨r.mo,qD _ _,λb z=>by
   rcases z with z|z
   .rcases kB.mp z with z|z
    .exact .inl (.inl z)
    .exact .inl (.inr (by rw[kN.mp z];exact jr))
   .exact .inl (.inr (jf _ z)),λ_ _ e _=>e⟩
  have hl:c.length=S.length:=r.len
  refine⟨c++[a],⟨λb z=>?_,?_,λb hb z=>?_,by simp[hl],λn b cl h1 h2=>?_⟩,.ref ?_,qD _ _,λb z=>?_⟩
  .refine r.mo b ?_
   rcases z with z|z
   .rcases kB.mp z with z|z
    .exact .inl z
    .exact .inr (by rw[kN.mp z];exact jr)
   .exact .inr (jf _ z)
  .rw[qQ]
   refine⟨r.nd,by simp,λx hx y hy z=>?_⟩
   simp at hy;subst hy
   exact nc (by rw[<-z];exact hx)
  .rcases kB.mp z with z|z
   .exact r.nt b (jf _ hb) z
   .rw[kN.mp z]at hb;exact nt hb
  .by_cases h:n<S.length
   .rw[jT (by rw[hl];exact h)]at h1
    rw[jT h]at h2
    have q:=r.cell n b cl h1 h2
    cases cl with
    |lst ds=>obtain⟨xs,e,rr⟩:=q;exact⟨xs,e,rr.step s1⟩
    |dct ds=>obtain⟨xs,e,rr⟩:=q;exact⟨xs,e,rr.step s1⟩
    |tab ds=>obtain⟨xs,e,rr⟩:=q;exact⟨xs,e,rr.step s1⟩
   .have hm:n=S.length:=by
     have:=(jb.mp h2).1
     simp at this;omega
    subst hm
    rw[kS (by rw[hl];exact ja _)]at h1
    rw[kS (ja _)]at h2
    rw[hl]at h1
    simp at h1 h2
    subst h1 h2
    exact⟨xs,e,rr.step s1⟩
  .rw[<-hl];exact jz
  .rcases kB.mp z with z|z
   .exact .inl z
   .exact .inr (kN.mp z)
end
open Classical in
def Ce(gs:Gd)(t:Tf)(c:Ev)(f:Ev):Wp D->Wp D->En->Sto->jO (Wp D×Sto)
 | [],acc,_,S=>if gOk gs S then Gc (acc,S)else none
 |d::ds,acc,E,S=>if gOk gs S then(if acc.length<sizeLine then(t d E S).bind λE1=>(c E1 S).bind λr=>match r.1 with
   | .bl true=>(f E1 r.2).bind λp=>Ce gs t c f ds (acc++[p.1]) E1 p.2
   | .bl false=>Ce gs t c f ds acc E1 r.2
   |_=>none
  else none)else none
noncomputable def E8:Ev:=λ_ S=>Gc (.bl true,S)
noncomputable def Zw(cap:Wp Nat)(m:Nat)(E:En):En:=cap.map (at? E)++jg m none
def NA(cf:kG)(cap:Wp Nat)(m:Nat)(s:Sr)(t:Tf)(c:Ev)(f:Ev):Ev:=λE S=>(s E S).bind λr=>(Ce r.1.2 t c f r.1.1 [] (Zw cap m E) r.2).bind λq=>fin cf (.own q.1) q.2
noncomputable abbrev F8:=NA false
noncomputable abbrev Tt:=NA true
noncomputable def ixC(cap:Wp Nat)(m:Nat):Wp (jO Nat):=cap.map Gc++jg m none
theorem EnR.cap{K:W1}{M:Ms}{E:En}{σ:Sg}{H:Hp}(r:EnR K M E σ H)(cap:Wp Nat)(m:Nat):EnR K M (Zw cap m E) (sig (ixC cap m) σ) H:=by
 unfold Zw sig ixC
 refine⟨by simp,λi d e=>?_⟩
 have h1:=TV e
 rw[jq]at h1
 cases e1:cap[i]? with
 |none=>rw[e1]at h1;cases h1
 |some j=>
  rw[e1]at h1
  have h2:at? E j=Gc d:=by simpa using h1
  obtain⟨v,hv,rd⟩:=r.val j d (at?_some h2)
  refine⟨v,?_,rd⟩
  have hi:i<cap.length:=(jb.mp e1).1
  rw[nG,jT (by simpa using hi),jq,jq,e1]
  show Gc ((σ[j]?).join)=Gc (Gc v)
  rw[hv]
  rfl
theorem R5{K:W1}{cf:kG}{cap:Wp Nat}{m:Nat}{s:Sr}{t:Tf}{c f:Ev}{σ:Sg}{H:Hp}{Q:VK}(h:tD K (NA cf cap m s t c f) σ H Q):X8 (ixC cap m) (tI K s) (tG K t) (tDT K c) (tD K f) σ H Q:=by
 obtain⟨M,E,S,d,S',e,r,st,q⟩:=h
 obtain⟨⟨⟨ds,gs⟩,S1⟩,e1,e⟩:=BG e
 obtain⟨⟨accf,Sf⟩,e3,e⟩:=BG e
 dsimp only at e e3
 refine⟨M,E,S,ds,gs,S1,e1,r,st,λJ H1 M1 g1 st1 it A0 hD=>?_⟩
 obtain⟨st0,gx0,s0⟩:=st1.Yy hD
 have nt:A0∉M1.tmp:=λz=>st1.mo.some (.inr z) hD
 refine⟨λi mm σ' H' ys=>mm=ds.length-i/\∃Ei Si Mi acc,Ce gs t c f (ds.drop i) acc Ei Si=Gc (accf,Sf)/\GrX M1 H1 Mi H'/\Mi.tmp=A0::M1.tmp/\EnR K Mi Ei σ' H'/\StR K Mi Si H'/\H' A0=Gc (.lst ys)/\Al K Mi H' ys acc,
  ⟨_,rfl,_,S1,_,[],e3,gx0,rfl,((r.step g1.st).step s0).cap cap m,st0,BR,.nil⟩,λi mm σ2 H2 ys hW=>?_⟩
 obtain⟨rfl,Ei,Si,Mi,acc,ec,gx,ht,r2,st2,hy,ry⟩:=hW
 have sp:Sp1 M1 H1 Mi H2:=⟨st1.mo,gx.pre,λa z=>by
  rcases z with z|z
  .exact(gx.fresh a z).imp .inl id
  .rw[ht]at z
   rcases jX.mp z with z|z
   .subst z;exact .inr hD
   .exact .inl (.inr z),λa o eo no=>gx.keep a o eo λz=>no (.inl z)⟩
 refine⟨hy,?_⟩
 cases ed:ds.drop i with
 |nil=>
  rw[ed]at ec
  unfold Ce at ec
  split at ec
  .rename_i ok
   cases ec
   left
   obtain⟨ci,ti⟩:=Mi
   have ht':ti=A0::M1.tmp:=ht
   subst ht'
   obtain⟨c',st',rd',pr',sub'⟩:=st2.Xg nt hy ry e
   refine⟨it.stop i H2 _ _ sp st2 ok (rJ.mp ed),q _ _ ⟨c',M1.tmp⟩ (g1.trans ⟨st1.mo,gx.pre.trans pr',rfl,λa z=>?_,gx.keep,gx.some⟩) st' rd'⟩
   rcases sub' a z with z|z
   .exact gx.fresh a z
   .subst z;exact .inr hD
  .cases ec
 |cons d rest=>
  obtain⟨d1,d2,d3⟩:=OW ed
  rw[ed]at ec
  unfold Ce at ec
  split at ec
  .rename_i ok
   split at ec
   .rename_i hz
    obtain⟨E3,e4,ec⟩:=BG ec
    obtain⟨⟨w5,S5⟩,e5,ec⟩:=BG ec
    right
    refine⟨it.go i H2 Mi Si sp st2 ok d3,by rw[ry.length];exact hz,λx H3 hyl=>?_⟩
    obtain⟨k3,rx⟩:=it.yld i H2 Mi Si x H3 d sp st2 ok d1 hyl
    have g3:Gr Mi H2 Mi H3:=.grow st2.mo k3
    have st3:=st2.grow k3
    refine⟨Mi,d,Ei,E3,Si,e4,r2.step g3.st,st3,rx,λσ4 r4=>?_⟩
    have hA:A0∈Mi.tmp:=by rw[ht];exact jr
    have hy3:H3 A0=Gc (.lst ys):=k3 _ _ hy
    have ry3:Al K Mi H3 ys acc:=ry.step g3.st
    have fin:∀{E6:En} {S6:Sto} {M6:Ms} {H6:Hp} {zs:Wp V} {acc6:Wp D},Ce gs t c f rest acc6 E6 S6=Gc (accf,Sf)->GrX M1 H1 M6 H6->M6.tmp=A0::M1.tmp->EnR K M6 E6 σ4 H6->StR K M6 S6 H6->H6 A0=Gc (.lst zs)->Al K M6 H6 zs acc6->
      ∃m',m'<ds.length-i/\(m'=ds.length-(i+1)/\∃Ei Si Mi acc,Ce gs t c f (ds.drop (i+1)) acc Ei Si=Gc (accf,Sf)/\GrX M1 H1 Mi H6/\Mi.tmp=A0::M1.tmp/\EnR K Mi Ei σ4 H6/\StR K Mi Si H6/\H6 A0=Gc (.lst zs)/\Al K Mi H6 zs acc):=
     λ{E6 S6 M6 H6 zs acc6} ec g6 t6 r6 st6 h6 y6=>⟨_,by omega,rfl,E6,S6,M6,acc6,by rw[d2];exact ec,g6,t6,r6,st6,h6,y6⟩
    dsimp only at ec
    split at ec
    .obtain⟨⟨w7,S7⟩,e7,ec⟩:=BG ec
     refine⟨Mi,E3,Si,true,S5,e5,r4,st3,λH5 M5 g5 st5=>?_⟩
     refine XI ?_
     refine⟨M5,E3,S5,w7,S7,e7,r4.step g5.st,st5,λy H7 M7 g7 st7 d7=>?_⟩
     have nA:∀{M6:Ms} {H6:Hp} {S6:Sto},StR K M6 S6 H6->A0∈M6.tmp->A0∉M6.cel:=λr6 h6=>r6.nt A0 h6
     have hA5:A0∈M5.tmp:=by rw[g5.tmp];exact hA
     have hA7:A0∈M7.tmp:=by rw[g7.tmp];exact hA5
     have hy5:H5 A0=Gc (.lst ys):=g5.keep _ _ hy3 (nA st3 hA)
     have hy7:H7 A0=Gc (.lst ys):=g7.keep _ _ hy5 (nA st5 hA5)
     have ry7:Al K M7 H7 ys acc:=(ry3.step g5.st).step g7.st
     refine⟨hy7,?_⟩
     obtain⟨st8,s8⟩:=st7.Xi (ys:=ys++[y]) hA7
     have gx7:GrX M1 H1 M7 H7:=((gx.trans g3.x).trans g5.x).trans g7.x
     have gx8:GrX M1 H1 M7 (upd H7 A0 (.lst (ys++[y]))):=⟨gx7.pre,gx7.fresh,λa o eo no=>by
      rw[AZ (λz=>by subst z;rw[hD]at eo;cases eo)]
      exact gx7.keep a o eo no,λa ea=>by
      by_cases h:a=A0
      .subst h;rw[BR];intro z;cases z
      .rw[AZ h];exact gx7.some a ea⟩
     exact fin ec gx8 (by rw[g7.tmp,g5.tmp];exact ht) (((r4.step g5.st).step g7.st).step s8) st8 BR ((ry7.append (.cons d7 .nil)).step s8)
    .refine⟨Mi,E3,Si,false,S5,e5,r4,st3,λH5 M5 g5 st5=>?_⟩
     refine X9 ?_
     exact fin ec ((gx.trans g3.x).trans g5.x) (by rw[g5.tmp];exact ht) (r4.step g5.st) st5 (g5.keep _ _ hy3 (st3.nt A0 hA)) (ry3.step g5.st)
    .cases ec
   .cases ec
  .cases ec
structure DTs(X:Cx)(ifs:Wp j4)(c:Ev):Prop where
 pe:PTs X ifs (tDT X.K c)
theorem Vu{X:Cx}{e:Wp j4}{t t':TT}(h:PTs X e t)(m:∀σ H Q,t' σ H Q->t σ H Q):PTs X e t':=λpins s σ H Q I q=>h pins s σ H Q I (m _ _ _ q)
theorem EM{X:Cx}:DTs X [] E8:=⟨Vu X6 λσ H Q z=>by
 obtain⟨M,E,S,b,S',e,r,st,q⟩:=z
 cases e
 exact q _ M (.refl st.mo) st⟩
theorem Iw{X:Cx}{c:j4}{f:Ev}(h:DT X c f):DTs X [c] f:=⟨Wt h.pe⟩
section
variable{X:Cx}{N':Wp Str}{cf:kG}{cap:Wp Nat}{m:Nat}{scope:mC}{elt tg iter:j4}{ifs:Wp j4}{pos:Pos}{s:Sr}{t:Tf}{c f:Ev}
def Blk(X:Cx)(N':Wp Str)(scope:mC)(tg:j4)(ifs:Wp j4)(elt:j4)(t:Tf)(c f:Ev):Prop:=
 ∀(s:jQ) (H:Hp) (fp:Wp jR),DG (IJ X N' scope s H fp) tg t/\DTs (IJ X N' scope s H fp) ifs c/\DE (IJ X N' scope s H fp) elt f
theorem D9(cap:Wp Nat)(m:Nat)(N':Wp Str)(hc:X.calm=true)(S:Aj X.N X.env.scope N' (ixC cap m) scope)(hi:DI X tg iter s)(hb:Blk X N' scope tg ifs elt t c f)(hs:∀x,foldedSetIterable iter X.env x=pure x:=by intro _;rfl):DE X (.ListComp elt [⟨tg,iter,ifs,0⟩] scope pos) (NA cf cap m s t c f):=⟨
 B9 (Wz (g:=tG X.K t) (tc:=tDT X.K c) (te:=tD X.K f) hc S hi.pe (λs H fp=>⟨(hb s H fp).1.pe,(hb s H fp).2.1.pe,(hb s H fp).2.2.pe⟩) hs) λ_ _ _ h=>R5 h⟩
theorem FU{i:Nat}{y:Str}{py spos:Pos}(cap:Wp Nat)(m:Nat)(N':Wp Str)(hc:X.calm=true)(hN:X.N.Nodup)(hi':X.N[i]?=Gc y)(hx:X.env.scope.names.lookup y=Gc .local)(S:Aj X.N X.env.scope N' (ixC cap m) scope)(hi:DI X tg iter s)(hb:Blk X N' scope tg ifs elt t c f)(hsw:swapsWith (.ListComp elt [⟨tg,iter,ifs,0⟩] scope pos) (Gc (.Name y py)) spos.line X.env=pure true:=by rfl)(hs:∀x,foldedSetIterable iter X.env x=pure x:=by intro _;rfl):DS X (.Assign [.Name y py] (.ListComp elt [⟨tg,iter,ifs,0⟩] scope pos) spos) (By i (NA cf cap m s t c f)):=⟨
 GQ (RM (g:=tG X.K t) (tc:=tDT X.K c) (te:=tD X.K f) hc hN hi' hx S hi.pe (λs H fp=>⟨(hb s H fp).1.pe,(hb s H fp).2.1.pe,(hb s H fp).2.2.pe⟩) hsw hs) λDn σ H z=>by
  obtain⟨M,E,S,fl,E',S',e,r,st,q⟩:=z
  obtain⟨⟨d,S1⟩,e1,e⟩:=LM e
  cases e
  exact R5 ⟨M,E,S,d,S1,e1,r,st,λv H1 M1 g1 st1 r1=>q _ _ M1 g1 ((r.step g1.st).put r1) st1⟩⟩
end
noncomputable def Kh{α:Type}(xs:Wp α)(lo hi:jO Int):Wp α:=(xs.drop (HT.sIx xs.length 0 lo)).take (HT.sIx xs.length xs.length hi-HT.sIx xs.length 0 lo)
theorem SG{K:W1}{M:Ms}{H:Hp}{xs:Wp V}{ds:Wp D}(h:Al K M H xs ds)(lo hi:jO Int):Al K M H (Wg xs lo hi) (Kh ds lo hi):=by
 unfold Wg Kh
 rw[h.length]
 exact(h.drop _).take _
theorem O4{α:Type}{xs:Wp α}{lo hi:jO Int}(h1:HT.sIx xs.length 0 lo=0)(h2:HT.sIx xs.length xs.length hi=xs.length):Kh xs lo hi=xs:=by
 unfold Kh
 rw[h1,h2]
 simp
noncomputable def wSl(lo hi:jO Int):Op1:=λw=>match w with
 | .val (.tup ds)=>Gc (.val (.tup (Kh ds lo hi)))
 | .val (.str z)=>if z.length<=sizeLine then Gc (.val (.str (vk z lo hi)))else none
 |w=>(asL w).map λds=>.own (Kh ds lo hi)
def iO(K:W1):V->jO Int->jO Int->Hp->VK->Prop:=λx lo hi H Q=>∃M w r,wSl lo hi w=Gc r/\MOk M H/\Sh K M H x w/\∀v H',Nw K M H H' v r->Q v H'
theorem aJ{X:Cx}:SlR X (λx lo hi H Q=>∃z,x=.str z/\z.length<=sizeLine/\Q (.str (vk z lo hi)) H):=by
 intro pins s σ H x v vl vu lo hi sl Q I rx hs pl pu h
 obtain⟨z,rfl,hz,q⟩:=h
 obtain⟨t,rfl⟩:=rx
 have fin:∀t' k,EP X pins σ Q (.str (vk z lo hi) t') {s with toks:=k}:=λt' k=>⟨.str _,H,I.tok k,⟨t',rfl⟩,q⟩
 cases pl with
 |none=>
  cases pu with
  |none=>exact⟨"str",_,me.lookup,qo _ _ _,mq (l:=none) (u:=none) (st:=none) hs rfl (pR ⟨jY (qq z _ _) hz,fin⟩)⟩
  |int j u=>exact⟨"str",_,me.lookup,qo _ _ _,mq (l:=none) (u:=Gc (j,u)) (st:=none) hs rfl (pR ⟨jY (qq z _ _) hz,fin⟩)⟩
 |int i u'=>
  cases pu with
  |none=>exact⟨"str",_,me.lookup,qo _ _ _,mq (l:=Gc (i,u')) (u:=none) (st:=none) hs rfl (pR ⟨jY (qq z _ _) hz,fin⟩)⟩
  |int j u=>exact⟨"str",_,me.lookup,qo _ _ _,mq (l:=Gc (i,u')) (u:=Gc (j,u)) (st:=none) hs rfl (pR ⟨jY (qq z _ _) hz,fin⟩)⟩
theorem d9{X:Cx}:SlR X (iO X.K):=by
 intro pins s σ H x v vl vu lo hi sl Q I rx hs pl pu h
 obtain⟨M,w,r,e,mo,sh,q⟩:=h
 unfold wSl at e
 split at e
 .rename_i ds
  cases e
  cases sh with
  |tup hx rr=>
   rename_i a xs
   have hl:=rr.length
   by_cases hw:HT.sIx xs.length 0 lo=0/\HT.sIx xs.length xs.length hi=xs.length
   .refine St.Y9 pins s σ H _ v vl vu lo hi sl Q I rx hs pl pu ⟨a,xs,rfl,hx,hw.1,hw.2,?_⟩
    have ew:Kh ds lo hi=ds:=O4 (by rw[<-hl];exact hw.1) (by rw[<-hl];exact hw.2)
    rw[ew]at q
    exact q _ _ (.same mo (.tup hx rr))
   .exact Y3 pins s σ H _ v vl vu lo hi sl Q I rx hs pl pu ⟨a,xs,rfl,hx,hw,λp hp=>q _ _ (.tup mo hp (SG rr lo hi))⟩
 .split at e
  .cases e
   cases sh
   exact aJ pins s σ H _ v vl vu lo hi sl Q I rx hs pl pu ⟨_,rfl,by assumption,q _ _ (.same mo (.str _))⟩
  .cases e
 .cases e1:asL w with
  |none=>rw[e1]at e;cases e
  |some ds=>
   rw[e1]at e
   cases e
   obtain⟨a,xs,rfl,h1,rr⟩:=sh.l e1
   exact Wu pins s σ H _ v vl vu lo hi sl Q I rx hs pl pu ⟨a,xs,rfl,.of h1,λp hp=>q _ _ (.lst mo hp (SG rr lo hi))⟩
noncomputable def Ye:Wv->jO Int
 | .val (.int i)=>Gc i
 |_=>none
noncomputable def JR(l h:kG):OpN:=λws=>match l,h,ws with
 |false,false,[a]=>wSl none none a
 |true,false,[a,b]=>(Ye b).bind λi=>wSl (Gc i) none a
 |false,true,[a,b]=>(Ye b).bind λi=>wSl none (Gc i) a
 |true,true,[a,b,c]=>(Ye b).bind λi=>(Ye c).bind λj=>wSl (Gc i) (Gc j) a
 |_,_,_=>none
theorem UX{K:W1}{M:Ms}{H:Hp}{v:V}{w:Wv}{i:Int}(s:Sh K M H v w)(e:Ye w=Gc i):v=.int i:=by
 cases w with
 |own ds=>cases e
 |val d=>
  cases d<;>first|(cases e;done)|skip
  cases e;cases s;rfl
section
variable{X:Cx}{e lo hi:j4}{oe ol oh:Ev}{c:kG}{pos p2:Pos}
theorem Hl(h:DE X e oe)(hl:DE X lo ol):DE X (.Subscript e (.Slice (Gc lo) none none p2) pos) (OR c (JR true false) [oe,ol]):=⟨B9 (OF d9 h.pe (OI hl.pe) Tq) λσ H Q z=>by
 obtain⟨M0,E,S0,w,S1,e,r,st,q⟩:=z
 have z:tD X.K oe σ H λx H1=>tD X.K ol σ H1 λy H2=>rN X.K (JR true false) [x,y] H2 Q:=NU (Q:=Q) e r st q
 refine JB z λx H1 z1=>JB z1 λy H2 z2=>?_
 obtain⟨M,ws,w',e1,mo,sh,q1⟩:=z2
 cases sh with
 |cons h1 t=>
  cases t with
  |cons h2 t=>
   cases t
   obtain⟨i,ei,e1⟩:=BG e1
   exact⟨i,UX h2 ei,M,_,w',e1,mo,h1,q1⟩⟩
theorem JP(h:DE X e oe)(hh:DE X hi oh):DE X (.Subscript e (.Slice none (Gc hi) none p2) pos) (OR c (JR false true) [oe,oh]):=⟨B9 (OF d9 h.pe Tq (OI hh.pe)) λσ H Q z=>by
 obtain⟨M0,E,S0,w,S1,e,r,st,q⟩:=z
 have z:tD X.K oe σ H λx H1=>tD X.K oh σ H1 λy H2=>rN X.K (JR false true) [x,y] H2 Q:=NU (Q:=Q) e r st q
 refine JB z λx H1 z1=>JB z1 λy H2 z2=>?_
 obtain⟨M,ws,w',e1,mo,sh,q1⟩:=z2
 cases sh with
 |cons h1 t=>
  cases t with
  |cons h2 t=>
   cases t
   obtain⟨i,ei,e1⟩:=BG e1
   exact⟨i,UX h2 ei,M,_,w',e1,mo,h1,q1⟩⟩
theorem Tx{K:W1}{M:Ms}{H:Hp}{S:Sto}{v:V}{d:D}{i:Int}(r:EA K M H v d)(e:Ye (dr S d)=Gc i):v=.int i:=by
 cases r<;>first|(cases e;done)|skip
 .cases e;rfl
 .rename_i n h
  unfold dr at e
  dsimp only at e
  split at e<;>cases e
theorem XD(h:DE X e oe)(hl:DE X lo ol)(hh:DE X hi oh):DE X (.Subscript e (.Slice (Gc lo) (Gc hi) none p2) pos) (OR c (JR true true) [oe,ol,oh]):=⟨B9 (OF d9 h.pe (OI hl.pe) (OI hh.pe)) λσ H Q z=>by
 obtain⟨M0,E,S0,w,S1,e,r,st,q⟩:=z
 obtain⟨⟨ds,S2⟩,e1,e⟩:=BG e
 obtain⟨w2,e2,e⟩:=BG e
 obtain⟨⟨d1,Sa⟩,ea,e1⟩:=BG e1
 obtain⟨⟨ds1,Sb⟩,eb,e1⟩:=LM e1
 cases e1
 obtain⟨⟨d2,Sc⟩,ec,eb⟩:=BG eb
 obtain⟨⟨ds2,Sd⟩,ed,eb⟩:=LM eb
 cases eb
 obtain⟨⟨d3,Se⟩,ee,ed⟩:=BG ed
 obtain⟨⟨ds3,Sf⟩,ef,ed⟩:=LM ed
 cases ed
 cases ef
 obtain⟨i,ei,e2⟩:=BG e2
 obtain⟨j,ej,e2⟩:=BG e2
 refine⟨M0,E,S0,d1,Sa,ea,r,st,λx H1 M1 g1 st1 r1=>?_⟩
 refine⟨M1,E,Sa,d2,Sc,ec,r.step g1.st,st1,λy H2 M2 g2 st2 r2=>⟨i,?_,?_⟩⟩
 .exact Tx r2 ei
 refine⟨M2,E,Sc,d3,Se,ee,(r.step g1.st).step g2.st,st2,λu H3 M3 g3 st3 r3=>⟨j,?_,?_⟩⟩
 .exact Tx r3 ej
 refine⟨M3,_,w2,e2,st3.mo,XU st3 ((r1.step g2.st).step g3.st),λv H4 n=>?_⟩
 obtain⟨M4,g4,st4,d4⟩:=n.fin st3 e
 exact q v H4 M4 (((g1.trans g2).trans g3).trans g4) st4 d4⟩
structure RX(K:W1)(mg:Str->jO jN)(x:Str)(d:D):Prop where
 ex:∃v u,mg x=Gc u/\RelV v u/\∀M H,EA K M H v d
theorem MA{x:Str}{d:D}(c:RX X.K X.mg x d)(hg:Gl X x)(hd:(x==("__debug__":Str))=false:=by decide):DE X (.Name x pos) (eC d):=⟨by
 obtain⟨v,u,h1,h2,h3⟩:=c.ex
 exact B9 (XM hg h1 h2 hd) λσ H Q z=>by
  obtain⟨M0,E,S0,w,S1,e,rr,st,q⟩:=z
  cases e
  exact q _ _ M0 (.refl st.mo) st (h3 _ _)⟩
theorem Zq{x:Str}{T:lx}(hg:Gl X x)(hm:X.mg x=none)(hv:bootBuiltins x=Gc (.type T))(hn:x≠ "__name__":=by decide)(hd:(x==("__debug__":Str))=false:=by decide):DE X (.Name x pos) (eC (.ty T)):=
 O6 (Xb (v:=.ty T) hg hm hv rfl hn hd) λ_ _ _=>.ty T
structure iz(K:W1)(w:j6)(mg:Str->jO jN)(x:Str)(tbl:Wp (Str×D)):Prop where
 ex:∃a kvs,mg x=Gc (.ref a)/\TopD K w a kvs/\∀k,(tbl.lookup k=none->kvs.lookup k=none)/\∀d,tbl.lookup k=Gc d->∃v,kvs.lookup k=Gc v/\∀M H,EA K M H v d
end
noncomputable def MV:Nat->Wp D->Wp D
 |_,[]=>[]
 |k,d::ds=>.tup [.int k,d]::MV (k+1) ds
theorem IM:∀{ds:Wp D} {k i:Nat},(MV k ds)[i]?=(ds[i]?).map λd=>.tup [.int ((k+i:Nat):Int),d]
 | [],k,i=>by simp[MV]
 |d::ds,k,0=>by simp[MV]
 |d::ds,k,i+1=>by
  simp only[MV,List.getElem?_cons_succ]
  rw[IM,show k+1+i=k+(i+1) by lia]
theorem NZ:∀{ds:Wp D} {k:Nat},(MV k ds).length=ds.length
 | [],k=>rfl
 |d::ds,k=>by simp[MV,NZ (ds:=ds)]
theorem SqF.sqB{K:W1}{M:Ms}{H:Hp}{gs:Gd}{k:kG}{a:jR}{ds:Wp D}(h:SqF K M H gs k a ds){H2:Hp}{M2:Ms}{S2:Sto}(g:Sp1 M H M2 H2)(st:StR K M2 S2 H2)(ok:gOk gs S2):∃xs,SqB K H2 k a xs/\Al K M2 H2 xs ds:=by
 obtain⟨xs,h1,h2⟩:=h.keep H2 M2 S2 g st ok
 refine⟨xs,?_,h2⟩
 cases k with
 |true=>exact h1
 |false=>exact h1
theorem ak{K:W1}{M:Ms}{H:Hp}{gs:Gd}{k:kG}{a:jR}{ds:Wp D}(h:SqF K M H gs k a ds):Zt K M H gs (MV 0 ds) (ItE K k a) where
 go:=λi H2 M2 S2 g st ok hi=>by
  rw[NZ]at hi
  obtain⟨xs,h1,h2⟩:=h.sqB g st ok
  obtain⟨x,hx⟩:=h2.get' hi
  exact⟨xs,x,h1,hx⟩
 stop:=λi H2 M2 S2 g st ok hi=>by
  rw[NZ]at hi
  obtain⟨xs,h1,h2⟩:=h.sqB g st ok
  exact⟨xs,h1,by have:=h2.length;lia⟩
 yld:=λi H2 M2 S2 x H3 d g st ok hd hy=>by
  obtain⟨xs,h1,h2⟩:=h.sqB g st ok
  obtain⟨p,y,hp,rfl,hy,rfl⟩:=hy
  have hx:=hy xs h1
  rw[IM]at hd
  obtain⟨d0,e,hd⟩:=LM hd
  subst hd
  obtain⟨x',h3,h4⟩:=h2.get e
  rw[hx]at h3;cases h3
  have k3:=Dy (o:=.tup [.int i,y]) hp
  refine⟨k3,.tup (.of BR) (.cons ?_ (.cons (h4.step (Gr.grow st.mo k3).st) .nil))⟩
  rw[tU]
  exact .int _
noncomputable def Yg(f:Ev):Sr:=λE S=>(f E S).bind λr=>(sqD r.2 r.1).map λp=>((MV 0 p.1,p.2),r.2)
theorem Tz{X:Cx}{a:j4}{f:Ev}{p pos tp:Pos}{elts:Wp j4}{k:Nat}(hg:Gl X "enumerate")(hm:X.mg "enumerate"=none)(ha:DE X a f)(hs:ju [a] X.env=[(false,eval a X.env)]:=by rfl):DI X (.Tuple elts k tp) (.Call (.Name "enumerate" p) [a] [] pos) (Yg f):=⟨
 OK (Vo hg hm (KY ha.pe QM (by rw[hs];rfl)) hs) λσ H R z=>by
  obtain⟨M,E,S,ds,gs,S',e,r,st,q⟩:=z
  obtain⟨⟨d,S1⟩,e1,e⟩:=BG e
  obtain⟨⟨ds',gs'⟩,e2,e⟩:=LM e
  cases e
  refine⟨M,E,S,d,S1,e1,r,st,λv H1 M1 g1 st1 r1=>?_⟩
  obtain⟨k,a,rfl,sq⟩:=Qb st1 r1 e2
  obtain⟨xs,hs,_⟩:=sq.sqB (Gr.refl st1.mo).st st1 (OB e2)
  exact⟨k,a,rfl,⟨xs,hs⟩,q _ _ M1 g1 st1 (ak sq)⟩⟩
noncomputable def NS(ds es:Wp D):Wp D:=(ds.zip es).map λp=>.tup [p.1,p.2]
theorem Vl{ds es:Wp D}{i:Nat}{d:D}(h:(NS ds es)[i]?=Gc d):∃x y,ds[i]?=Gc x/\es[i]?=Gc y/\d=.tup [x,y]:=by
 unfold NS at h
 simp only[jq,Option.map_eq_some_iff]at h
 obtain⟨⟨x,y⟩,h1,h2⟩:=h
 rw[qJ]at h1
 exact⟨x,y,h1.1,h1.2,h2.symm⟩
theorem LG{ds es:Wp D}:(NS ds es).length=min ds.length es.length:=by simp[NS]
theorem SqF.more{K:W1}{M:Ms}{H:Hp}{gs gs':Gd}{k:kG}{a:jR}{ds:Wp D}(h:SqF K M H gs k a ds)(s:∀g∈gs,g∈gs'):SqF K M H gs' k a ds:=⟨λH2 M2 S2 g st ok=>h.keep H2 M2 S2 g st λx hx=>ok x (s x hx)⟩
theorem ZE{K:W1}{M:Ms}{H:Hp}{gs:Gd}{k m:kG}{a b:jR}{ds es:Wp D}(h:SqF K M H gs k a ds)(h':SqF K M H gs m b es):Zt K M H gs (NS ds es) (Itz K k a m b) where
 go:=λi H2 M2 S2 g st ok hi=>by
  rw[LG]at hi
  obtain⟨xs,h1,r⟩:=h.sqB g st ok
  obtain⟨ys,h2,r'⟩:=h'.sqB g st ok
  obtain⟨x,hx⟩:=r.get' (show i<ds.length by lia)
  obtain⟨y,hy⟩:=r'.get' (show i<es.length by lia)
  exact⟨xs,ys,x,y,h1,h2,hx,hy⟩
 stop:=λi H2 M2 S2 g st ok hi=>by
  rw[LG]at hi
  obtain⟨xs,h1,r⟩:=h.sqB g st ok
  obtain⟨ys,h2,r'⟩:=h'.sqB g st ok
  have:=r.length
  have:=r'.length
  exact⟨xs,ys,h1,h2,by lia⟩
 yld:=λi H2 M2 S2 x H3 d g st ok hd hy=>by
  obtain⟨xs,h1,r⟩:=h.sqB g st ok
  obtain⟨ys,h2,r'⟩:=h'.sqB g st ok
  obtain⟨p,x1,y1,hp,rfl,q1,q2,rfl⟩:=hy
  obtain⟨d1,d2,e1,e2,rfl⟩:=Vl hd
  have hx:=q1 xs h1
  have hy:=q2 ys h2
  obtain⟨x',h3,h4⟩:=r.get e1
  obtain⟨y',h5,h6⟩:=r'.get e2
  rw[hx]at h3;cases h3
  rw[hy]at h5;cases h5
  have k3:=Dy (o:=.tup [x1,y1]) hp
  exact⟨k3,.tup (.of BR) (.cons (h4.step (Gr.grow st.mo k3).st) (.cons (h6.step (Gr.grow st.mo k3).st) .nil))⟩
noncomputable def Xa(f g:Ev):Sr:=λE S=>(evs [f,g] E S).bind λr=>match r.1 with
 | [d,e]=>(sqD r.2 d).bind λp=>(sqD r.2 e).map λq=>((NS p.1 q.1,p.2++q.2),r.2)
 |_=>none
theorem QV{X:Cx}{a b:j4}{f g:Ev}{p pos tp:Pos}{elts:Wp j4}{k:Nat}(hg:Gl X "zip")(hm:X.mg "zip"=none)(ha:DE X a f)(hb:DE X b g)(hs:ju [a,b] X.env=[(false,eval a X.env),(false,eval b X.env)]:=by rfl)(hs2:ju [b] X.env=[(false,eval b X.env)]:=by rfl):DI X (.Tuple elts k tp) (.Call (.Name "zip" p) [a,b] [] pos) (Xa f g):=⟨
 OK (Y7 hg hm (AA ha (AA hb AE hs2) (by rw[hs,hs2])).pe hs hs2) λσ H R z=>by
  obtain⟨M,E,S,ds,gs,S',e,r,st,q⟩:=z
  obtain⟨⟨ws,S1⟩,e1,e⟩:=BG e
  refine HW (fs:=[f,g]) e1 r st λvs H1 M1 g1 st1 r1=>?_
  dsimp only at e
  split at e
  .obtain⟨⟨ds1,gs1⟩,eu,e⟩:=BG e
   obtain⟨⟨ds2,gs2⟩,ee,e⟩:=LM e
   cases e
   cases r1 with
   |cons h1 t=>
    cases t with
    |cons h2 t=>
     cases t
     obtain⟨k1,a1,rfl,s1⟩:=Qb st1 h1 eu
     obtain⟨k2,a2,rfl,s2⟩:=Qb st1 h2 ee
     obtain⟨xs,hxs,_⟩:=s1.sqB (Gr.refl st1.mo).st st1 (OB eu)
     obtain⟨ys,hys,_⟩:=s2.sqB (Gr.refl st1.mo).st st1 (OB ee)
     exact⟨_,_,_,_,rfl,⟨_,hxs⟩,⟨_,hys⟩,q _ _ M1 g1 st1 (ZE (s1.more λx hx=>pI _ hx) (s2.more λx hx=>kL _ hx))⟩
  .cases e⟩
noncomputable def intD:D->jO Int
 | .int i=>Gc i
 |_=>none
noncomputable def K2(ds:Wp D):jO (Wp Int):=ds.mapM intD
theorem L5{K:W1}{M:Ms}{H:Hp}:∀{vs:Wp V} {ds:Wp D} {ns:Wp Int},Al K M H vs ds->K2 ds=Gc ns->vs=ns.map V.int
 |_,_,ns,.nil,e=>by cases e;rfl
 |_,_,ns,.cons (d:=d) (ds:=ds) h t,e=>by
  unfold K2 at e
  rw[ur]at e
  cases e1:intD d with
  |none=>rw[e1]at e;cases e
  |some b=>
   rw[e1]at e
   cases e2:ds.mapM intD with
   |none=>rw[e2]at e;cases e
   |some cs=>
    rw[e2]at e
    cases e
    have hd:d=.int b:=by
     cases d<;>first|(cases e1;done)|skip
     cases e1;rfl
    subst hd
    cases h
    rw[kY,<-L5 t e2]
theorem SJ{X:Cx}(hc:X.calm=true):FN X (.builtin "sum") (λxs H Q=>∃(p:jR) (ns:Wp Int),xs=[.ref p]/\SqL X.K H p (ns.map V.int)/\Q (.int ns.sum) H):=by
 intro pins s σ H xs us Q I r h
 obtain⟨p,ns,rfl,hp,q⟩:=h
 obtain⟨u,rfl,ru⟩:=r.one
 cases (show u=kD p from ru)
 obtain⟨its,rv,pl,hz⟩:=I.list hp
 have hd:X.A.in1.handled=none:=I.ok.hd hc
 refine call_sum_walkG (lZ pl.isList ?_)
 have hlen:ns.length=its.length:=by have:=rv.length;simpa using this
 have hpl:=pl.isList
 have hlt:p<s.heap.objs.size:=by
  obtain⟨o,ho,_⟩:=hpl
  exact ji ho
 refine⟨s.heap.objs.size,_,_,its.length,_,_,λi=>ns.getD i 0,rfl,St.Rg (vs:=its) hd (kA hlt),⟨⟨_,jx _ rfl,rfl,rfl⟩,?_⟩,?_,?_,?_⟩
 .obtain⟨o,ho,r⟩:=hpl
  exact⟨o,jP _ ho,r⟩
 .intro b hb
  rw[lB]
  simp at hb
  rcases hb with h|h
  .rw[h];exact Nat.lt_succ_self _
  .rw[h];exact Nat.lt_succ_of_lt hlt
 .intro i v hv
  have hi:i<its.length:=(jb.mp hv).1
  have hb:(ns.map V.int)[i]?=Gc (.int (ns.getD i 0)):=by
   rw[jq,jS (by lia)]
   simp[jy,jS (show i<ns.length by lia)]
  obtain⟨u,hu,ru⟩:=rv.get hb
  rw[hv]at hu
  cases hu
  exact ru
 .intro h' tk t' hk
  have e:preSum (λi=>ns.getD i 0) its.length=ns.sum:=by
   rw[<-hlen,St.MP (ja _),l7 (ja _)]
  rw[e]
  exact⟨.int _,H,I.kept (t':=tk) λb o eb=>hk b o (by simp;exact kA (ji eb)) (jP _ eb),⟨_,rfl⟩,q⟩
noncomputable def VM:Op1:=λw=>(asL w).bind λds=>(K2 ds).map λns=>.val (.int ns.sum)
theorem Jh{X:Cx}(hc:X.calm=true):FN X (.builtin "sum") (rN X.K (o1 VM)):=by
 intro pins s σ H xs us Q I r h
 obtain⟨M,ws,w,e,mo,sh,q⟩:=h
 obtain⟨v,w1,rfl,rfl,s1,e1⟩:=KZ sh e
 obtain⟨ds,e2,e1⟩:=BG e1
 obtain⟨ns,e3,e1⟩:=LM e1
 cases e1
 obtain⟨a,ys,rfl,h3,h4⟩:=s1.l e2
 exact SJ hc pins s σ H _ us Q I r ⟨a,ns,rfl,by rw[<-L5 h4 e3];exact .of h3,q _ _ (.same mo (.int _))⟩
noncomputable def Mf(ns:Wp Int):Wp Int:=ns.mergeSort (λa b=>decide (a<=b))
theorem Mr(ns:Wp Int):(Mf ns).Perm ns:=List.mergeSort_perm _ _
theorem Rt(ns:Wp Int):(Mf ns).Pairwise (· <= ·):=by
 have:=List.pairwise_mergeSort (le:=λ(a b:Int)=>decide (a<=b)) (λa b c h1 h2=>by simp at *; lia) (λa b=>by simp;lia) ns
 unfold Mf
 exact this.imp λh=>jh h
theorem RW{ns ms:Wp Int}(p:ms.Perm ns)(s:ms.Pairwise (· <= ·)):ms=Mf ns:=PySem.W.ksm_same (p.trans (Mr ns).symm) s (Rt ns)
theorem intsAre_of:∀{ns:Wp Int} {its:Wp jN},Vals (ns.map V.int) its->ny its ns
 | [],_,.nil=>.nil
 |n::ns,_,.cons h t=>by
  obtain⟨tk,rfl⟩:=h
  exact .cons n tk (intsAre_of t)
theorem Kl:∀{ns:Wp Int} {its:Wp jN},ny its ns->Vals (ns.map V.int) its
 |_,_,.nil=>.nil
 |_,_,.cons n tk t=>.cons ⟨tk,rfl⟩ (Kl t)
theorem Pa{X:Cx}:FN X (.builtin "sorted") (λxs H Q=>∃(p:jR) (ns:Wp Int),xs=[.ref p]/\SqL X.K H p (ns.map V.int)/\ns.length<64/\∀q,H q=none->Q (.ref q) (upd H q (.lst ((Mf ns).map V.int)))):=by
 intro pins s σ H xs us Q I r h
 obtain⟨p,ns,rfl,hp,h64,q⟩:=h
 obtain⟨u,rfl,ru⟩:=r.one
 cases (show u=kD p from ru)
 obtain⟨its,rv,pl,hz⟩:=I.list hp
 have hlen:ns.length=its.length:=by have:=rv.length;simpa using this
 refine vW pl.isList (intsAre_of rv) (by lia) λout ns' a1 a2 a3=>?_
 obtain⟨e,he⟩:=vG s.heap its out
 have hn:H (s.heap.objs.size+1)=none:=I.hok.fresh (rK _)
 have hs:=RW a2 a3
 subst hs
 refine⟨.ref _,_,I.laid (a:=s.heap.objs.size+1) (o:=.lst ((Mf ns).map V.int)) (t':=s.toks) (λ_ _=>uu) (rK _) ?_,rfl,q _ hn⟩
 refine⟨?_,out.toList,e,Kl a1,?_⟩
 .rw[kF,(Mr ns).length_eq]
  have:(64:Nat)<=sizeLine:=by decide
  lia
 .rw[Array.toArray_toList];exact he
noncomputable def N2:Op1:=λw=>(asL w).bind λds=>(K2 ds).bind λns=>if ns.length<64 then Gc (.own ((Mf ns).map D.int))else none
theorem Oo{X:Cx}:FN X (.builtin "sorted") (rN X.K (o1 N2)):=by
 intro pins s σ H xs us Q I r h
 obtain⟨M,ws,w,e,mo,sh,q⟩:=h
 obtain⟨v,w1,rfl,rfl,s1,e1⟩:=KZ sh e
 obtain⟨ds,e2,e1⟩:=BG e1
 obtain⟨ns,e3,e1⟩:=BG e1
 split at e1
 .cases e1
  obtain⟨a,ys,rfl,h3,h4⟩:=s1.l e2
  exact Pa pins s σ H _ us Q I r ⟨a,ns,rfl,by rw[<-L5 h4 e3];exact .of h3,by assumption,λp hp=>q _ _ (.lst mo hp LI)⟩
 .cases e1
theorem N7(l:jR)(items:kP jN)(n:Nat)(b:jR)(items2:kP jN)(n2:Nat)(dd:jO jR)(sl:kP (jO jN))(hs0:¬(!items.isEmpty && lA (items.size+items2.size))=true)(hs1:items.size<=sizeLine)(hs2:items.size+items2.size<=sizeLine+1):Meets (og.«list.extend» ⟨[.ref l,.ref b],[]⟩) (λ_ R s=>s.heap.get? l=Gc {cls:=.type "list",dict:=none,data:=.seq items n,slots:= #[]}/\s.heap.get? b=Gc {cls:=.type "tuple",dict:=dd,data:=.seq items2 n2,slots:=sl}/\R (.ok (.ret kR)) {s with heap:=s.heap.update l (qA λx=>x++items2),toks:=s.toks}):=
 .of_wp λprog w A R s h=>by
  obtain⟨hp,g,d,tk,os⟩:=s;obtain⟨hl,hb,h⟩:=h;have f1:=AutoSeq1.idx_int;have f2:=vX;have f3:=wN;have f4:=vo;have f5:=vp
  have hz':(items++items2).size<=sizeLine+1:=by rw[Array.size_append];exact hs2
  wp_walk using(wpAny_updateSeq hl rfl (hz:=hs1) (_hz':=hz')),jv hl,jv hb;exact⟨_,rfl,h⟩
def Vt(K:W1):V->Wp V->Hp->VK->Prop:=λx vs H Q=>∃l b xs zs,x=.ref l/\vs=[.ref b]/\H l=Gc (.lst xs)/\SqT K H b zs/\xs.length+zs.length<=sizeLine/\Q .non (upd H l (.lst (xs++zs)))
theorem RJ{X:Cx}:MtM X "list.extend" (Vt X.K):=by
 intro pins s σ H x vs v us Q I rx rv h
 obtain⟨l,b,xs,zs,rfl,rfl,hH,hB,hz,q⟩:=h
 cases rx
 obtain⟨u,rfl,ru⟩:=rv.one
 cases ru
 obtain⟨z,its,n,r,hl,e⟩:=I.WM hH
 obtain⟨its2,r2,⟨⟨c,dd,dt,sl⟩,e2,hc,n2,hd⟩,z2⟩:=I.tuple hB
 simp only at hc hd
 subst hc hd
 have hl2:=r2.length
 have hsz:its.toArray.size+its2.toArray.size<=sizeLine:=by rw[jd,jd];lia
 have hlong:¬(!its.toArray.isEmpty && lA (its.toArray.size+its2.toArray.size))=true:=by
  rw[OP hsz,qB]
  exact kM
 refine pC pJ ⟨_,e,rfl⟩ rY (rD _ _)
  (N7 l its.toArray n b its2.toArray n2 dd sl hlong (by rw[jd];lia) (by lia)) ⟨e,e2,?_⟩
 refine⟨.non,_,I.ek (its':=its++its2) hH e (by simp) (r.append r2) ?_,rfl,q⟩
 rw[kn]
 lia
noncomputable def b9:Mo
 |S,ds,[x]=>match dr S x with
  | .val (.tup zs)=>if ds.length+zs.length<=sizeLine then Gc (.non,ds++zs)else none
  |w=>(asL w).bind λzs=>if ds.length+zs.length<=sizeLine then Gc (.non,ds++zs)else none
 |_,_,_=>none
theorem Xo{X:Cx}:MtR X "list.extend" (bT X.K b9):=by
 intro pins s σ H x vs v us Q I rx rv h
 obtain⟨M,S,n,a,ds,args,d,ds',rfl,hc,hn,e,st,ra,q⟩:=h
 unfold b9 at e
 split at e
 .obtain⟨xs,h1,h2⟩:=st.cell n a _ hc hn
  obtain⟨y,rfl,ry⟩:=Qp ra
  have sy:=XU st ry
  split at e
  .rename_i ed
   rw[ed]at sy
   split at e
   .rename_i hz
    cases e
    cases sy with
    |tup hx rr=>
     obtain⟨st2,g2⟩:=st.chg hc hn (h2.append rr)
     exact RJ pins s σ H _ _ v us Q I rx rv ⟨a,_,xs,_,rfl,rfl,h1,hx,by rw[h2.length,rr.length];exact hz,q _ _ st2 g2 .non⟩
   .cases e
  .obtain⟨zs,e1,e⟩:=BG e
   split at e
   .rename_i hz
    cases e
    obtain⟨b,ys,rfl,h3,h4⟩:=sy.l e1
    obtain⟨st2,g2⟩:=st.chg hc hn (h2.append h4)
    exact UL pins s σ H _ _ v us Q I rx rv ⟨a,b,xs,ys,rfl,rfl,h1,h3,by rw[h2.length,h4.length];exact hz,q _ _ st2 g2 .non⟩
   .cases e
 .cases e
theorem VU{X:Cx}:OpR X (binaryOp .Mult) (λx y H Q=>∃a xs k,x=.ref a/\y=.int k/\SqT X.K H a xs/\xs≠[]/\k<=0/\ -(2^63)<=k/\∀p,H p=none->Q (.ref p) (upd H p (.tup []))):=by
 intro pins s σ H x y v u Q I rx ry h
 obtain⟨a,xs,k,rfl,rfl,hx,hne,hk,hk2,q2⟩:=h
 cases rx
 obtain⟨t,rfl⟩:=ry
 obtain⟨its,r,⟨⟨c,dd,data,sl⟩,ho,hc,n,hd⟩,hzz⟩:=I.tuple hx
 simp only at hc hd
 subst hc hd
 have hl:=r.length
 have hpos:0<xs.length:=rf.mpr hne
 refine ni (T:="tuple") (U:="int") (by decide) ⟨_,ho,rfl⟩ (λs'=>pB s' k t) HN qv nF K1 qf.lookup
  (pC nF (pB s k t) qg (qN _ _) (Iv k t a its.toArray n dd sl) ⟨ho,rfl,⟨_,ho,rfl⟩,?_⟩)
 refine lQ pD ⟨_,ho,rfl⟩ tT ?_ (sU _ _)
 unfold og.«tuple.__mul__»
 wp_walk using jv ho
 rw[kC (show¬(decide (k< -2^63)||decide (k≥2^63))=true by
  rw[kq]
  rintro (z|z)
  .have:=jh z;lia
  .have:=jh z;lia)]
 wp_walk using jv ho
 have hemp:its.toArray.isEmpty=false:=by
  cases its with
  |nil=>rw[oG]at hl;lia
  |cons b bs=>rfl
 rw[kC (show¬(its.toArray.isEmpty||k==1)=true by
  rw[hemp,Bool.false_or]
  intro z
  have:=eq_of_beq z
  lia)]
 wp_walk using jv ho
 all_goals first
  |exact⟨_,rfl,.ref _,_,I.laid (o:=.tup []) (t':=s.toks) (λb ob q=>jP _ q) (ja _) ⟨l9 _,[],.nil,nk _ _⟩,rfl,q2 _ (I.hok.fresh (ja _))⟩
  |(exfalso
    rename_i hh
    exact hh (by rw[kq];exact .inl (mE hk)))
noncomputable def CW:Op2:=λa b=>match a,b with
 | .val (.tup xs),.val (.int k)=>if(!xs.isEmpty && decide (k<=0) && decide (-(2^63)<=k))=true then Gc (.val (.tup []))else bX (.val (.tup xs)) (.val (.int k))
 |a,b=>bX a b
theorem Ao{X:Cx}:OpR X (binaryOp .Mult) (rOp X.K CW):=by
 intro pins s σ H x y v u Q I rx ry h
 obtain⟨M,w1,w2,r,e,mo,s1,s2,q⟩:=h
 unfold CW at e
 split at e
 .split at e
  .rename_i xs k hk
   rw[jW,jW]at hk
   cases e
   cases s2
   cases s1 with
   | @tup a ys _ h1 r1=>
     have hne:ys≠[]:=λzz=>by
      subst zz
      cases r1
      exact absurd hk.1.1 (by decide)
     exact VU pins s σ H _ _ v u Q I rx ry ⟨a,ys,k,rfl,rfl,h1,hne,jh hk.1.2,jh hk.2,λp hp=>q _ _ (.tup mo hp .nil)⟩
  .exact R6 pins s σ H x y v u Q I rx ry ⟨M,_,_,r,e,mo,s1,s2,q⟩
 .exact R6 pins s σ H x y v u Q I rx ry ⟨M,_,_,r,e,mo,s1,s2,q⟩
theorem MJ{A:kK}{k:Nat}(hr:JX k A):A.units+100<cLine:=by have:=hr.un;lia
section
variable{P:js}{w:j6}{K:W1}{mg:Str->jO jN}{base:j0}
end
noncomputable def scE:Nat->j4->Wp mC
 |0,_=>[]
 |n+1,.ListComp e gs s _=>s::(gs.flatMap λg=>scE n g.iter)++scE n e++(gs.flatMap λg=>g.ifs.flatMap (scE n))
 |n+1,.BoolOp _ vs _=>vs.flatMap (scE n)
 |n+1,.Call f as _ _=>scE n f++as.flatMap (scE n)
 |n+1,.BinOp a _ b _=>scE n a++scE n b
 |n+1,.UnaryOp _ a _=>scE n a
 |n+1,.Compare a _ cs _=>scE n a++cs.flatMap (scE n)
 |n+1,.Subscript a b _=>scE n a++scE n b
 |n+1,.Tuple es _ _=>es.flatMap (scE n)
 |n+1,.List es _=>es.flatMap (scE n)
 |n+1,.IfExp c a b _=>scE n c++scE n a++scE n b
 |n+1,.Dict _ vs _=>vs.flatMap (scE n)
 |n+1,.Slice a b c _=>(a.toList++b.toList++c.toList).flatMap (scE n)
 |n+1,.Attribute v _ _=>scE n v
 |_,_=>[]
noncomputable def scS:Nat->kE->Wp mC
 |0,_=>[]
 |n+1,.Return (Gc e) _=>scE 30 e
 |n+1,.Assign ts e _=>ts.flatMap (scE 30)++scE 30 e
 |n+1,.AugAssign t _ e _=>scE 30 t++scE 30 e
 |n+1,.Expr e _=>scE 30 e
 |n+1,.If t a b _=>scE 30 t++a.flatMap (scS n)++b.flatMap (scS n)
 |n+1,.For _ it a b _=>scE 30 it++a.flatMap (scS n)++b.flatMap (scS n)
 |n+1,.While t a b _=>scE 30 t++a.flatMap (scS n)++b.flatMap (scS n)
 |_,_=>[]
noncomputable def NR(st:kE)(k:Nat):mC:=((DL st).flatMap (scS 20)).getD k (AI st)
structure iy(P:js)(w:j6)(K:W1)(mg:Str->jO jN)(base:j0)(x:Str)(k np:Nat)(tbl:Wp (Str×Fn)):Prop where
 ex:∃a kvs,mg x=Gc (.ref a)/\TopD K w a kvs/\∀p G,tbl.lookup p=Gc G->∃f fd ps,kvs.lookup p=Gc (.ref f)/\MU P w K mg base CX0 k f fd ps (spD K np G)/\lL K (.ref f)=true/\Binds K fd ps []
section
variable{P:js}{w:j6}{K:W1}{mg:Str->jO jN}{base h:j0}
theorem Z6{x:Str}{st:kE}{f:jR}{oc:jN}{od an:jO jR}{osl:kP (jO jN)}{kV doc pm cdv ct:jN}(X:K.In h)(G:h.Ns mainGlobals mg)(a:kf K mainGlobals x=Gc (Gc (.ref f)))(l:K.lookup f=Gc ⟨oc,od,.func (mR x x (Iz st) (DL st) (AI st) .none kV doc pm an cdv ct),osl⟩)(c:oW K cdv x=true)(k:lL K (.ref f)=true):St.Src K mg x st:=
 ⟨f,_,aO l c k,nJ X G a⟩
def IsD(K:W1)(u:jN)(d:D):Prop:=∃v,RelV v u/\∀M H,EA K M H v d
theorem Nq{i:Int}{t:Tok}:IsD K (.int i t) (.int i):=⟨.int i,⟨t,rfl⟩,λ_ _=>.int i⟩
theorem Nu{x:Str}{t:Tok}:IsD K (.str x t) (.str x):=⟨.str x,⟨t,rfl⟩,λ_ _=>.str x⟩
theorem QY:∀{us:Wp jN} {ds:Wp D},Paired (λd u=>IsD K u d) ds us->∃xs,Vals xs us/\∀M H,Al K M H xs ds
 |_,_,.nil=>⟨[],.nil,λ_ _=>.nil⟩
 |_,_,.cons h t=>by
  obtain⟨v,h1,h2⟩:=h
  obtain⟨xs,h3,h4⟩:=QY t
  exact⟨v::xs,.cons h1 h3,λM H=>.cons (h2 M H) (h4 M H)⟩
theorem Pu{a:jR}{od:jO jR}{osl:kP (jO jN)}{its:Wp jN}{n:Nat}{ds:Wp D}(l:K.lookup a=Gc ⟨.type "tuple",od,.seq its.toArray n,osl⟩)(hz:its.length<=sizeLine)(r:Paired (λd u=>IsD K u d) ds its):IsD K (.ref a) (.tup ds):=by
 obtain⟨xs,h1,h2⟩:=QY r
 exact⟨.ref a,rfl,λM H=>.tup (.inr ⟨_,its.toArray,n,l,rfl,rfl,by simpa using hz,by simpa using h1⟩) (h2 M H)⟩
theorem UN{x:Str}{u:jN}{d:D}(X:K.In h)(G:h.Ns mainGlobals mg)(e:kf K mainGlobals x=Gc (Gc u))(r:IsD K u d):RX K mg x d:=by
 obtain⟨v,h1,h2⟩:=r
 exact⟨v,u,nJ X G e,h1,h2⟩
structure jG(w:j6)(K:W1)(mg:Str->jO jN)(x:Str)(ns:Wp (Str×Str)):Prop where
 ex:∃a kvs,mg x=Gc (.ref a)/\TopD K w a kvs/\Paired (λ(n:Str×Str) (q:Str×V)=>n.1=q.1/\∃f,q.2=.ref f/\mg n.2=Gc (.ref f)) ns kvs
noncomputable def XO(K:W1):Sp:=λvs H Q _=>∃(a:jR) (ns:Wp Int),vs=[.ref a]/\SqL K H a (ns.map V.int)/\ns.length<=63/\∀H',Q (.bl true) H'
theorem Y1{k:Nat}{f:jR}{fd:lE}{x:Str}{F:Fn}(Fk:MU P w K mg base CX0 k f fd [x] (spD K 1 F))(h:∀ns:Wp Int,ns.length<=63->∃S,F [.scr ns] []=Gc (.bl true,S)):MU P w K mg base CX0 k f fd [x] (XO K):=by
 refine Fk.imp λvs H Q E z=>?_
 obtain⟨a,ns,rfl,hs,hl,q⟩:=z
 obtain⟨S,e⟩:=h ns hl
 refine⟨Ms.no,[.scr ns],[],_,S,rfl,e,.cons (.scr ?_) .nil,⟨λa z=>absurd z Ms.WA,List.nodup_nil,λa z=>(nomatch z),rfl,λn a c z=>by simp[Ms.no]at z⟩,λv H' M' g st r=>?_⟩
 .rcases hs with hs|hs
  .exact .inl ⟨hs,Ms.WA⟩
  .exact .inr hs
 .cases r
  exact q H'
end
def Tb(old:jR->Prop)(H:Hp)(h:j0)(e:jR)(v:jN):Prop:=
 v=.none\/∃T oT ts,v=.ref T/\T≠e/\h.get? T=Gc oT/\oT.data=.fields ts/\ts[3]?=Gc .none/\H T=none/\¬old T
structure Fly(old:jR->Prop)(H:Hp)(h:j0)(e C:jR)(od:jO jR):Prop where
 free:H e=none
 new:¬old e
 ex:∃oe vs a0 v,h.get? e=Gc oe/\oe.cls=.ref C/\oe.data=.fields vs/\vs[0]?=Gc a0/\vs[1]?=Gc v/\Tb old H h e v/\∀dx,od=Gc dx->oe.dict=Gc dx
theorem Fly.imp{old old':jR->Prop}{H:Hp}{h:j0}{e C:jR}{od:jO jR}(f:Fly old H h e C od)(m:∀b,old' b->old b):Fly old' H h e C od:=by
 obtain⟨oe,vs,a0,v,h1,h2,h3,h4,h5,t,hd⟩:=f.ex
 refine⟨f.free,λz=>f.new (m _ z),oe,vs,a0,v,h1,h2,h3,h4,h5,?_,hd⟩
 rcases t with t|⟨T,oT,ts,t1,t2,t3,t4,t5,t6,t7⟩
 .exact .inl t
 .exact .inr ⟨T,oT,ts,t1,t2,t3,t4,t5,t6,λz=>t7 (m _ z)⟩
structure aS(old:jR->Prop)(H:Hp)(h:j0)(e C:jR)(od:jO jR):Prop where
 free:H e=none
 new:¬old e
 ex:∃oe vs a0 T oT ts,h.get? e=Gc oe/\oe.cls=.ref C/\oe.data=.fields vs/\vs[0]?=Gc a0/\vs[1]?=Gc (.ref T)/\(T≠e/\h.get? T=Gc oT/\oT.data=.fields ts/\ts[3]?=Gc .none/\H T=none/\¬old T)/\∀dx,od=Gc dx->oe.dict=Gc dx
theorem aS.fly{old:jR->Prop}{H:Hp}{h:j0}{e C:jR}{od:jO jR}(f:aS old H h e C od):Fly old H h e C od:=by
 obtain⟨oe,vs,a0,T,oT,ts,h1,h2,h3,h4,h5,r,hd⟩:=f.ex
 exact⟨f.free,f.new,oe,vs,a0,.ref T,h1,h2,h3,h4,h5,.inr ⟨T,oT,ts,rfl,r⟩,hd⟩
structure Trn(X:Cx)(old:jR->Prop)(H:Hp)(h h':j0)(e C:jR)(od:jO jR):Prop where
 keep:∀b o,h.get? b=Gc o->b∉frs X.stack->(H b≠none\/old b\/∀vs,o.data≠.fields vs)->h'.get? b=Gc o
 slot:∀b o,h.get? b=Gc o->(∀vs,o.data≠.fields vs)->∃sl,h'.get? b=Gc {o with slots:=sl}
 fly:aS old H h' e C od
theorem Ds.there{P:js}{w:j6}{H:Hp}{h:j0}{a:jR}{o:HO}(x:Ds P w H h a o):∃ob,h.get? a=Gc ob:=by
 cases o with
 |lst xs=>obtain⟨_,_,_,_,e⟩:=x;exact⟨_,e⟩
 |tup xs=>obtain⟨_,_,_,ob,e,_⟩:=x;exact⟨_,e⟩
 |dK kvs=>obtain⟨_,_,_,_,o,_,_,e,_⟩:=x;exact⟨_,e⟩
 |dT kvs=>obtain⟨_,_,_,_,o,_,_,e,_⟩:=x;exact⟨_,e⟩
 |set S n=>obtain⟨o,_,_,_,e,_⟩:=x;exact⟨_,e⟩
 |ins C dx fs=>obtain⟨_,_,_,e,_⟩:=x;exact⟨_,e⟩
 |own y=>obtain⟨_,e⟩:=x;exact⟨_,e⟩
 |xd fs=>obtain⟨_,⟨_,_,_,e,_⟩,_⟩:=x;exact⟨_,e⟩
 |rng lo hi=>obtain⟨_,_,_,e⟩:=x;exact⟨_,e⟩
 |frz ob u=>obtain⟨e,_⟩:=x;exact⟨_,e⟩
 |tbl ps=>exact⟨_,(show h.get? a=Gc _ from x)⟩
 |met f y=>exact⟨_,(show h.get? a=Gc _ from x)⟩
 |ext φ=>obtain⟨_,⟨_,e⟩,_⟩:=x;exact⟨_,e⟩
section
variable{X:Cx}{pins:Wp (jR×Obj)}{σ:St}{H:Hp}{s:jQ}{old:jR->Prop}{e C:jR}{od:jO jR}{Q:Unit->jQ->Prop}{E:jN->jQ->Prop}{A:kK}
theorem Sv{h:j0}{a b:jR}{oa o:Obj}{vs:kP jN}(ha:h.get? a=Gc oa)(hd:oa.data=.fields vs)(hb:h.get? b=Gc o)(n:∀vs,o.data≠.fields vs):b≠a:=λz=>by
 rw[z,ha]at hb
 cases hb
 exact n _ hd
theorem YM{H:Hp}{h:j0}{a b:jR}{oa o:Obj}{vs:kP jN}(ha:h.get? a=Gc oa)(hd:oa.data=.fields vs)(fr:H a=none)(nw:¬old a)(hb:h.get? b=Gc o)(k:H b≠none\/old b\/∀vs,o.data≠.fields vs):b≠a:=λz=>by
 subst z
 rcases k with k|k|k
 .exact k fr
 .exact nw k
 .exact Sv ha hd hb k rfl
theorem QJ{ts:kP jN}{i:Nat}{v:jN}(h:ts[i]?=Gc v):ts.setIfInBounds i v=ts:=by
 apply Array.ext (by simp)
 intro j h1 h2
 rw[Array.getElem_setIfInBounds]
 split
 .rename_i z
  subst z
  obtain⟨_,q⟩:=mI.mp h
  exact q.symm
 .rfl
theorem Og{M:sA}(I:Inv X pins σ H s)(hA:A.frames=Gc X.stack)(hst:X.stack=X.env::X.outer)(hf:X.env.frame=Gc X.env.locals)(free:H e=none)(new:¬old e)(ho:∀b,old b->s.heap.get? b≠none){oe:Obj}{vs:kP jN}{a0 head:jN}{hadNext:kG}(he:s.heap.get? e=Gc oe)(hc:oe.cls=.ref C)(hd:oe.data=.fields vs)(h0:vs[0]?=Gc a0)(hz:1<vs.size)(hdx:∀dx,od=Gc dx->oe.dict=Gc dx)(hQ:∀h',Trn X old H s.heap h' e C od->Q () {s with heap:=h'}):wpAny M A (do let a<-frameOf X.env;let pl<-entryPlaceOf X.env.locals hadNext;let b<-rg head a .none (rawInt X.env.locals) .none pl;setField (.ref e) 1 b) (λ_ s2=>wpAny M A (setFlight (.ref e) none) Q E s2) E s:=by
 have st:=I.stack
 have ef:e∉frs X.stack:=λm=>by
  obtain⟨_,o,q,n⟩:=st.mem m
  exact Sv he hd q n rfl
 have hfr:A.frames=Gc (X.env::X.outer):=by rw[hA,hst]
 rw[hst]at st
 refine jM (wpAny_frameOf_fun hfr st hf λh1 hs=>?_)
 obtain⟨sz,out,sl⟩:=hs
 refine jM (wpAny_entryPlaceOf λpl hpl=>?_)
 unfold rg newFields
 refine jM (lY ?_ (hpl.sizeOk5 _ _ _ _ _))
 generalize hob:({cls:=.type "traceback",data:=.fields ([head,.ref X.env.locals,.none,rawInt X.env.locals,.none]++(if pl.isEmpty then jg 6 kR else pl)).toArray}:Obj)=tb
 have ef':e∉(X.env::X.outer).filterMap (·.frame):=by rw[<-hst];exact ef
 have e1:h1.get? e=Gc oe:=(out e ef').trans he
 have e2:(h1.push tb).get? e=Gc oe:=jP _ e1
 refine mn e2 hd hz ?_
 have Te:h1.objs.size≠e:=oR (ji e1)
 have d3:=mF hd (·.setIfInBounds 1 (kD h1.objs.size))
 have e3:=kx (ku (·.setIfInBounds 1 (kD h1.objs.size))) e2 (lP d3)
 have tbd:∃ts:kP jN,tb.data=.fields ts/\3<ts.size:=⟨_,by rw[<-hob],by simp only[jd,kn,mB,oG]<;>omega⟩
 obtain⟨ts,td,tz⟩:=tbd
 have T3:((h1.push tb).update e (ku (·.setIfInBounds 1 (kD h1.objs.size)))).get? h1.objs.size=Gc tb:=(kX _ _ Te.symm).trans (jx h1 (lP td))
 unfold setFlight
 refine jM (k9 e3 d3 (x:=.ref h1.objs.size) (by simp[hz]) ?_)
 rw[kJ (show(kD h1.objs.size !=kR)=true from by simp)]
 refine mn T3 td tz (hQ _ ?_)
 have T4:=kx (ku (·.setIfInBounds 3 ((none:jO jR).elim kR λf=>rawInt f))) T3 (lP (mF td _))
 have all:∀b o,b≠e->h1.get? b=Gc o->(((h1.push tb).update e (ku (·.setIfInBounds 1 (kD h1.objs.size)))).update h1.objs.size (ku (·.setIfInBounds 3 ((none:jO jR).elim kR λf=>rawInt f)))).get? b=Gc o:=λb o n q=>by
  rw[kX _ _ (oR (ji q)),kX _ _ (kZ n)]
  exact jP _ q
 have Tn:s.heap.get? h1.objs.size=none:=by
  cases q:s.heap.get? h1.objs.size with
  |none=>rfl
  |some o=>
   obtain⟨sl',z⟩:=sl _ o q
   exact absurd (ji z) (lI _)
 refine⟨λb o q nf k=>all b o (YM he hd free new q k) ((out b (by rw[<-hst];exact nf)).trans q),λb o q n=>?_,free,new,_,_,a0,h1.objs.size,_,_,(kX _ _ Te).trans e3,(tM _ _).trans hc,d3,by rw[oo (by decide)];exact h0,by simp[hz],⟨Te,T4,mF td _,by simp[tz],?_,λz=>ho _ z Tn⟩,λdx z=>?_⟩
 .obtain⟨sl',z⟩:=sl b o q
  exact⟨sl',all b _ (Sv he hd q n) z⟩
 .cases q:H h1.objs.size with
  |none=>rfl
  |some o=>
   obtain⟨ob,z⟩:=Ds.there (I.hok _ o q)
   rw[Tn]at z;cases z
 .rw[<-hdx dx z]
  obtain⟨c,dd,da,sl⟩:=oe
  cases da<;>first|rfl|(simp[ku];done)
theorem Qq{M:sA}(I:Inv X pins σ H s)(hA:A.frames=Gc X.stack)(hst:X.stack=X.env::X.outer)(hf:X.env.frame=Gc X.env.locals)(f:Fly old H s.heap e C od)(ho:∀b,old b->s.heap.get? b≠none)(hQ:∀h',Trn X old H s.heap h' e C od->Q () {s with heap:=h'}):wpAny M A (noteFrame (.ref e) X.env) (λ_ s2=>wpAny M A (setFlight (.ref e) none) Q E s2) E s:=by
 obtain⟨oe,vs,a0,v,h1,h2,h3,h4,h5,t,hd⟩:=f.ex
 have hz:=(mI.mp h5).1
 unfold noteFrame
 simp only[hf]
 refine jM (k9 h1 h3 h5 ?_)
 rcases t with t|⟨T,oT,ts,t1,t2,t3,t4,t5,t6,t7⟩
 .subst t
  rw[kC (by decide)]
  exact Og I hA hst hf f.free f.new ho h1 h2 h3 h4 hz hd hQ
 .subst t1
  rw[kJ (show(kD T !=kR)=true from by simp)]
  refine jM (k9 t3 t4 t5 ?_)
  rw[kC (show¬((kR==rawInt X.env.locals)=true)from by simp[rawInt])]
  refine jM (mn t3 t4 (mI.mp t5).1 ?_)
  have oth:∀b,b≠T->(s.heap.update T (ku (·.setIfInBounds 3 kR))).get? b=s.heap.get? b:=λb n=>kX _ _ (kZ n)
  have sm:=QJ t5
  have up:(s.heap.update T (ku (·.setIfInBounds 3 kR))).get? T=Gc oT:=by
   rw[kx _ t3 (lP (mF t4 _))]
   obtain⟨c,dd,da,sl⟩:=oT
   cases t4
   show Gc ({cls:=c,dict:=dd,data:=.fields (ts.setIfInBounds 3 .none),slots:=sl}:Obj)=_
   rw[sm]
  have same:∀b,(s.heap.update T (ku (·.setIfInBounds 3 kR))).get? b=s.heap.get? b:=λb=>by
   by_cases z:b=T
   .rw[z,up,t3]
   .exact oth b z
  have I':Inv X pins σ H {s with heap:=s.heap.update T (ku (·.setIfInBounds 3 kR))}:=I.kept (t':=s.toks) λb u q=>(same b).trans q
  refine Og (s:={s with heap:=s.heap.update T (ku (·.setIfInBounds 3 kR))}) I' hA hst hf f.free f.new (λb z q=>ho b z ((same b).symm.trans q)) ((same e).trans h1) h2 h3 h4 hz hd λh' t=>hQ h' ⟨λb o q=>t.keep b o ((same b).trans q),λb o q=>t.slot b o ((same b).trans q),t.fly⟩
theorem T6{M:sA}(I:Inv X pins σ H s)(f:aS old H s.heap e C od)(hQ:∀h',Trn X old H s.heap h' e C od->Q () {s with heap:=h'}):wpAny M A (setFlight (.ref e) none) Q E s:=by
 obtain⟨oe,vs,a0,T,oT,ts,h1,h2,h3,h4,h5,⟨t2,t3,t4,t5,t6,t7⟩,hd⟩:=f.ex
 unfold setFlight
 refine jM (k9 h1 h3 h5 ?_)
 rw[kJ (show(kD T !=kR)=true from by simp)]
 refine mn t3 t4 (mI.mp t5).1 (hQ _ ?_)
 have up:(s.heap.update T (ku (·.setIfInBounds 3 ((none:jO jR).elim kR λf=>rawInt f)))).get? T=Gc oT:=by
  rw[kx _ t3 (lP (mF t4 _))]
  obtain⟨c,dd,da,sl⟩:=oT
  cases t4
  show Gc ({cls:=c,dict:=dd,data:=.fields (ts.setIfInBounds 3 .none),slots:=sl}:Obj)=_
  rw[QJ t5]
 have same:∀b,(s.heap.update T (ku (·.setIfInBounds 3 ((none:jO jR).elim kR λf=>rawInt f)))).get? b=s.heap.get? b:=λb=>by
  by_cases z:b=T
  .rw[z,up,t3]
  .exact kX _ _ (kZ z)
 exact⟨λb o q _ _=>(same b).trans q,λb o q _=>⟨o.slots,(same b).trans q⟩,f.free,f.new,oe,vs,a0,T,oT,ts,(same e).trans h1,h2,h3,h4,h5,⟨t2,up,t4,t5,t6,t7⟩,hd⟩
end
def XW(X:Cx)(pins:Wp (jR×Obj))(b:jR):Prop:=X.s₀.heap.get? b≠none\/∃p∈X.pn++pins,p.1=b
section
variable{X:Cx}{pins:Wp (jR×Obj)}{σ:St}{H:Hp}{s:jQ}{old:jR->Prop}{e C:jR}{od:jO jR}{h':j0}
theorem T7(hst:X.stack=X.env::X.outer)(hf:X.env.frame=Gc X.env.locals):frs X.stack=X.env.locals::X.fs:=by
 rw[hst];unfold frs Cx.fs frs;rw[kO,hf]
theorem IH(I:Inv X pins σ H s)(hx:X.ex=[]):∀b,XW X pins b->s.heap.get? b≠none:=λb z=>by
 rcases z with z|⟨p,m,rfl⟩
 .cases q:X.s₀.heap.get? b with
  |none=>exact absurd q z
  |some o=>
   obtain⟨o',e'⟩:=I.base.there b o q (by rw[hx];exact λz=>nomatch z)
   rw[e'];exact λz=>nomatch z
 .rw[(I.pin p m).1];exact λz=>nomatch z
theorem Ui(I:Inv X pins σ H s)(t:Trn X old H s.heap h' e C od):HOk X.prog X.w H h':=λa o q=>by
 refine(I.hok a o q).Rn (λb u hb e1=>?_) (λ_ z=>z) λ_ _ z=>z
 have hn:H b≠none:=by
  rcases hb with z|z
  .subst z;rw[q];exact λz=>nomatch z
  .rw[z];exact λz=>nomatch z
 exact t.keep b u e1 (λz=>hn (I.Pt b z)) (.inl hn)
theorem WT(I:Inv X pins σ H s)(hst:X.stack=X.env::X.outer)(hf:X.env.frame=Gc X.env.locals)(hx:X.ex=[])(t:Trn X (XW X pins) H s.heap h' e C od):Un X.fs X.ex X.H₀ H X.s₀.heap h':=by
 have hs:=T7 hst hf
 have nL:∀b o,X.s₀.heap.get? b=Gc o->b≠X.env.locals:=λb o e1=>kA (jV (ji e1) I.ok.above)
 have od:∀b o,X.s₀.heap.get? b=Gc o->XW X pins b:=λb o e1=>.inl (by rw[e1];exact λz=>nomatch z)
 have fd:∀b o,b∈X.fs->X.s₀.heap.get? b=Gc o->∀vs,o.data≠.fields vs:=λb o hb e1 vs=>by
  obtain⟨_,o',e2,q⟩:=I.ok.Qr.mem hb
  rw[e1]at e2;cases e2
  exact q vs
 refine⟨λb o e1 n hb hx'=>?_,λb o e1 n hb hx'=>?_,I.base.free,λb o e1 hx'=>?_,I.base.R0,I.base.RY,I.base.Rz⟩
 .refine t.keep b o (I.base.keep b o e1 n hb hx') (λz=>?_) (.inr (.inl (od b o e1)))
  rw[hs]at z
  exact(jX.mp z).elim (nL b o e1) hb
 .obtain⟨sl,q⟩:=I.base.slot b o e1 n hb hx'
  obtain⟨sl',q'⟩:=t.slot b _ q (fd b o hb e1)
  exact⟨sl',q'⟩
 .obtain⟨o',q⟩:=I.base.there b o e1 hx'
  by_cases hb:b∈frs X.stack
  .obtain⟨_,o2,q2,d⟩:=I.stack.mem hb
   obtain⟨sl,z⟩:=t.slot b o2 q2 d
   exact⟨_,z⟩
  .exact⟨o',t.keep b o' q hb (.inr (.inl (od b o e1)))⟩
theorem UM(I:Inv X pins σ H s)(hst:X.stack=X.env::X.outer)(hf:X.env.frame=Gc X.env.locals)(hx:X.ex=[])(t:Trn X (XW X pins) H s.heap h' e C od):Inv X pins σ H {s with heap:=h'}:=by
 have hs:=T7 hst hf
 have cl:∀c v,s.heap.IsCell c v->h'.IsCell c v:=λc v ⟨o,ho,hd⟩=>by
  obtain⟨sl,q⟩:=t.slot c o ho λvs z=>by rw[hd]at z;cases z
  exact⟨_,q,hd⟩
 refine⟨I.ok,I.os,I.bare,WT I hst hf hx t,?_,λx c e1=>?_,I.free,I.IZ,λp m=>?_,Ui I t,I.len⟩
 .obtain⟨m,hn,hl⟩:=I.loc
  refine⟨m,zU (λb o e1 e2=>t.slot b o e1 e2) hn,λi x v e1 e2 e3=>?_⟩
  obtain⟨u,r,l⟩:=hl i x v e1 e2 e3
  refine⟨u,r,?_⟩
  rcases l with l|⟨k,c,e4,z⟩
  .exact .inl l
  .exact .inr ⟨k,c,e4,cl c _ z⟩
 .obtain⟨v,z⟩:=I.cell x c e1
  exact⟨v,cl c v z⟩
 .obtain⟨p1,p2,p3,p4,p5⟩:=I.pin p m
  refine⟨t.keep _ _ p1 (λz=>?_) (.inr (.inl (.inr ⟨p,m,rfl⟩))),p2,p3,p4,p5⟩
  rw[hs]at z
  exact(jX.mp z).elim p3 p4
end
abbrev Rk:=jR->jO jR->St->Hp->Prop
abbrev TR:=St->Hp->Rk->Prop
def XP(X:Cx)(pins:Wp (jR×Obj))(Z:Rk)(ev:jN)(s':jQ):Prop:=∃e C od σ' H',ev=.ref e/\Inv X pins σ' H' s'/\Z C od σ' H'/\Fly (XW X pins) H' s'.heap e C od
def PX(X:Cx)(st:kE)(t:TR):Prop:=∀(pins:Wp (jR×Obj)) (s:jQ) (σ:St) (H:Hp) (Z:Rk),Inv X pins σ H s->t σ H Z->wpAny (model X.prog X.w) X.A (exec st X.env) (λ_ _=>lW) (XP X pins Z) s
def PXs(X:Cx)(sts:Wp kE)(t:TR):Prop:=∀(pins:Wp (jR×Obj)) (s:jQ) (σ:St) (H:Hp) (Z:Rk),Inv X pins σ H s->t σ H Z->wpAny (model X.prog X.w) X.A (execs sts X.env) (λ_ _=>lW) (XP X pins Z) s
def PXe(X:Cx)(e:j4)(t:TR):Prop:=∀(pins:Wp (jR×Obj)) (s:jQ) (σ:St) (H:Hp) (Z:Rk),Inv X pins σ H s->t σ H Z->wpAny (model X.prog X.w) X.A (eval e X.env) (λ_ _=>lW) (XP X pins Z) s
noncomputable def CXr(P:js)(w:j6):CXT:=λouter H s E ev s'=>∃e C od H',ev=.ref e/\s'.os=s.os/\oM s'.gens/\Un (frs outer) [] H H' s.heap s'.heap/\HOk P w H' s'.heap/\Fly (λb=>s.heap.get? b≠none) H' s'.heap e C od/\E (.ref C) od H'
theorem VD{P:js}{w:j6}{K:W1}{mg:Str->jO jN}{base:j0}{N:Wp Str}{qual:Str}{scope:mC}{f:jR}{cd:jN}{A:kK}{outer:Wp oO}{s:jQ}{H:Hp}{E:XK}{pins:Wp (jR×Obj)}{Z:Rk}{ev:jN}{s':jQ}(h:XP (QC (CXr P w) P w K mg base N qual scope f cd A outer s H E).nox pins Z ev s')(hZ:∀C od σ' H',Z C od σ' H'->E (.ref C) od H'):(QC (CXr P w) P w K mg base N qual scope f cd A outer s H E).xe ev s':=by
 obtain⟨e,C,od,σ',H',rfl,I,z,fl⟩:=h
 show wpAny _ _ (leaving _ (.ref e)) _ _ s'
 unfold leaving
 refine jM (Qq I I.ok.frames rfl rfl fl (IH I rfl) λh' t=>?_)
 exact⟨e,C,od,H',rfl,I.os,I.bare,WT I rfl rfl rfl t,Ui I t,t.fly.fly.imp λb z=>.inl z,hZ _ _ _ _ z⟩
structure Tg where
 nm:Str
 pay:jO Int
instance:Coe Str Tg:=⟨λx=>⟨x,none⟩⟩
def cI(mg:Str->jO jN)(x:Tg)(C:jR)(od:jO jR)(H:Hp):Prop:=mg x.nm=Gc (.ref C)/\∀n,x.pay=Gc n->∃dx,od=Gc dx/\H dx=Gc (.xd [("at",.int n)])
abbrev Rx:=En->Sto->jO (Tg×En×Sto)
abbrev Rf:=Wp D->Sto->jO (Tg×Sto)
noncomputable def tR(K:W1)(mg:Str->jO jN)(r:Rx):TR:=λσ H Z=>∃M E S x E' S',r E S=Gc (x,E',S')/\EnR K M E σ H/\StR K M S H/\∀C od σ' H' M',cI mg x C od H'->Gr M H M' H'->EnR K M' E' σ' H'->StR K M' S' H'->Z C od σ' H'
structure RS(X:Cx)(st:kE)(r:Rx):Prop where
 pe:PX X st (tR X.K X.mg r)
structure RSs(X:Cx)(st:Wp kE)(r:Rx):Prop where
 pe:PXs X st (tR X.K X.mg r)
structure RE(X:Cx)(e:j4)(r:Rx):Prop where
 pe:PXe X e (tR X.K X.mg r)
noncomputable def spR(K:W1)(mg:Str->jO jN)(np:Nat)(R:Rf):Sp:=λvs H _ E=>∃M ds S x S',ds.length=np/\R ds S=Gc (x,S')/\Al K M H vs ds/\StR K M S H/\∀C od H' M',cI mg x C od H'->Gr M H M' H'->StR K M' S' H'->E (.ref C) od H'
noncomputable def Rj(N:Nat)(r:Rx):Rf:=λds S=>(r (ds.map Gc++jg (N-ds.length) none) S).map λq=>(q.1,q.2.2)
structure ZA(P:js)(w:j6)(K:W1)(mg:Str->jO jN)(base:j0)(x:Str)(k:Nat)(ps:Wp Str)(sp:Sp):Prop where
 ex:∃f fd,mg x=Gc (.ref f)/\lL K (.ref f)=true/\Binds K fd ps []/\MU P w K mg base (CXr P w) k f fd ps sp
section
variable{P:js}{w:j6}{K:W1}{mg:Str->jO jN}{base:j0}
theorem Y8{x:Str}{st:kE}{f:jR}{fd:lE}{N ps:Wp Str}{k np:Nat}{r:Rx}(Fu:Fun K x x st f fd)(S:AQ N ps (AI st))(hp:ps.length=np)(hb:∀(cdv:jN) (A:kK) (outer:Wp oO) (s:jQ) (H:Hp) (E:XK),JX k (A.deeper (lr x (AI st) s.heap.objs.size f cdv))->RSs (QC CX0 P w K mg base N x (AI st) f cdv A outer s H E).nox (DL st) r):MU P w K mg base (CXr P w) (k+1) f fd ps (spR K mg np (Av (Rj N.length r))):=by
 rw[OL]
 obtain⟨oc,od,kV,doc,pm,an,cdv,ct,osl,rfl,lk,hcd⟩:=Fu.ex
 refine aR lk hcd S (λvs H Q E h=>?_) λA outer s H vs Q E hr h=>?_
 .obtain⟨M,ds,S0,d,S',hl,_,r,_⟩:=h
  have:=r.length
  omega
 .obtain⟨M,ds,S0,y,S',hl,e,rr,st,q⟩:=h
  have hlen:=rr.length
  refine⟨λ_ σ H=>tR K mg r σ H λC od _ H'=>E (.ref C) od H',λpins s1 σ1 H1 D I h=>?_,?_⟩
  .exact lK ((hb cdv A outer s H E hr).pe pins s1 σ1 H1 _ (I.Ul _) h) (λ_ _ z=>z.elim) λev s' z=>VD z λ_ _ _ _ z=>z
  .obtain⟨⟨y',E',S1⟩,e1,e⟩:=LM e
   cases e
   refine⟨M,_,S0,y',E',S1,e1,?_,st,λC od σ' H' M' hm g _ st'=>q C od H' M' hm g st'⟩
   rw[show L2.start N vs=vs.map Gc++jg (N.length-ds.length) none from by unfold L2.start;rw[hlen]]
   exact .args rr _
theorem P8{x:Str}{st:kE}{N ps:Wp Str}{k np:Nat}{r:Rx}(S:St.Src K mg x st)(sc:AQ N ps (AI st))(hp:ps.length=np)(hbi:∀f fd,Fun K x x st f fd->Binds K fd ps [])(hb:∀(f:jR) (cdv:jN) (A:kK) (outer:Wp oO) (s:jQ) (H:Hp) (E:XK),JX k (A.deeper (lr x (AI st) s.heap.objs.size f cdv))->RSs (QC CX0 P w K mg base N x (AI st) f cdv A outer s H E).nox (DL st) r):ZA P w K mg base x (k+1) ps (spR K mg np (Av (Rj N.length r))):=by
 obtain⟨f,fd,Fu,hm⟩:=S.ex
 exact⟨f,fd,hm,Fu.kp,hbi f fd Fu,Y8 Fu sc hp λcdv A outer s H E hr=>hb f cdv A outer s H E hr⟩
end
theorem Hs{X:Cx}{α:Type}{M:sA}{A:kK}{t:Sem α}{Q Q':α->jQ->Prop}{E:jN->jQ->Prop}{s:jQ}(hn:X.xe=λ_ _=>lW)(h:wpAny M A t Q X.xe s)(hQ:∀a s,Q a s->Q' a s):wpAny M A t Q' E s:=
 lK h hQ λ_ _ z=>by rw[hn]at z;exact z.elim
noncomputable def O1(R:Rf)(fs:Wp Ev):Rx:=λE S=>(evs fs E S).bind λq=>(R q.1 q.2).map λz=>(z.1,E,z.2)
theorem Pr{X:Cx}{k np:Nat}{x:Str}{ps:Wp Str}{R:Rf}{e:j4}{es:Wp j4}{fs:Wp Ev}{p pos:Pos}(d:ZA X.prog X.w X.K X.mg X.base x k ps (spR X.K X.mg np R))(hr:JX k X.A)(hg:Gl X x)(ha:DEs X (e::es) fs)(hn:fs.length=np:=by rfl)(hxe:X.xe=λ_ _=>lW:=by rfl)(hx:X.ex=[]:=by rfl)(hdb:(x==("__debug__":Str))=false:=by decide)(he:ju (e::es) X.env=(false,eval e X.env)::ju es X.env:=by rfl)(hpl:(backTo pos (ju es X.env)).any (·.1)=false:=by rfl):RE X (.Call (.Name x p) (e::es) [] pos) (O1 R fs):=⟨by
 intro pins s σ H Z I h
 obtain⟨f,fd,hm,hk,hb,F⟩:=d.ex
 obtain⟨M,E,S,y,E',S',e0,r,st,q⟩:=h
 obtain⟨⟨ds,S1⟩,e1,e2⟩:=BG e0
 obtain⟨⟨y',S2⟩,e3,e4⟩:=LM e2
 cases e4
 refine oH (KR I hg hm ?_ hdb)
 have ha':=ha.pe pos pins s σ H (λvs H1=>∃M1,Gr M H M1 H1/\StR X.K M1 S1 H1/\Al X.K M1 H1 vs ds) I (HW e1 r st λvs H1 M1 g1 st1 r1=>⟨M1,g1,st1,r1⟩)
 refine sO (h₀:=X.base) I.ok.mod.kin hk (Hs hxe ha' λus s1 ⟨vs,H1,I1,rv,M1,g1,st1,r1⟩=>⟨I1.kIn,?_⟩) he hpl
 have sp:spR X.K X.mg np R vs H1 (λ_ _=>lW) (λv od H'=>∃C,v=.ref C/\Z C od σ H'):=
  ⟨M1,ds,S1,y',S2,by rw[L9 e1];exact hn,e3,r1,st1,λC od H' M' hc g2 st2=>⟨C,rfl,q C od σ H' M' hc (g1.trans g2) ((r.step g1.st).step g2.st) st2⟩⟩
 have hl:(us++[]).length=ps.length:=by rw[mP,<-rv.length];exact F.len _ _ _ _ sp
 have hbs:=hb s1 us I1.kIn hl
 rw[mP]at hbs
 refine pq (pV (F.run X.A X.stack s1 H1 ⟨us,[]⟩ us vs _ _ hr I1.cY hbs rv sp) λrs s' hq=>?_)
 cases rs with
 |error ev=>
  obtain⟨e,C,od,H',rfl,os,bare,un,hok,fly,C',hC,z⟩:=hq
  cases hC
  exact⟨e,C,od,σ,H',rfl,I1.aB os un hok bare (λb z=>nomatch z),z,fly.imp λb z=>IH I1 hx b z⟩
 |ok fl=>
  cases fl with
  |ret u=>
   obtain⟨v,H',_,_,_,_,_,q⟩:=hq
   exact q.elim
  |next=>exact k8 hq
  |brk=>exact k8 hq
  |cont=>exact k8 hq⟩
section
variable{X:Cx}{st:kE}{rest a b:Wp kE}{f g:Ex}{r r1 r2:Rx}{c e:j4}{k:Ev}{pos:Pos}
theorem P4(h:RE X e r)(hs:swapsWith e none pos.line X.env=pure false:=by rfl):RS X (.Expr e pos) r:=⟨λpins s σ H Z I q=>ub (lK (h.pe pins s σ H Z I q) (λ_ _ z=>z) λ_ _ z=>z) I.quiet hs⟩
noncomputable def rNo:Rx:=λ_ _=>none
theorem cS:RS X st rNo:=⟨λ_ _ _ _ _ _ z=>by
 obtain⟨M,E,S,x,E',S',e,_⟩:=z
 cases e⟩
theorem UY:RSs X rest rNo:=⟨λ_ _ _ _ _ _ z=>by
 obtain⟨M,E,S,x,E',S',e,_⟩:=z
 cases e⟩
noncomputable def YD(r:Rx)(f:Ex)(r2:Rx):Rx:=λE S=>match r E S with
 |some z=>Gc z
 |none=>(f E S).bind λq=>match q.1 with
  | .nx=>r2 q.2.1 q.2.2
  | .ret _=>none
theorem Nb(h1:RS X st r)(hb:DS X st f)(h2:RSs X rest r2)(hxe:X.xe=λ_ _=>lW:=by rfl):RSs X (st::rest) (YD r f r2):=⟨λpins s σ H Z I z=>by
 obtain⟨M,E,S,x,E',S',e,rr,ss,q⟩:=z
 unfold YD at e
 split at e
 .rename_i z' e1
  cases e
  refine nY (lK (h1.pe pins s σ H Z I ⟨M,E,S,x,E',S',e1,rr,ss,q⟩) (λ_ _ z=>z.elim) λ_ _ z=>z)
 .obtain⟨⟨fl,E1,S1⟩,e1,e⟩:=BG e
  dsimp only at e
  split at e
  .refine nY (Hs hxe (hb.pe pins s σ H {nx:=λσ' H'=>tR X.K X.mg r2 σ' H' Z,rt:=λ_ _=>lW} I ⟨M,E,S,.nx,E1,S1,e1,rr,ss,λσ' H' M' g' r' st'=>⟨M',E1,S1,x,E',S',e,r',st',λC od σ2 H2 M2 hm g2=>q C od σ2 H2 M2 hm (g'.trans g2)⟩⟩) λfl s1 w=>?_)
   cases fl with
   |next=>
    obtain⟨σ',H',I',q'⟩:=w
    exact h2.pe pins s1 σ' H' Z I' q'
   |ret v=>obtain⟨_,_,_,_,_,q'⟩:=w;exact q'.elim
   |brk=>obtain⟨_,_,_,q'⟩:=w;exact q'.elim
   |cont=>obtain⟨_,_,_,q'⟩:=w;exact q'.elim
  .cases e⟩
theorem ME(h1:RS X st r):RSs X [st] r:=⟨λpins s σ H Z I z=>nY (lK (h1.pe pins s σ H Z I z) (λ_ _ z=>z.elim) λ_ _ z=>z)⟩
noncomputable def rIf(k:Ev)(r1 r2:Rx):Rx:=λE S=>(k E S).bind λq=>match q.1 with
 | .bl true=>r1 E q.2
 | .bl false=>r2 E q.2
 |_=>none
theorem aQ(hc:DT X c k)(ha:RSs X a r1)(hb:RSs X b r2)(hxe:X.xe=λ_ _=>lW:=by rfl):RS X (.If c a b pos) (rIf k r1 r2):=⟨λpins s σ H Z I z=>by
 obtain⟨M,E,S,x,E',S',e,rr,ss,q⟩:=z
 obtain⟨⟨w1,S1⟩,e1,e⟩:=BG e
 dsimp only at e
 split at e
 .refine xK (Hs hxe (hc.pe pins s σ H (λd H1=>d=true/\tR X.K X.mg r1 σ H1 Z) I ⟨M,E,S,_,S1,e1,rr,ss,λH1 M1 g1 st1=>⟨rfl,M1,E,S1,x,E',S',e,rr.step g1.st,st1,λC od σ2 H2 M2 hm g2=>q C od σ2 H2 M2 hm (g1.trans g2)⟩⟩) λd s1 w=>?_)
  obtain⟨H1,I1,rfl,q1⟩:=w
  exact ha.pe pins s1 σ H1 Z I1 q1
 .refine xK (Hs hxe (hc.pe pins s σ H (λd H1=>d=false/\tR X.K X.mg r2 σ H1 Z) I ⟨M,E,S,_,S1,e1,rr,ss,λH1 M1 g1 st1=>⟨rfl,M1,E,S1,x,E',S',e,rr.step g1.st,st1,λC od σ2 H2 M2 hm g2=>q C od σ2 H2 M2 hm (g1.trans g2)⟩⟩) λd s1 w=>?_)
  obtain⟨H1,I1,rfl,q1⟩:=w
  exact hb.pe pins s1 σ H1 Z I1 q1
 .cases e⟩
end
abbrev VEm:Wp jN:=[.type "ValueError",.type "Exception",.type "BaseException",.type "object"]
structure XcD(K:W1)(mg:Str->jO jN)(x:Str):Prop where
 ex:∃C,mg x=Gc (.ref C)/\oA K C VEm "ValueError.__new__"=true
theorem dG{K:W1}{h:j0}{mg:Str->jO jN}{x:Str}{C:jR}(X:K.In h)(G:h.Ns mainGlobals mg)(e:kf K mainGlobals x=Gc (Gc (.ref C)))(q:oA K C VEm "ValueError.__new__"=true):XcD K mg x:=⟨C,nJ X G e,q⟩
theorem X4{K:W1}{h:j0}{C:jR}{bmB:Wp jN}{newId:lx}(X:K.In h)(q:oA K C bmB newId=true):∃bm N nm q bs hdct sn sub ab col dd k0 k1 k2 k3 k5 mN,h.get? C=Gc (excClassObj nm q C N bs bm hdct sn sub ab col dd k0 k1 k2 k3 k5 newId)/\h.Ns N mN/\mN "__init__"=none/\wO h bmB bm:=by
 unfold oA at q
 split at q
 case h_2=>cases q
 rename_i dd cd sl ho
 split at q
 case h_2=>cases q
 rename_i C' bm k0 k1 k2 k3 n k5 hm hs
 simp only[jW,nB,mV]at q
 obtain⟨⟨⟨⟨⟨rfl,rfl⟩,hdel⟩,ht⟩,hok⟩,hni⟩:=q
 have hsl:sl= #[k0,k1,k2,k3,Gc (.builtin n),k5]:=Array.toList_inj.mp hs
 obtain⟨nm,bs,mro,ns,qn,hd,sn,sub,ab,col,del⟩:=cd
 dsimp only at hm hdel hok hni
 subst hm hdel hsl
 exact⟨bm,ns,nm,qn,bs,hd,sn,sub,ab,col,dd,k0,k1,k2,k3,k5,_,X _ _ ho,.of_isNs (qF X hok),PySem.W.nsMap_none_of_in X hok hni,qG X ht⟩
noncomputable def WX(x:Str)(fs:Wp Ev):Rx:=λE S=>(evs fs E S).map λq=>(⟨x,none⟩,E,q.2)
theorem VP{X:Cx}{x:Str}{e:j4}{es:Wp j4}{fs:Wp Ev}{np cpos pos:Pos}(hc:X.calm=true)(xc:XcD X.K X.mg x)(hg:Gl X x)(ha:DEs X (e::es) fs)(hl:fs.length<=sizeLine:=by decide)(hxe:X.xe=λ_ _=>lW:=by rfl)(hx:X.ex=[]:=by rfl)(hdb:(x==("__debug__":Str))=false:=by decide)(he:ju (e::es) X.env=(false,eval e X.env)::ju es X.env:=by rfl)(hpl:(backTo cpos (ju es X.env)).any (·.1)=false:=by rfl):RS X (.Raise (Gc (.Call (.Name x np) (e::es) [] cpos)) none pos) (WX x fs):=⟨by
 intro pins s σ H Z I h
 obtain⟨C,hm,hex⟩:=xc.ex
 obtain⟨M,E,S,y,E',S',e0,r,st,q⟩:=h
 obtain⟨⟨ds,S1⟩,e1,e2⟩:=LM e0
 cases e2
 obtain⟨tl,N,nm,qn,bs,hdct,sn,sub,ab,col,dd,k0,k1,k2,k3,k5,mN,hC,hN,hni,T⟩:=X4 I.ok.mod.kin hex
 refine wpAny_Raise_call_subT (C:=C) (nm:=nm) (q:=qn) (N:=N) (bs:=bs) (bm:=tl) (hdct:=hdct) (sn:=sn) (sub:=sub) (ab:=ab) (col:=col) (dd:=dd) (k0:=k0) (k1:=k1) (k2:=k2) (k3:=k3) (k5:=k5)
  mv (mN:=mN) (T.hasType mv.hasBase) (I.ok.hd hc) (by rw[he];show(false||(backTo cpos (ju es X.env)).any (·.1))=false;rw[hpl];rfl) hni (KR I hg hm ⟨rfl,?_⟩ hdb)
 have ha':=ha.pe cpos pins s σ H (λvs H1=>∃M1,Gr M H M1 H1/\StR X.K M1 S1 H1/\Al X.K M1 H1 vs ds) I (HW e1 r st λvs H1 M1 g1 st1 r1=>⟨M1,g1,st1,r1⟩)
 rw[he]at ha'⊢
 refine nU (Hs hxe ha' λus s1 ⟨vs,H1,I1,rv,M1,g1,st1,r1⟩=>?_)
 refine⟨rfl,by rw[<-rv.length,r1.length,L9 e1];exact hl,I1.bk _ _ hC,hN.keeps I1.bk,T.keeps I1.bk,λh' ea hmd=>?_⟩
 obtain⟨t,w1,w2,w3⟩:=hmd.there
 refine⟨ea,C,none,σ,H1,rfl,I1.kept (t':=s1.toks) hmd.keeps,q C none σ H1 M1 ⟨hm,λ_ z=>nomatch z⟩ g1 (r.step g1.st) st1,?_,λz=>IH I1 hx _ z hmd.new,_,_,.ref t,.none,w1,rfl,rfl,rfl,rfl,.inl rfl,λ_ z=>nomatch z⟩
 cases o:H1 ea with
 |none=>rfl
 |some ho=>
  obtain⟨ob,z⟩:=Ds.there (I1.hok ea ho o)
  rw[hmd.new]at z;cases z⟩
abbrev Cx.mrk(X:Cx)(e:jR):Cx:={X with A:=X.A.mark (Gc (.ref e)),calm:=false}
section
variable{X:Cx}{pins:Wp (jR×Obj)}{σ:St}{H:Hp}{s:jQ}{e:jR}
theorem ZF(ok:X.Ok):(Cx.mrk X e).Ok:=⟨ok.mod,ok.kind,ok.glob,ok.blt,ok.above,ok.inj,ok.has,ok.cab,(λz=>nomatch z),ok.frames,ok.stk,ok.exf,ok.bs,ok.bsz,ok.Wc,ok.YQ,ok.Qr,ok.frf⟩
theorem Wq(I:Inv X pins σ H s):Inv (Cx.mrk X e) pins σ H s:=⟨ZF I.ok,I.os,I.bare,I.base,I.loc,I.cell,I.free,I.IZ,I.pin,I.hok,I.len⟩
theorem SX(ok:X.Ok)(I:Inv (Cx.mrk X e) pins σ H s):Inv X pins σ H s:=⟨ok,I.os,I.bare,I.base,I.loc,I.cell,I.free,I.IZ,I.pin,I.hok,I.len⟩
end
structure HS(X:Cx)(hs:Wp qY)(g:Tg->Ex):Prop where
 pe:∀(x:Tg) (C:jR) (od:jO jR) (pins:Wp (jR×Obj)) (s:jQ) (σ:St) (H:Hp) (D:Ends) (e:jR),cI X.mg x C od H->Inv X pins σ H s->aS (XW X pins) H s.heap e C od->tX X.K (g x) D σ H->
  wpAny (model X.prog X.w) X.A (handleBy (.ref e) X.env hs) (SP X pins D) (λ_ _=>lW) s
noncomputable def gNo:Tg->Ex:=λ_ _ _=>none
theorem Yw{X:Cx}:HS X [] gNo:=⟨λ_ _ _ _ _ _ _ _ _ _ _ _ z=>by
 obtain⟨M,E,S,fl,E',S',e,_⟩:=z
 cases e⟩
structure XmD(K:W1)(mg:Str->jO jN)(xs:Wp Str)(y:Str):Prop where
 ex:∃C',mg y=Gc (.ref C')/\∀x∈xs,∀C,mg x=Gc (.ref C)->nX K (.ref C) (.ref C')=Gc (x==y)
noncomputable def Wi(f:Ex)(r:Rx)(g:Tg->Ex):Ex:=λE S=>match f E S with
 |some z=>Gc z
 |none=>(r E S).bind λq=>g q.1 q.2.1 q.2.2
theorem ag{X:Cx}{body:Wp kE}{h₀:qY}{hs:Wp qY}{f:Ex}{r:Rx}{g:Tg->Ex}{pos:Pos}(hb:DSs X body f)(hr:RSs X body r)(hh:HS X (h₀::hs) g)(hxe:X.xe=λ_ _=>lW:=by rfl)(hx:X.ex=[]:=by rfl)(hst:X.stack=X.env::X.outer:=by rfl)(hfr:X.env.frame=Gc X.env.locals:=by rfl):DS X (.Try body (h₀::hs) [] [] pos) (Wi f r g):=⟨by
 intro pins s σ H D I z
 obtain⟨M,E,S,fl,E',S',e,rr,ss,q⟩:=z
 unfold Wi at e
 split at e
 .rename_i z' e1
  cases e
  refine uF (Hs hxe (hb.pe pins s σ H D I ⟨M,E,S,fl,E',S',e1,rr,ss,q⟩) λf s1 w=>?_)
  cases f with
  |next=>exact oF w
  |ret u=>exact w
  |brk=>exact w
  |cont=>exact w
 .obtain⟨⟨x,E1,S1⟩,e1,e⟩:=BG e
  dsimp only at e
  refine uF (lK (hr.pe pins s σ H (λC od σ' H'=>cI X.mg x C od H'/\tX X.K (g x) D σ' H') I ⟨M,E,S,x,E1,S1,e1,rr,ss,λC od σ' H' M' hm g' r' st'=>⟨hm,M',E1,S1,fl,E',S',e,r',st',q.later g'⟩⟩) (λ_ _ z=>z.elim) λev s1 w=>?_)
  obtain⟨ea,C,od,σ',H',rfl,I',⟨hm,z'⟩,fly⟩:=w
  refine Qq I' I'.ok.frames hst hfr fly (IH I' hx) λh' t=>?_
  have I2:=UM I' hst hfr hx t
  exact lK (hh.pe x C od pins _ σ' H' D ea hm I2 t.fly z') (λ_ _ z=>z) λ_ _ z=>z.elim⟩
section
variable{X:Cx}{pos:Pos}
end
theorem d8{K:W1}{h:j0}{mg:Str->jO jN}{xs:Wp Str}{y:Str}{C':jR}(X:K.In h)(G:h.Ns mainGlobals mg)(e:kf K mainGlobals y=Gc (Gc (.ref C')))(t:∀x∈xs,∃C,kf K mainGlobals x=Gc (Gc (.ref C))/\nX K (.ref C) (.ref C')=Gc (x==y)):XmD K mg xs y:=⟨C',nJ X G e,λx hx C hm=>by
 obtain⟨C2,e2,q⟩:=t x hx
 have:=hm.symm.trans (nJ X G e2)
 cases this
 exact q⟩
theorem all_nil{p:Str->Prop}:∀x∈([]:Wp Str),p x:=λ_ z=>nomatch z
theorem all_cons{p:Str->Prop}{x:Str}{xs:Wp Str}(h:p x)(t:∀x∈xs,p x):∀y∈x::xs,p y:=λy m=>by
 rcases jX.mp m with rfl|m
 .exact h
 .exact t y m
end Mi
end
noncomputable section
namespace Mi
open PySem PySem.Spec L2 PyProof.Rows
abbrev eIx(a b:Ev):Ev:=eOp (o2 wIx) [a,b]
abbrev eI(n:Int):Ev:=eC (.int n)
theorem scM{N P:Wp Str}{sc:mC}(a:sc.kind=.function:=by rfl)(b:sc.isCoroutine=false:=by rfl)(c:sc.isGenerator=false:=by rfl)(d:N.Nodup:=by decide+kernel)(e:N.take P.length=P:=by rfl)(f:∀x∈P,sc.names.lookup x=Gc .local\/sc.names.lookup x=Gc .cell:=by decide+kernel)(g:∀y∈sc.names,y.2≠.free:=by decide+kernel):AQ N P sc:=⟨a,b,c,d,e,f,g⟩
theorem csM{N:Wp Str}{osc:mC}{N':Wp Str}{ix:Wp (jO Nat)}{scope:mC}(a:scope.kind=.function:=by rfl)(b:∀y∈scope.names,y.2=.cell->scope.names.lookup y.1=Gc .cell:=by decide+kernel)(c:∀y∈scope.names,y.2=.local->scope.names.lookup y.1=Gc .local:=by decide+kernel)(d:∀y∈scope.names,y.2=.free->(osc.names.lookup y.1=Gc .cell\/osc.names.lookup y.1=Gc .free):=by decide+kernel)(e:Q9 N osc scope N' ix=true:=by decide+kernel):Aj N osc N' ix scope:=⟨a,b,c,d,e⟩
theorem UT{α:Type}{us:Wp α}(h:us.length=1):∃a,us=[a]:=by
 match us,h with
 | [a],_=>exact⟨a,rfl⟩
theorem bE{α:Type}{us:Wp α}(h:us.length=2):∃a b,us=[a,b]:=by
 match us,h with
 | [a,b],_=>exact⟨a,b,rfl⟩
theorem dD{α:Type}{us:Wp α}(h:us.length=3):∃a b c,us=[a,b,c]:=by
 match us,h with
 | [a,b,c],_=>exact⟨a,b,c,rfl⟩
theorem hV{us:Wp jN}{n:Nat}(h:us.length=n):∃f:Nat->jN,us=(lJ n).map f:=by
 refine⟨λi=>us.getD i .none,?_⟩
 subst h
 apply List.ext_getElem
 .simp
 .intro i h1 h2
  rw[List.getElem_map,List.getElem_range,jy,jS h1];rfl
def BnR(x:Str)(st:kE)(ps:Wp Str):Prop:=∀(kV doc pm:jN) (an:jO jR) (cdv ct:jN) (f:Nat->jN),bindArgs (mR x x (Iz st) (DL st) (AI st) .none kV doc pm an cdv ct) ⟨(lJ ps.length).map f,[]⟩=pure (ps.zip ((lJ ps.length).map f))
theorem bnR{K:W1}{x:Str}{st:kE}{ps:Wp Str}{f:jR}{fd:lE}(F:Fun K x x st f fd)(h:BnR x st ps):Binds K fd ps []:=F.binds λa b c d e g us hl=>by
 obtain⟨k,rfl⟩:=hV hl
 exact h a b c d e g k
section
variable{P:js}{w:j6}{K:W1}{mg:Str->jO jN}{base:j0}
theorem dfM{x:Str}{st:kE}{N ps:Wp Str}(k:Nat){np:Nat}{b:Ex}(S:St.Src K mg x st)(sc:AQ N ps (AI st))(hb:∀{f:jR} {cdv:jN} {A:kK} {outer:Wp oO} {s:jQ} {H:Hp} {E:XK},JX k (A.deeper (lr x (AI st) s.heap.objs.size f cdv))->(A.deeper (lr x (AI st) s.heap.objs.size f cdv)).units+100<cLine->DSs (QC CX0 P w K mg base N x (AI st) f cdv A outer s H E).nox (DL st) b)(hp:ps.length=np:=by rfl)(hbi:BnR x st ps:=by exact λ_ _ _ _ _ _ _=>rfl):St.Dfn P w K mg base x (k+1) ps (spD K np (Av (A6 N.length b))):=Zy S sc hp (λ_ _ F=>bnR F hbi) λ_ _ _ _ _ _ _ hr=>hb hr (MJ hr)
end
theorem deM{X:Cx}{k k' np:Nat}{x:Str}{ps:Wp Str}{f:Fn}{e:j4}{es:Wp j4}{fs:Wp Ev}{p pos:Pos}(d:St.Dfn X.prog X.w X.K X.mg X.base x k ps (spD X.K np f))(hr:JX k' X.A)(ha:DEs X (e::es) fs)(hk:k<=k':=by first|decide|omega)(hg:Gl X x:=by exact rfl)(hn:fs.length=np:=by rfl)(hdb:(x==("__debug__":Str))=false:=by decide)(he:ju (e::es) X.env=(false,eval e X.env)::ju es X.env:=by rfl)(hpl:(backTo pos (ju es X.env)).any (·.1)=false:=by rfl):DE X (.Call (.Name x p) (e::es) [] pos) (AM f fs):=Xn d (hr.mono hk) hg ha hn hdb he hpl
end Mi
end
noncomputable section
namespace Mi
open PySem PySem.Spec L2 PyProof.Rows
structure Lo(X:Cx)(pins:Wp (jR×Obj))(lo:jR):Prop where
 s0:X.s₀.heap.objs.size<=lo
 loc:X.env.locals<lo
 cel:∀x c,X.env.cells.lookup x=Gc c->c<lo
 pin:∀p∈X.pn++pins,p.1<lo
section
variable{X:Cx}{pins:Wp (jR×Obj)}{σ:Wp (jO V)}{H:Hp}{s:jQ}
theorem _root_.L2.Inv.lo(I:Inv X pins σ H s):Lo X pins s.heap.objs.size:=⟨I.sz,I.lt,λx c e=>by
 obtain⟨v,o,ho,_⟩:=I.cell x c e
 exact ji ho,λp hp=>ji (I.pin p hp).1⟩
theorem _root_.L2.Inv.adopt(I:Inv X pins σ H s){lo a:jR}{o:HO}(b:Lo X pins lo)(la:lo<=a)(hn:H a=none)(new:Ds X.prog X.w (upd H a o) s.heap a o):Inv X pins σ (upd H a o) s:=by
 have ne:∀b u,H b=Gc u->b≠a:=λb u e z=>by rw[z,hn]at e;cases e
 refine I.step (g':=s.gens) (d':=s.drawn) (t':=s.toks) (h':=s.heap) (ch:=[a]) (λb' hb=>?_) (λ_ _ _ _ _ e _=>e) (λb o _ _ _ e _=>⟨o.slots,e⟩) (λb o hc e n=>?_)
  (λb o _ e=>⟨o,e⟩) (λb xs e=>by rw[AZ (ne b _ e)];exact e) (λb o u e=>by rw[AZ (ne b _ e)];exact e) (λb ps e=>⟨#[],by rw[AZ (ne b _ e),e];simp⟩) (λ_ m=>m) (λb u e=>?_) I.bare
 .have e:b'=a:=by simpa using hb
  subst e
  exact⟨.inr (jY b.s0 la),oR (jV b.loc la),λx c e=>kA (jV (b.cel x c e) la),λp hp=>kA (jV (b.pin p hp) la)⟩
 .rw[AZ (λz=>hc (by simp[z]))];exact n
 .by_cases hb:b=a
  .subst hb;rw[BR]at e;cases e;exact new
  .rw[AZ hb]at e
   exact(I.hok b u e).Rn (λc v _ q=>q) (λc q=>by rw[AZ (ne c _ q)];exact q) λc xs q=>by rw[AZ (ne c _ q)];exact q
end
end Mi
end
noncomputable section
namespace Mi
open PySem PySem.Spec L2
section
variable{prog:js}{w:j6}{A:kK}{E:jN->jQ->Prop}{h:j0}{g:kP uZ}{d:Drawn}{t:Nat}{os:OsState}
variable{nm q:Str}{C N:jR}{bs bm bmB:Wp jN}{hdct:kG}{sn:Wp Str}{sub:Wp jN}{ab:kG}{col:jO kG}{dd:jO jR}{k0 k1 k2 k3 k5:jO jN}{B newId initId:lx}
structure WK(h h':j0)(e t:jR)(C:jR)(args:Wp jN):Prop where
 keeps:∀b o,h.get? b=Gc o->h'.get? b=Gc o
 new:h.get? e=none
 le:h.objs.size<=e
 obj:h'.get? e=Gc {cls:=.ref C,data:=.fields #[.ref t,.none,.none,.none,.bool false,.none]}
theorem RI(F:wQ B newId initId bmB)(T:wO h bmB bm){mN:Str->jO jN}{rest:Wp jN}{fI:jR}{oI:Obj}{Q:Fin->jQ->Prop}(hC:h.get? C=Gc (excClassObj nm q C N bs bm hdct sn sub ab col dd k0 k1 k2 k3 k5 newId))(hn:h.Ns N mN)(hi:mN "__init__"=Gc (.ref fI))(hfI:h.get? fI=Gc oI)(hfc:oI.cls=.type "function")(hq:∀h' e t',WK h h' e t' C rest->wpAny (model prog w) A (call (.ref fI) (.ref e::rest)) (λr s'=>r=.none/\Q (.done (.ret (.ref e))) s') E ⟨h',g,d,t,os⟩)(hrest:rest.length<=sizeLine):wpAny (model prog w) A (og.«type.__call__» ⟨.ref C::rest,[]⟩) Q E ⟨h,g,d,t,os⟩:=by
 repeat (first|with_reducible refine nQ hC ?_|with_reducible refine wpAny_madeBy_exc hC ?_|wp_step)
 refine codeAny_call_builtin_code (sW _ F.quiet) (wpAny_check_new_subT F T hC ?_)
 refine codeAny_exc_new_subT F T hC ?_ hrest
 show wpAny _ _ _ _ _ _
 generalize hH:(h.push {cls:=.type "tuple",data:=.seq rest.toArray}).push {cls:=.ref C,data:=.fields #[.ref h.objs.size,.none,.none,.none,.bool false,.none]}=h1
 have up:∀b o,h.get? b=Gc o->h1.get? b=Gc o:=λb o z=>by
  rw[<-hH];exact jP _ (jP _ z)
 have ob:h1.get? (h.objs.size+1)=Gc {cls:=.ref C,data:=.fields #[.ref h.objs.size,.none,.none,.none,.bool false,.none]}:=by
  rw[<-hH];heap_get
 have cC:(kD C::bm).contains (.ref C)=true:=by simp
 have c1:=up _ _ hC
 unfold isInstance
 repeat (first|with_reducible refine nQ ob ?_|(with_reducible refine rh c1 ?_;rw[cC])|wp_step)
 show wpAny _ _ (typeLookup (.ref C) _) _ _ _
 refine wpAny_typeLookup_tail c1 (hn.keeps up) (T.keeps up) F.mroIs F.init.lookup ?_
 rw[hi]
 refine kj (jM ?_)
 unfold bindSpecial
 refine jM (ql (T:="function") ⟨_,up _ _ hfI,hfc⟩ ?_)
 rw[kJ (by decide)]
 refine jZ (jM (lK (hq h1 (h.objs.size+1) h.objs.size ⟨up,rB (rK _),rK _,ob⟩) (λr s' hr=>?_) λ_ _ x=>x))
 obtain⟨rfl,hQ⟩:=hr
 wp_walk
 exact hQ
theorem Ts(F:wQ B newId initId bmB)(T:wO h bmB bm){mN:Str->jO jN}{rest:Wp jN}{fI:jR}{oI:Obj}{Q:jN->jQ->Prop}(hC:h.get? C=Gc (excClassObj nm q C N bs bm hdct sn sub ab col dd k0 k1 k2 k3 k5 newId))(hn:h.Ns N mN)(hi:mN "__init__"=Gc (.ref fI))(hfI:h.get? fI=Gc oI)(hfc:oI.cls=.type "function")(hq:∀h' e t',WK h h' e t' C rest->wpAny (model prog w) (A.under (.builtin "type.__call__" ⟨.ref C::rest,[]⟩)) (call (.ref fI) (.ref e::rest)) (λr s'=>r=.none/\Q (.ref e) s') E ⟨h',g,d,t,os⟩)(hrest:rest.length<=sizeLine):wpAny (model prog w) A (call (.ref C) rest) Q E ⟨h,g,d,t,os⟩:=by
 have f1:=tc_lookup
 have f2:=tc_bind (.ref C)
 have hT:(⟨h,g,d,t,os⟩:jQ).TypeIs (.ref C) "type":=⟨_,hC,rfl⟩
 refine pq (codeAny_of_tree ?_)
 show wpAny _ _ (callAny (.ref C) _) _ _ _
 repeat (any_goals (first|assumption|with_reducible refine nQ hC ?_|wp_step))
 refine⟨rfl,?_⟩
 refine codeAny_call_builtin_at (sW _ (by decide+kernel)) entry_typeCall (wpAny_check_type_call_sub hC (RI F T hC hn hi hfI hfc (λh' e t' hm=>?_) hrest))
 exact hq h' e t' hm
end
def QZ(e C:jR)(h:j0):Prop:=∃vs a0,h.get? e=Gc {cls:=.ref C,data:=.fields vs}/\vs.size=6/\vs[0]?=Gc (.ref a0)/\vs[1]?=Gc .none
def Um(e C dx:jR)(h:j0):Prop:=∃vs a0,h.get? e=Gc {cls:=.ref C,dict:=Gc dx,data:=.fields vs}/\vs.size=6/\vs[0]?=Gc (.ref a0)/\vs[1]?=Gc .none
theorem UH{P:js}{w:j6}{H:Hp}{h:j0}{e C:jR}(x:QZ e C h):Ds P w H h e (.ext (QZ e C)):=
 ⟨x,let⟨_,_,z,_⟩:=x;⟨_,z⟩,λ_ _ ⟨vs,a0,z,r⟩ k=>⟨vs,a0,k _ z,r⟩⟩
theorem X5{P:js}{w:j6}{H:Hp}{h:j0}{e C dx:jR}(x:Um e C dx h):Ds P w H h e (.ext (Um e C dx)):=
 ⟨x,let⟨_,_,z,_⟩:=x;⟨_,z⟩,λ_ _ ⟨vs,a0,z,r⟩ k=>⟨vs,a0,k _ z,r⟩⟩
theorem Zl{H:Hp}{a:jR}{o:HO}(e:H a=Gc o):upd H a o=H:=by
 funext b;unfold upd;split
 .rename_i z;rw[z,e]
 .rfl
theorem YL{X:Cx}{i k1 k2:Nat}{x a b:Str}{p1 p2 p3 p4 p5:Pos}(hN:X.N[i]?=Gc x)(hv:Vis X.env.scope x)(ha:a.length<=1000)(hb:b.length<=1000)(hd:(x==("__debug__":Str))=false:=by decide)(hcd:(x==("__classdict__":Str))=false:=by decide):PE X (.JoinedStr [.Constant (.str a) k1 p1,.FormattedValue (.Name x p2) (-1) none p3,.Constant (.str b) k2 p4] p5) (λσ H Q=>∃n:Int,σ[i]?=Gc (Gc (.int n))/\n.natAbs.log2<1920/\∀y,Q (.str y) H):=by
 intro pins s σ H Q I h
 obtain⟨n,e,hl,q⟩:=h
 have ln:(lD (toString n)).length<=1921:=by
  rw[ofString_length]
  exact int_text_length_le (by decide) hl
 refine uY (nR (thn (T5 pins s σ H (λv H1=>v=.str a/\H1=H) I ⟨rfl,rfl⟩) λu s1 z=>?_))
 obtain⟨v,H1,I1,r1,rfl,rfl⟩:=z
 obtain⟨t1,rfl⟩:=r1
 have l0:(vf++a).length=a.length:=by rw[oB];simp[vf,Str.length]
 refine⟨by rw[l0,nT];lia,nR (se (thn (NJ hN hv hd hcd pins s1 σ H1 (λv H2=>v=.int n/\H2=H1) I1 ⟨_,e,rfl,rfl⟩) λu s2 z=>?_))⟩
 obtain⟨v,H2,I2,r2,rfl,rfl⟩:=z
 obtain⟨t2,rfl⟩:=r2
 refine sX hl ?_
 refine⟨by rw[oB,l0,nT];lia,?_⟩
 refine nR (thn (T5 pins _ σ H2 (λv H3=>v=.str b/\H3=H2) ((I2.tok _).tok _) ⟨rfl,rfl⟩) λu s3 z=>?_)
 obtain⟨v,H3,I3,r3,rfl,rfl⟩:=z
 obtain⟨t3,rfl⟩:=r3
 refine⟨by rw[oB,oB,l0,nT];lia,?_⟩
 refine uv ⟨.str _,H3,I3.tok _,⟨_,rfl⟩,q _⟩ (by rw[oB,oB,l0,nT];lia)
section
variable{prog:js}{w:j6}{A:kK}{E:jN->jQ->Prop}{s:jQ}{K:W1}{x C TE:jR}{cd:ClassData}{name:Str}{v:jN}{vs:kP jN}
theorem XG{tk:Tok}{R:yg->jQ->Prop}(X:K.In s.heap)(hx:s.heap.get? x=Gc {cls:=.ref C,data:=.fields vs})(hc:nK K C=Gc cd)(ho:cd.mro=.ref C:: .ref TE::VEm)(hd:cd.hasDict=true)(hm:mY K C (.type "object")=Gc true)(ht:kI K (.ref C) name=Gc none)(h:∀(h':j0) (tk:Nat) (dx:jR),s.heap.objs.size<=dx->h'.get? x=Gc {cls:=.ref C,dict:=Gc dx,data:=.fields vs}->h'.Ns1 dx (λy=>if y=name then Gc v else none)->(∀b o,b≠x->s.heap.get? b=Gc o->h'.get? b=Gc o)->R (.ok (.ret .none)) {s with heap:=h',toks:=tk}):codeAny (model prog w) A (.call (.builtin "object.__setattr__") ⟨[.ref x,.str name tk,v],[]⟩) R s:=by
 have J:oU s.heap x {cls:=.ref C,data:=.fields vs} C none:=⟨hx,rfl,rfl,trivial⟩
 have SF:=PySem.F.store_object
 have sub:qZ (model prog w) s.heap (isInstance (.ref x) (.type "object")) true:=J.type.andThen (rm X hm)
 have mr:qZ (model prog w) s.heap (mroOf (.ref C)) cd.mro:=(rz X hc).andThen .now
 refine pM SF.slot.plain SF.entry (@sY (model prog w) _ _ _ "object.__setattr__" "object" "__setattr__" (.ref x) [.str name tk,v] [] _ SF.kind SF.split sub (SF.args (.ref x) (.str name tk) v) ?_)
 rw[PySem.W.osa_eq,refuse_eq]
 refine jM (jM (J.type.here (jM (mr.here ?_))))
 rw[ho,uw,uw,show refuseLoop (.ref x) "__setattr__" VEm=pure ()from PySem.F.store_ValueError.passes (.ref x)]
 refine jZ (jM (J.type.here (jM ((rL X ht).here (jM (jZ ?_))))))
 have xs:x≠s.heap.objs.size:=kA (ji hx)
 have hx1:(s.heap.push {cls:=.type "dict",data:=.dict #[]}).get? x=Gc {cls:=.ref C,data:=.fields vs}:=jP _ hx
 refine jM (jZ (jM (jM (wpAny_loadPart hx (jM ((rz X hc).here ?_))))))
 rw[hd]
 refine(show wpAny (model prog w) A.in1 (alloc {cls:=.type "dict",data:=.dict #[]} >>= _) _ _ s from jM (wpAny_alloc' ?_))
 refine jM (wpAny_update' hx1 (jZ ?_))
 have hf:=(Heap.get?_some_iff.mp hx).2
 generalize hG:(s.heap.push {cls:=.type "dict",data:=.dict #[]}).update x (λo=>{o with dict:=Gc s.heap.objs.size})=g1
 have gx:g1.get? x=Gc {cls:=.ref C,dict:=Gc s.heap.objs.size,data:=.fields vs}:=by
  rw[<-hG];exact kx _ hx1 rfl
 have gd:g1.get? s.heap.objs.size=Gc {cls:=.type "dict",data:=.dict #[]}:=by
  rw[<-hG];exact(r9 _ _ _ _ xs.symm).trans (Heap.get?_push_at rfl rfl)
 have gk:∀b o,b≠x->s.heap.get? b=Gc o->g1.get? b=Gc o:=λb o n z=>by
  rw[<-hG];exact(r9 _ _ _ _ n).trans (jP _ z)
 have nd:g1.Ns s.heap.objs.size (λ_=>none):=⟨_, #[],_,gd,rfl,λe he=>absurd he (by simp),λ_=>rfl⟩
 show wpAny _ _ (pF s.heap.objs.size (.str name tk) name v) _ _ _
 unfold pF uG
 refine jM (jZ (jM (wpAny_nsSet1 (zW nd) λh' hn' hs=>?_)))
 obtain⟨oD,esD,epD,hoD,hdD,hcD⟩:=hn'.count (Within.cons name v Within.nil)
 refine jM (wpAny_lookBehind hoD (by rw[hdD];exact pastItsLine_dict (jY hcD (by rw[mB,oG,nT];lia))) ?_)
 refine jZ (h h' _ s.heap.objs.size (ja _) ((hs.2 x xs).trans gx) hn' λb o n z=>(hs.2 b (kA (ji z))).trans (gk b o n z))
theorem Xq{Q:Unit->jQ->Prop}(X:K.In s.heap)(hx:s.heap.get? x=Gc {cls:=.ref C,data:=.fields vs})(hs:kI K (.ref C) "__setattr__"=Gc (Gc (.builtin "object.__setattr__")))(hc:nK K C=Gc cd)(ho:cd.mro=.ref C:: .ref TE::VEm)(hd:cd.hasDict=true)(hm:mY K C (.type "object")=Gc true)(ht:kI K (.ref C) name=Gc none)(h:∀(h':j0) (tk:Nat) (dx:jR),s.heap.objs.size<=dx->h'.get? x=Gc {cls:=.ref C,dict:=Gc dx,data:=.fields vs}->h'.Ns1 dx (λy=>if y=name then Gc v else none)->(∀b o,b≠x->s.heap.get? b=Gc o->h'.get? b=Gc o)->Q () {s with heap:=h',toks:=tk}):wpAny (model prog w) A (setAttr (.ref x) name v) Q E s:=
 PySem.W.set_plain X (⟨hx,rfl,rfl,trivial⟩:oU s.heap x {cls:=.ref C,data:=.fields vs} C none) hs (XG (s:={s with toks:=s.toks+1}) X hx hc ho hd hm ht λh' tk dx a b c d=>h h' tk dx a b c d)
end
section
variable{prog:js}{w:j6}{A:kK}{E:jN->jQ->Prop}{h:j0}{g:kP uZ}{d:Drawn}{t:Nat}{os:OsState}
variable{nm q:Str}{C N:jR}{bs bm:Wp jN}{hdct:kG}{sn:Wp Str}{sub:Wp jN}{ab:kG}{col:jO kG}{dd:jO jR}{k0 k1 k2 k3 k5:jO jN}
theorem Ti{e:jR}{u:jN}{vs:kP jN}{Q:jN->jQ->Prop}(T:wO h VEm bm)(hC:h.get? C=Gc (excClassObj nm q C N bs bm hdct sn sub ab col dd k0 k1 k2 k3 k5 "ValueError.__new__"))(he:h.get? e=Gc {cls:=.ref C,data:=.fields vs}){t0:jR}(hz:vs.size=6)(h0:vs[0]?=Gc (.ref t0))(hq:∀(h':j0) (tt:jR),(∀b o,b≠e->h.get? b=Gc o->h'.get? b=Gc o)->h'.get? e=Gc {cls:=.ref C,data:=.fields (vs.setIfInBounds 0 (.ref tt))}->Q .none ⟨h',g,d,t,os⟩):wpAny (model prog w) A (call (.builtin "ValueError.__init__") [.ref e,u]) Q E ⟨h,g,d,t,os⟩:=by
 have F:=mv
 refine pq (pM F.init.plain F.initEntry (wpAny_check_init_subT F T hC he rfl ?_))
 wp_walk
 have e1:(h.push {cls:=.type "tuple",data:=.seq #[u]}).get? e=Gc {cls:=.ref C,data:=.fields vs}:=jP _ he
 rw[h0]
 refine jZ (jM (mn e1 rfl (by rw[hz];decide) (rF (jZ ?_))))
 refine hq _ h.objs.size (λb o n z=>?_) ?_
 .rw[kX _ _ (kZ n)]
  exact jP _ z
 .exact kx _ e1 rfl
end
structure XiD(K:W1)(C TE fI:jR):Prop where
 cls:∃nm q N bs sn sub ab col dd k0 k1 k2 k3 k5,K.lookup C=Gc (excClassObj nm q C N bs (.ref TE::VEm) true sn sub ab col dd k0 k1 k2 k3 k5 "ValueError.__new__")/\rM K N=true/\kf K N "__init__"=Gc (Gc (.ref fI))
 tail:rO K VEm (.ref TE::VEm)=true
 sa:kI K (.ref C) "__setattr__"=Gc (Gc (.builtin "object.__setattr__"))
 ob:mY K C (.type "object")=Gc true
 at_:kI K (.ref C) "at"=Gc none
 sp:oV K (.ref TE) "__getattribute__"=Gc (Gc (.builtin "type.__getattribute__"))
 rd:uO K TE (.type "type")=true
 fc:uP K (.ref TE) (.type "type") "__init__"=Gc (.val (.builtin "ValueError.__init__"))
section
variable{X:Cx}{C TE fI:jR}{B:Str}{p1 p2 p3 p4 p5 p6 p7 p8 p9 p10:Pos}{k1 k2:Nat}{a b:Str}
theorem Vy (D : XiD X.K C TE fI) (hB : X.mg B = Gc (.ref TE)) (hg : Gl X B) (hN : X.N = ([("self" : Str), ("at" : Str)] : Wp Str)) (v0 : Vis X.env.scope "self") (v1 : Vis X.env.scope "at") (ha : a.length ≤ 1000) (hb : b.length ≤ 1000) (hdb : (B == ("__debug__" : Str)) = false) {pl : Sem kG} (ht : eval (.Call (.Attribute (.Name B p1) "__init__" p2) [.Name "self" p3, .JoinedStr [.Constant (.str a) k1 p4, .FormattedValue (.Name "at" p5) (-1) none p6, .Constant (.str b) k2 p7] p8] [] p9) X.env = (do
      let ov ← eval (.Name B p1) X.env
      standAt p2.atName
      let (f, first) ← holding [ov] (getMethod ov "__init__" pl)
      callWith p9 f first (backTo p9 (ju [.Name "self" p3, .JoinedStr [.Constant (.str a) k1 p4, .FormattedValue (.Name "at" p5) (-1) none p6, .Constant (.str b) k2 p7] p8] X.env)) (backToKw p9 (keywordEach [] X.env)))) :
    PE X (.Call (.Attribute (.Name B p1) "__init__" p2) [.Name "self" p3, .JoinedStr [.Constant (.str a) k1 p4, .FormattedValue (.Name "at" p5) (-1) none p6, .Constant (.str b) k2 p7] p8] [] p9)
      (fun σ H Q => ∃ (e : jR) (n : Int), σ[0]? = Gc (Gc (.ref e)) /\ σ[1]? = Gc (Gc (.int n)) /\ n.natAbs.log2 < 1920 /\ H e = Gc (.ext (QZ e C)) /\ Q .non H) := by
  intro pins s σ H Q I h
  obtain ⟨e, n, e0, e1, hn, he, q⟩ := h
  refine PySem.W.methodCall_KW (pl := pl) (KR I hg hB ?_ hdb) ht
  refine PySem.W.method_cls I.kIn D.sp (PySem.W.cls_value I.kIn D.rd D.fc (by decide +kernel) ?_)
  have I0 := I.tok (s.toks + 1)
  have A := KY (NJ (X := X) (i := 0) (x := "self") (pos := p3) (by rw [hN]; rfl) v0) (KY (YL (X := X) (i := 1) (x := "at") (a := a) (b := b) (k1 := k1) (k2 := k2) (p1 := p4) (p2 := p5) (p3 := p6) (p4 := p7) (p5 := p8) (by rw [hN]; rfl) v1 ha hb) QM)
  refine qp rfl (nU (thn (A p9 pins _ σ H (fun vs H1 => ∃ y, vs = [.ref e, .str y] /\ H1 = H) I0 ⟨_, e0, n, e1, hn, fun y => ⟨y, rfl, rfl⟩⟩) fun us s1 z => ?_))
  obtain ⟨vs, H1, I1, rv, y, rfl, rfl⟩ := z
  cases rv with
  | cons r0 rv =>
  cases rv with
  | cons r1 rv =>
  cases rv
  obtain rfl := r0
  obtain ⟨ws, t0, o1, o2, o3, o4⟩ := (I1.hok e _ he).1
  obtain ⟨nm, qn, N, bs, sn, sub, ab, col, dd, k0, kk1, kk2, k3, k5, lk, ok, _⟩ := D.cls
  obtain ⟨hp, g, d, tk, os⟩ := s1
  refine Ti (qG I1.kIn D.tail) (I1.kIn _ _ lk) o1 o2 o3 fun h' tt kp ob => ?_
  have w := I1.write (x := e) (e := e) (o := .ext (QZ e C)) (t' := tk) (by rw [he]; trivial) (.inl rfl) kp ⟨_, ob⟩ (UH ⟨_, tt, ob, by simp [o2], by simp [o2], by rw [oo (by decide)]; exact o4⟩)
  rw [Zl he] at w
  exact ⟨.non, H1, w, rfl, q⟩
theorem eZ(D:XiD X.K C TE fI)(hN:X.N=([("self":Str),("at":Str)]:Wp Str))(v0:Vis X.env.scope "self")(v1:Vis X.env.scope "at")(hs:swapsWith (.Name "at" p3) (Gc (.Attribute (.Name "self" p1) "at" p2)) p4.line X.env=pure false):PS X (.Assign [.Attribute (.Name "self" p1) "at" p2] (.Name "at" p3) p4) (λD σ H=>∃(e:jR) (n:Int),σ[0]?=Gc (Gc (.ref e))/\σ[1]?=Gc (Gc (.int n))/\H e=Gc (.ext (QZ e C))/\∀dx,H dx=none->dx≠e->D.nx σ (upd (upd H e (.ext (Um e C dx))) dx (.xd [("at",.int n)]))):=by
 intro pins s σ H DD I h
 obtain⟨e,n,e0,e1,he,q⟩:=h
 refine plainObj_wpAny_Assign_Attribute (thn (NJ (X:=X) (i:=1) (x:="at") (by rw[hN];rfl) v1 (by decide) (by decide) pins s σ H (λv H1=>v=.int n/\H1=H) I ⟨_,e1,rfl,rfl⟩) λu s1 z=>?_) hs
 obtain⟨v,H1,I1,ru,rfl,rfl⟩:=z
 refine thn (NJ (X:=X) (i:=0) (x:="self") (by rw[hN];rfl) v0 (by decide) (by decide) pins s1 σ H1 (λv H2=>v=.ref e/\H2=H1) I1 ⟨_,e0,rfl,rfl⟩) λov s2 z=>?_
 obtain⟨v,H2,I2,rv,rfl,rfl⟩:=z
 obtain rfl:ov=kD e:=rv
 obtain⟨ws,t0,o1,o2,o3,o4⟩:=(I2.hok e _ he).1
 obtain⟨nm,qn,N,bs,sn,sub,ab,col,dd,k0,kk1,kk2,k3,k5,lk,ok,_⟩:=D.cls
 have lo:=I2.lo
 refine Xq I2.kIn o1 D.sa (show nK X.K C=Gc _ from by unfold nK;rw[lk]) rfl rfl D.ob D.at_ λh' tk dx le ob ns kp=>?_
 have hn:=I2.hok.fresh le
 have ne:dx≠e:=λz=>by rw[z,he]at hn;cases hn
 have w:=I2.write (x:=e) (e:=e) (o:=.ext (Um e C dx)) (t':=tk) (by rw[he];trivial) (.inl rfl) kp ⟨_,ob⟩ (X5 ⟨_,t0,ob,o2,o3,o4⟩)
 have w2:=w.adopt lo le (o:=.xd [("at",.int n)]) (by rw[AZ ne];exact hn) ⟨_,ns,λf=>?_⟩
 .exact⟨σ,_,w2,q dx hn ne⟩
 .by_cases z:f="at"
  .subst z
   simp only[pH]
   rw[show nV ("at":Str) [(("at":Str),V.int n)]=Gc (.int n)from by simp[nV]]
   exact ru
  .simp only[z,pv]
   rw[show nV f [(("at":Str),V.int n)]=none from by
    have:(f==("at":Str))=false:=by simpa using z
    simp[nV,this]]
   trivial
end
abbrev sAt:Wp Str:=[("self":Str),("at":Str)]
noncomputable def t1I(C:jR):L2.TE:=λσ H Q=>∃(e:jR) (n:Int),σ[0]?=Gc (Gc (.ref e))/\σ[1]?=Gc (Gc (.int n))/\n.natAbs.log2<1920/\H e=Gc (.ext (QZ e C))/\Q .non H
noncomputable def t2I(C:jR):TS:=λD σ H=>∃(e:jR) (n:Int),σ[0]?=Gc (Gc (.ref e))/\σ[1]?=Gc (Gc (.int n))/\H e=Gc (.ext (QZ e C))/\∀dx,H dx=none->dx≠e->D.nx σ (upd (upd H e (.ext (Um e C dx))) dx (.xd [("at",.int n)]))
noncomputable def spI(C:jR):Sp:=λvs H Q _=>∃(e:jR) (n:Int),vs=[.ref e,.int n]/\n.natAbs.log2<1920/\H e=Gc (.ext (QZ e C))/\∀dx,H dx=none->dx≠e->Q .non (upd (upd H e (.ext (Um e C dx))) dx (.xd [("at",.int n)]))
structure XiF(P:js)(w:j6)(K:W1)(mg:Str->jO jN)(base:j0)(x:Str):Prop where
 ex:∃C TE fI fd,mg x=Gc (.ref C)/\XiD K C TE fI/\K.lookup fI≠none/\(∃oc od sl,K.lookup fI=Gc ⟨oc,od,.func fd,sl⟩/\oc=.type "function")/\Binds K fd sAt []/\MU P w K mg base CX0 1 fI fd sAt (spI C)
theorem XS{P:js}{w:j6}{K:W1}{mg:Str->jO jN}{base:j0}{C fI:jR}{fd:lE}{qual:Str}{st:kE}(Fu:Fun K "__init__" qual st fI fd)(S:AQ sAt sAt (AI st))(hb:∀(cdv:jN) (A:kK) (outer:Wp oO) (s:jQ) (H:Hp) (E:XK),PSs (QC CX0 P w K mg base sAt qual (AI st) fI cdv A outer s H E).nox (DL st) (eK (W3 (t1I C)) (t2I C))):MU P w K mg base CX0 1 fI fd sAt (spI C):=by
 refine Fun.ok Fu S (λvs H Q E h=>?_) λcdv A outer s H vs Q E hr h=>⟨_,hb cdv A outer s H E,?_⟩
 .obtain⟨e,n,rfl,_⟩:=h
  rfl
 .obtain⟨e,n,rfl,hn,he,q⟩:=h
  exact⟨e,n,rfl,rfl,hn,he,e,n,rfl,rfl,he,λdx h1 h2=>q dx h1 h2⟩
theorem XT{K:W1}{h:j0}{N:jR}{mN:Str->jO jN}{x:Str}{v:jN}(X:K.In h)(G:h.Ns N mN)(e:kf K N x=Gc (Gc v)):mN x=Gc v:=by
 obtain⟨o,es,ep,ho,hd,_,hf⟩:=G
 unfold kf at e
 split at e
 .rename_i q
  have z:=X _ _ q
  rw[ho]at z
  cases z
  cases hd
  split at e
  .rename_i he
   rw[<-hf]
   unfold nsFind findBy
   rw[<-sM,he]
   cases e
   rfl
  .split at e<;>cases e
 .cases e
section
variable{X:Cx}{pins:Wp (jR×Obj)}{σ:St}{H:Hp}{s:jQ}
noncomputable def drp(H:Hp)(e:jR):Hp:=λb=>if b=e then none else H b
theorem YG(I:Inv X pins σ H s){e:jR}{φ:j0->Prop}(he:H e=Gc (.ext φ)):Inv X pins σ (drp H e) s:=by
 have ne:∀b o,H b=Gc o->(∀φ,o≠.ext φ)->drp H e b=Gc o:=λb o q n=>by
  unfold drp
  rw[kC (λz=>by rw[z,he]at q;cases q;exact n _ rfl)]
  exact q
 have no:∀b,H b=none->drp H e b=none:=λb q=>by
  unfold drp
  split
  .rfl
  .exact q
 have B:=I.base
 refine⟨I.ok,I.os,I.bare,⟨B.keep,B.slot,λb o q n hx=>no b (B.free b o q n hx),B.there,λb xs q=>ne _ _ (B.R0 b xs q) (λ_ z=>nomatch z),λb o u q=>ne _ _ (B.RY b o u q) (λ_ z=>nomatch z),λb ps q=>?_⟩,I.loc,I.cell,no _ I.free,λx c q=>no _ (I.IZ x c q),λp m=>?_,λa o q=>?_,I.len⟩
 .obtain⟨more,z⟩:=B.Rz b ps q
  exact⟨more,ne _ _ z (λ_ z=>nomatch z)⟩
 .obtain⟨p1,p2,p3⟩:=I.pin p m
  exact⟨p1,no _ p2,p3⟩
 .have q':H a=Gc o:=by
   unfold drp at q
   split at q
   .cases q
   .exact q
  exact(I.hok a o q').Rn (λ_ _ _ z=>z) (λb z=>ne _ _ z (λ_ w=>nomatch w)) λb xs z=>ne _ _ z (λ_ w=>nomatch w)
theorem ZQ{e dx:jR}{o1 o2:HO}{o:HO}(he:H e=none)(ne:dx≠e):drp (upd (upd (upd H e o1) e o2) dx o) e=upd H dx o:=by
 funext b
 unfold drp upd
 by_cases z:b=e
 .subst z
  rw[kJ rfl,kC (kZ ne),he]
 .rw[kC z]
  by_cases w:b=dx
  .rw[kJ w,kJ w]
  .rw[kC w,kC w,kC z,kC z]
theorem Ux{C TE fI:jR}{fd:lE}{n:Int}{tn:Tok}{Q:jN->jQ->Prop}{E:jN->jQ->Prop}(D:XiD X.K C TE fI)(hf:∃oc od sl,X.K.lookup fI=Gc ⟨oc,od,.func fd,sl⟩/\oc=.type "function")(Bi:Binds X.K fd sAt [])(F:MU X.prog X.w X.K X.mg X.base CX0 1 fI fd sAt (spI C))(hr:JX 2 X.A)(hn:n.natAbs.log2<1920)(I:Inv X pins σ H s)(h:∀(e dx:jR) (s':jQ),s.heap.get? e=none->H e=none->H dx=none->dx≠e->Um e C dx s'.heap->Inv X pins σ (upd H dx (.xd [("at",.int n)])) s'->Q (.ref e) s'):wpAny (model X.prog X.w) X.A (call (.ref C) [.int n tn]) Q E s:=by
 obtain⟨nm,qn,N,bs,sn,sub,ab,col,dd,k0,k1,k2,k3,k5,lk,ok,hi⟩:=D.cls
 obtain⟨oc,od,sl,lf,rfl⟩:=hf
 have KI:=I.kIn
 obtain⟨hp,g,d,tk,os⟩:=s
 refine Ts mv (qG KI D.tail) (KI _ _ lk) (.of_isNs (qF KI ok)) (XT KI (.of_isNs (qF KI ok)) hi) (KI _ _ lf) rfl (λh1 e t' R=>?_) (by rw[nT];simp)
 have he:H e=none:=I.hok.fresh R.le
 have I1:Inv X pins σ (upd H e (.ext (QZ e C))) ⟨h1,g,d,tk,os⟩:=I.laid (t':=tk) (o:=.ext (QZ e C)) R.keeps R.le (UH ⟨_,t',R.obj,rfl,rfl,rfl⟩)
 have bi:=Bi ⟨h1,g,d,tk,os⟩ [.ref e,.int n tn] I1.kIn rfl
 rw[mP]at bi
 refine pq (pV (F.run (X.A.under (.builtin "type.__call__" ⟨[.ref C,.int n tn],[]⟩)) X.stack ⟨h1,g,d,tk,os⟩ (upd H e (.ext (QZ e C))) ⟨[.ref e,.int n tn],[]⟩ [.ref e,.int n tn] [.ref e,.int n] (λv H'=>v=.non/\∃dx,upd H e (.ext (QZ e C)) dx=none/\dx≠e/\H'=upd (upd (upd H e (.ext (QZ e C))) e (.ext (Um e C dx))) dx (.xd [("at",.int n)])) (λ_ _ _=>lW)
  (hr.make C _ _) (I1.cY.make C _ _) bi (.cons rfl (.cons ⟨tn,rfl⟩ .nil)) ⟨e,n,rfl,hn,BR,λdx h1 h2=>⟨rfl,dx,h1,h2,rfl⟩⟩) λr s' hq=>?_)
 cases r with
 |error ev=>exact k8 hq
 |ok fl=>
  cases fl with
  |ret u=>
   obtain⟨v,H',I2,rv,rfl,dx,hd,ne,rfl⟩:=I1.after hq
   cases rv
   have hx:H dx=none:=by rw[AZ ne]at hd;exact hd
   have e2:upd (upd (upd H e (.ext (QZ e C))) e (.ext (Um e C dx))) dx (.xd [("at",.int n)]) e=Gc (.ext (Um e C dx)):=by rw[AZ (kZ ne),BR]
   have eD:=(I2.hok e _ e2).1
   have I3:=YG I2 e2
   rw[ZQ he ne]at I3
   exact⟨rfl,h e dx s' R.new he hx ne eD I3⟩
  |next=>exact k8 hq
  |brk=>exact k8 hq
  |cont=>exact k8 hq
end
section
variable{M:sA}{A:kK}{E:jN->jQ->Prop}{env:oO}
variable{nm q:Str}{C N:jR}{bs bm:Wp jN}{hdct:kG}{sn:Wp Str}{sub:Wp jN}{ab:kG}{col:jO kG}{dd:jO jR}{k0 k1 k2 k3 k5:jO jN}{newId:lx}
theorem RF{s:jQ}{x:Sem jN}{Q:Flow->jQ->Prop}(hbase:bm.contains (.type "BaseException")=true)(hh:A.handled=none)(h:wpAny M A x (λv s1=>∃e od vs,v=.ref e/\s1.heap.get? C=Gc (excClassObj nm q C N bs bm hdct sn sub ab col dd k0 k1 k2 k3 k5 newId)/\s1.heap.get? e=Gc {cls:=.ref C,dict:=od,data:=.fields vs}/\vs[1]?=Gc .none/\E (.ref e) s1) E s):wpAny M A (raiseStmt env (Gc x) none) Q E s:=by
 have hcB:(kD C::bm).contains (.type "BaseException")=true:=by rw[mJ,hbase,Bool.or_true]
 unfold raiseStmt
 refine jM (lK h (λv s1 h1=>?_) λ_ _ z=>z)
 obtain⟨e,od,vs,rfl,hC,he,hv,hE⟩:=h1
 obtain⟨hp,g,d,tk,os⟩:=s1
 repeat (first|with_reducible refine nQ he ?_|with_reducible refine nQ hC ?_|(with_reducible refine rh hC ?_;rw[hcB])|wp_step)
 rw[hv]
 refine jZ ?_
 rw[kC (by decide)]
 exact jZ (wpAny_raiseNew_none hh hE)
end
noncomputable def bM(x:Str)(E:En)(q:D×Sto):jO (Tg×En×Sto):=match q.1 with
 | .int n=>if n.natAbs.log2<1920 then Gc (⟨x,Gc n⟩,E,q.2)else none
 |_=>none
noncomputable def Ph(x:Str)(f:Ev):Rx:=λE S=>(f E S).bind (bM x E)
theorem SU{X:Cx}{x:Str}{a:j4}{f:Ev}{np cpos pos:Pos}(hc:X.calm=true)(xi:XiF X.prog X.w X.K X.mg X.base x)(hg:Gl X x)(hr:JX 2 X.A)(ha:DE X a f)(hxe:X.xe=λ_ _=>lW:=by rfl)(hx:X.ex=[]:=by rfl)(hdb:(x==("__debug__":Str))=false:=by decide)(he:ju [a] X.env=[(false,eval a X.env)]:=by rfl):RS X (.Raise (Gc (.Call (.Name x np) [a] [] cpos)) none pos) (Ph x f):=⟨by
 intro pins s σ H Z I h
 obtain⟨C,TE,fI,fd,hm,D,_,hf,Bi,F⟩:=xi.ex
 obtain⟨M,E,S,y,E',S',e0,r,st,q⟩:=h
 obtain⟨⟨d,S1⟩,e1,e2⟩:=BG e0
 have hn:∃n:Int,d=.int n/\n.natAbs.log2<1920/\(y,E',S')=(⟨x,Gc n⟩,E,S1):=by
  unfold bM at e2
  split at e2
  .rename_i n hd
   split at e2
   .rename_i hl
    cases e2
    exact⟨n,hd,hl,rfl⟩
   .cases e2
  .cases e2
 obtain⟨n,rfl,hl,ee⟩:=hn
 cases ee
 obtain⟨nm,qn,N,bs,sn,sub,ab,col,dd,k0,k1,k2,k3,k5,lk,ok,hi⟩:=id D.cls
 rw[arm_exec_Raise]
 refine jM (l8 (RF (C:=C) (nm:=nm) (q:=qn) (N:=N) (bs:=bs) (bm:=.ref TE::VEm) (hdct:=true) (sn:=sn) (sub:=sub) (ab:=ab) (col:=col) (dd:=dd) (k0:=k0) (k1:=k1) (k2:=k2) (k3:=k3) (k5:=k5) (newId:="ValueError.__new__") (by rw[mJ];exact lu.mpr (.inr (by decide+kernel))) (I.ok.hd hc) (jM (lK (wpAny_Call_ofName (KR I hg hm ?_ hdb)) (λv s3 h3=>jM (l8 (jZ h3))) λ_ _ z=>z))))
 unfold callWith
 have KI:=I.kIn
 have aa:DEs X [a] [f]:=AA ha AE he
 have e1':evs [f] E S=Gc ([.int n],S'):=by
  show(f E S).bind (λr=>(evs [] E r.2).map λq=>(r.1::q.1,q.2))=_
  rw[e1];rfl
 have ha':=aa.pe cpos pins s σ H (λvs H1=>∃M1,Gr M H M1 H1/\StR X.K M1 S' H1/\Al X.K M1 H1 vs [.int n]) I (HW e1' r st λvs H1 M1 g1 st1 r1=>⟨M1,g1,st1,r1⟩)
 rw[he]at ha'⊢
 refine jM (kj (nU (Hs hxe ha' λus s1 ⟨vs,H1,I1,rv,M1,g1,st1,r1⟩=>jM (l8 ?_))))
 cases r1 with
 |cons r1 rn=>
 cases rn
 cases r1
 cases rv with
 |cons rv rw'=>
 cases rw'
 obtain⟨tn,rfl⟩:=rv
 have C1:=I1.kIn _ _ lk
 obtain⟨hp,g,d,tk,os⟩:=s1
 refine jM (wpAny_keeperOf_exc C1 ?_)
 refine jM (Ux (E:=_) D hf Bi F hr hl I1 λe dx s' en ef dn ne eD I2=>jM (kj (wpAny_point (jZ ?_))))
 obtain⟨ws,t0,o1,o2,o3,o4⟩:=eD
 refine⟨e,Gc dx,ws,rfl,I2.kIn _ _ lk,o1,o4,e,C,Gc dx,σ,_,rfl,I2,?_,?_,λz=>IH I1 hx _ z en,_,ws,_,.none,o1,rfl,rfl,o3,o4,.inl rfl,λ_ z=>z⟩
 .exact q C (Gc dx) σ _ M1 ⟨hm,λm z=>⟨dx,rfl,by cases z;exact BR⟩⟩ (g1.trans (Gr.grow st1.mo (Dy dn))) ((r.step g1.st).step (Gr.grow st1.mo (Dy dn)).st) (st1.grow (Dy dn))
 .rw[AZ (kZ ne)];exact ef⟩
section
variable{prog:js}{w:j6}{A:kK}{E:jN->jQ->Prop}{s:jQ}{K:W1}{x C:jR}{ox:Obj}{od:jO Obj}{name:Str}{expr:kG}{Q:jN->jQ->Prop}{v:jN}
theorem YR(X:K.In s.heap)(I:oU s.heap x ox C od)(hga:kI K (.ref C) "__getattribute__"=Gc (Gc (.builtin "BaseException.__getattribute__")))(hgg:kI K (.ref C) "__getattr__"=Gc none)(hb:mY K C (.type "BaseException")=Gc true)(hf:PySem.W.findObj K C od name=Gc (.value v))(hh:PySem.W.handedIn v=true)(h:Q v {s with toks:=s.toks+1}):wpAny (model prog w) A (getAttr (.ref x) name expr) Q E s:=by
 have L0:=I.type (M:=model prog w)
 have L1:=rL (M:=model prog w) X hga
 have L2:qZ (model prog w) s.heap (hookBefore (.ref C)) none:=PySem.W.looks_hook X (by rw[kJ (show onTheHeap (kD C)=true from rfl)];exact hgg)
 have L3:=PySem.W.looks_find (M:=model prog w) X I hf
 have nb:(sE "BaseException.__getattribute__" ==sE "object.__getattribute__")=false:=by decide+kernel
 have G:=PySem.F.attr_ValueError.ga
 refine jM (wpAny_mkText (kj (jM (L0 _ _ _ _ (λ_ _ e=>e) (jM (L1 _ _ _ _ (λ_ _ e=>e) ?_))))))
 dsimp only
 rw[nb,qB,kC (by decide)]
 refine jM (L2 _ _ _ _ (λ_ _ e=>e) (jM (sD (kj ?_))))
 unfold callGetattribute
 rw[show(expr && onTheHeap (sE "BaseException.__getattribute__"))=false from qB _,kC (by decide)]
 unfold boundAndCalled
 rw[G.bind]
 refine jM (jZ ?_)
 show wpAny _ _ (call (.builtin "BaseException.__getattribute__") [.ref x,.str name s.toks]) _ _ _
 refine pq (pM G.plain PySem.F.entry_bexc_ga ?_)
 refine @sY (model prog w) _ _ {s with toks:=s.toks+1} "BaseException.__getattribute__" "BaseException" "__getattribute__" (.ref x) [.str name s.toks] [] _ (by decide+kernel) (by decide+kernel) (L0.andThen (rm X hb)) (PySem.F.args_bexc_ga (.ref x) (.str name s.toks)) ?_
 unfold og.«object.__getattribute__»
 refine jM (jZ (jM (jZ (jM (L0 _ _ _ _ (λ_ _ e=>e) (jM (L3 _ _ _ _ (λ_ _ e=>e) ?_)))))))
 refine jZ ?_
 show wpAny _ _ (handedOut v) _ _ _
 rw[PySem.W.handedOut_of hh]
 exact jZ h
end
structure XaD(K:W1)(C:jR):Prop where
 cls:∃cd,nK K C=Gc cd/\cd.hasDict=true
 at_:kI K (.ref C) "at"=Gc none
 ga:kI K (.ref C) "__getattribute__"=Gc (Gc (.builtin "BaseException.__getattribute__"))
 gg:kI K (.ref C) "__getattr__"=Gc none
 bx:mY K C (.type "BaseException")=Gc true
section
variable{X:Cx}{pins:Wp (jR×Obj)}{σ:St}{H:Hp}{s:jQ}
theorem RH(I:Inv X pins σ H s){h':j0}{t':Nat}{m':Str->jO jN}(hn:h'.Ns X.env.locals m')(sb:oP X.env.locals s.heap h'):Inv X pins (σ.map λ_=>none) H {s with heap:=h',toks:=t'}:=by
 have kp:∀b o,b≠X.env.locals->s.heap.get? b=Gc o->h'.get? b=Gc o:=λb o n q=>(sb.2 b n).trans q
 have B:=I.base
 have nl:∀b o,X.s₀.heap.get? b=Gc o->b≠X.env.locals:=λb o q=>kA (jV (ji q) I.ok.above)
 have cl:∀c v,c≠X.env.locals->s.heap.IsCell c v->h'.IsCell c v:=λc v n ⟨o,q,d⟩=>⟨o,kp c o n q,d⟩
 refine⟨I.ok,I.os,I.bare,⟨λb o q n hb hx=>kp b o (nl b o q) (B.keep b o q n hb hx),λb o q n hb hx=>?_,B.free,λb o q hx=>?_,B.R0,B.RY,B.Rz⟩,⟨m',hn,λi x v _ e2 _=>?_⟩,λx c q=>?_,I.free,I.IZ,λp m=>?_,λa o q=>?_,by rw[kF];exact I.len⟩
 .obtain⟨sl,z⟩:=B.slot b o q n hb hx
  exact⟨sl,kp b _ (nl b o q) z⟩
 .obtain⟨o',z⟩:=B.there b o q hx
  exact⟨o',kp b _ (nl b o q) z⟩
 .rw[jq]at e2
  cases z:σ[i]? with
  |none=>rw[z]at e2;cases e2
  |some w=>rw[z]at e2;cases e2
 .obtain⟨v,z⟩:=I.cell x c q
  exact⟨v,cl c v (I.cne x c q) z⟩
 .obtain⟨p1,p2,p3,p4⟩:=I.pin p m
  exact⟨kp _ _ p3 p1,p2,p3,p4⟩
 .refine(I.hok a o q).Rn (λb u hb z=>kp b u (λw=>?_) z) (λ_ z=>z) λ_ _ z=>z
  have fr:=I.free
  rcases hb with rfl|hb
  .rw[w,fr]at q;cases q
  .rw[w,fr]at hb;cases hb
theorem SH(I:Inv X pins σ H s){a:jR}{o:HO}(hn:H a=none)(h0:X.s₀.heap.get? a=none)(hl:a≠X.env.locals)(hc:∀x c,X.env.cells.lookup x=Gc c->c≠a)(hp:∀p∈X.pn++pins,p.1≠a)(new:Ds X.prog X.w (upd H a o) s.heap a o):Inv X pins σ (upd H a o) s:=by
 have ne:∀b u,H b=Gc u->b≠a:=λb u e z=>by rw[z,hn]at e;cases e
 have B:=I.base
 have n0:∀b u,X.s₀.heap.get? b=Gc u->b≠a:=λb u e z=>by rw[z,h0]at e;cases e
 refine⟨I.ok,I.os,I.bare,⟨B.keep,B.slot,λb u q n hx=>?_,B.there,λb xs q=>?_,λb u w q=>?_,λb ps q=>?_⟩,I.loc,I.cell,?_,λx c q=>?_,λp m=>?_,λb u q=>?_,I.len⟩
 .rw[AZ (n0 b u q)];exact B.free b u q n hx
 .have z:=B.R0 b xs q
  rw[AZ (ne _ _ z)];exact z
 .have z:=B.RY b u w q
  rw[AZ (ne _ _ z)];exact z
 .obtain⟨more,z⟩:=B.Rz b ps q
  exact⟨more,by rw[AZ (ne _ _ z)];exact z⟩
 .rw[AZ (kZ hl)];exact I.free
 .rw[AZ (hc x c q)];exact I.IZ x c q
 .obtain⟨p1,p2,p3⟩:=I.pin p m
  exact⟨p1,by rw[AZ (hp p m)];exact p2,p3⟩
 .by_cases hb:b=a
  .subst hb;rw[BR]at q;cases q;exact new
  .rw[AZ hb]at q
   exact(I.hok b u q).Rn (λ_ _ _ z=>z) (λc z=>by rw[AZ (ne _ _ z)];exact z) λc xs z=>by rw[AZ (ne _ _ z)];exact z
def Yd(e C dx:jR)(h:j0):Prop:=∃oe vs,h.get? e=Gc oe/\oe.cls=.ref C/\oe.data=.fields vs/\oe.dict=Gc dx
theorem W2{P:js}{w:j6}{H:Hp}{h:j0}{e C dx:jR}(x:Yd e C dx h):Ds P w H h e (.ext (Yd e C dx)):=
 ⟨x,let⟨_,_,z,_⟩:=x;⟨_,z⟩,λ_ _ ⟨oe,vs,z,r⟩ k=>⟨oe,vs,k _ z,r⟩⟩
noncomputable def tAt(i:Nat)(C:jR):L2.TE:=λσ H Q=>∃(ea dx:jR) (n:Int),σ[i]?=Gc (Gc (.ref ea))/\H ea=Gc (.ext (Yd ea C dx))/\H dx=Gc (.xd [("at",.int n)])/\Q (.int n) H
theorem eO{i:Nat}{x:Str}{C:jR}{p1 p2:Pos}(D:XaD X.K C)(hN:X.N[i]?=Gc x)(hv:Vis X.env.scope x)(hd:(x==("__debug__":Str))=false:=by decide)(hcd:(x==("__classdict__":Str))=false:=by decide)(hb:attributeBase (.Name x p1) "at" X.env (eval (.Name x p1) X.env)=eval (.Name x p1) X.env:=by rfl):PE X (.Attribute (.Name x p1) "at" p2) (tAt i C):=by
 intro pins s σ H Q I h
 obtain⟨ea,dx,n,e0,h1,h2,q⟩:=h
 refine YX hb (thn (NJ hN hv hd hcd pins s σ H (λv H1=>v=.ref ea/\H1=H) I ⟨_,e0,rfl,rfl⟩) λu s1 z=>?_)
 obtain⟨v,H1,I1,rv,rfl,rfl⟩:=z
 obtain rfl:u=kD ea:=rv
 obtain⟨oe,vs,o1,o2,o3,o4⟩:=(I1.hok ea _ h1).1
 obtain⟨mA,ns,ra⟩:=I1.hok dx _ h2
 obtain⟨od,hod,hl⟩:=OV ns
 have rat:=ra "at"
 rw[show nV ("at":Str) [(("at":Str),V.int n)]=Gc (.int n)from by simp[nV]]at rat
 cases hm:mA "at" with
 |none=>rw[hm]at rat;exact rat.elim
 |some v=>
  rw[hm]at rat
  obtain⟨tk,rfl⟩:=rat
  obtain⟨cd,hc,hdct⟩:=D.cls
  have J:oU s1.heap ea oe C (Gc od):=⟨o1,o2,by unfold PySem.W.notCls;rw[o3],by rw[o4];exact hod⟩
  refine YR I1.kIn J D.ga D.gg D.bx (v:=.int n tk) ?_ rfl ⟨.int n,H1,I1.tok _,⟨_,rfl⟩,q⟩
  exact PySem.W.findObj_own (by unfold sj;rw[hc];simpa using hdct) D.at_ rfl (by rw[hl,hm])
end
noncomputable def gAs(xs:Wp Str)(y:Str)(f:Int->D)(g:Tg->Ex):Tg->Ex:=λx=>if x.nm∈xs then(if(x.nm==y)=true then(match x.pay with|some n=>Ba (eC (f n))|none=>Kf)else g x)else Kf
structure AtS(X:Cx)(i:Nat)(C:jR)(suite:Wp kE)(f:Int->D):Prop where
 pe:∃ts:TS,PSs X suite ts/\∀(ea dx:jR) (n:Int) (σ:St) (H:Hp) (D:Ends),σ[i]?=Gc (Gc (.ref ea))->H ea=Gc (.ext (Yd ea C dx))->H dx=Gc (.xd [("at",.int n)])->(∀v H',(∀M S,StR X.K M S H->Gr M H M H'/\StR X.K M S H'/\EA X.K M H' v (f n))->D.rt v H')->ts D σ H
theorem eB{X:Cx}{xs:Wp Str}{y nme:Str}{i:Nat}{b₀:kE}{suite:Wp kE}{f:Int->D}{g:Tg->Ex}{np pos:Pos}{rest:Wp qY}(xm:XmD X.K X.mg xs y)(xa:∀C,X.mg y=Gc (.ref C)->XaD X.K C)(hg:Gl X y)(nd:X.N.Nodup)(hN:X.N[i]?=Gc nme)(hl:X.env.kindOf nme=Gc .local)(hl2:X.env.scope.names.lookup nme=Gc .local)(hp:(X.env.scope.kind== .class||(X.env.scope.kind== .module && X.env.locals !=X.env.globals))=false)(hs:∀e C,XaD X.K C->AtS (Cx.mrk X e) i C (b₀::suite) f)(hr:HS X rest g)(hxe:X.xe=λ_ _=>lW:=by rfl)(hx:X.ex=[]:=by rfl)(hst:X.stack=X.env::X.outer:=by rfl)(hfr:X.env.frame=Gc X.env.locals:=by rfl)(hdb:(y==("__debug__":Str))=false:=by decide):HS X (.ExceptHandler (Gc (.Name y np)) (Gc nme) (b₀::suite) pos::rest) (gAs xs y f g):=⟨by
 intro x C od pins s σ H D e tg I fl z
 have hm:=tg.1
 obtain⟨C',hm',hex⟩:=xm.ex
 have hin:x.nm∈xs:=by
  by_cases h:x.nm∈xs
  .exact h
  .obtain⟨M,E,S,fl,E',S',e,_⟩:=z
   unfold gAs at e
   rw[kC h]at e
   cases e
 have z':tX X.K (if(x.nm==y)=true then(match x.pay with|some n=>Ba (eC (f n))|none=>Kf)else g x) D σ H:=by
  unfold gAs at z
  rw[kJ hin]at z
  exact z
 have ex:=hex x.nm hin C hm
 obtain⟨oe,vs,a0,T,oT,ts,h1,h2,_⟩:=id fl.ex
 have LT:qZ (model X.prog X.w) s.heap (typeOf (.ref e)) (.ref C):=by
  rw[<-h2];exact(PySem.W.Looks.ld h1).andThen .now
 refine wpAny_handleBy_cons (codeAny_handlers_test (nS I.ok.kind hg (qc (by rw[I.ok.glob];exact I.mod.glob.keeps I.bk) hm' ?_) hdb)) (by intro q;cases q)
 refine PySem.W.exm_one I.kIn LT ex _ _ _ _ (λ_ _ q=>q) ?_
 cases hb:(x.nm==y)with
 |false=>
  rw[kC (by rw[hb];decide)]at z'
  exact hr.pe x C od pins s σ H D e tg I fl z'
 |true=>
  rw[kJ hb]at z'
  have hy:X.mg y=Gc (.ref C):=by rw[<-eq_of_beq hb];exact hm
  obtain⟨M,E,S,fw,E',S',ee,rr,st,q⟩:=z'
  cases hpay:x.pay with
  |none=>rw[hpay]at ee;cases ee
  |some n=>
  rw[hpay]at ee
  obtain⟨dx,rfl,hdx⟩:=tg.2 n hpay
  refine codeAny_handlers_suite_as (T6 I fl λh' t=>?_)
  have I':=Wq (e:=e) (UM I hst hfr hx t)
  obtain⟨oe2,vs2,a2,T2,oT2,ts2,g1,g2,g3,_,_,_,g4⟩:=t.fly.ex
  refine Lh (X:=Cx.mrk X e) (v:=.ref e) I' nd hN (.inl hl2) rfl (λs2 I2 sb=>?_) (.inr hl2)
  obtain⟨a,sm,ha⟩:=sb
  have fr:H e=none:=fl.free
  have cf:∀c v,s.heap.IsCell c v->c≠e:=λc v ⟨o,q1,q2⟩ w=>by
   subst w
   rw[h1]at q1
   cases q1
   rcases(id fl.ex)with⟨_,ws,_,_,_,_,w1,_,w3,_⟩
   rw[h1]at w1
   cases w1
   rw[w3]at q2
   cases q2
  have nl:e≠X.env.locals:=λw=>by
   obtain⟨m,⟨o',es,ep,q1,q2,_⟩,_⟩:=I'.loc
   rw[<-w,g1]at q1
   cases q1
   rw[g3]at q2
   cases q2
  have ea:e≠a:=by
   rcases ha with ha|ha
   .rw[ha];exact nl
   .obtain⟨v,w⟩:=I.cell nme a ha
    exact kZ (cf a v w)
  have g1':s2.heap.get? e=Gc oe2:=(sm.2 e ea).trans g1
  have new:¬XW X pins e:=fl.new
  have s0:X.s₀.heap.get? e=none:=by
   cases w:X.s₀.heap.get? e with
   |none=>rfl
   |some o=>exact absurd (.inl (by rw[w];exact λz=>nomatch z)) new
  have J:=SH I2 (o:=.ext (Yd e C dx)) fr s0 nl (λx c w=>by
   obtain⟨v,w'⟩:=I.cell x c w
   exact cf c v w') (λp m w=>new (.inr ⟨p,m,w⟩)) (W2 ⟨oe2,vs2,g1',g2,g3,g4 dx rfl⟩)
  obtain⟨tt,hp1,hp2⟩:=(hs e C (xa C hy)).pe
  have hi:i<σ.length:=by rw[I.len];exact(jb.mp hN).1
  have nx:dx≠e:=λw=>by rw[w,fr]at hdx;cases hdx
  refine Hs (X:=Cx.mrk X e) hxe (hp1 pins s2 _ _ {nx:=λ_ _=>lW,rt:=D.rt} J (hp2 e dx n _ _ _ (jj hi) BR (by rw[AZ nx];exact hdx) λv H' hv=>?_)) λfl3 s3 w=>?_
  .have gr:=Gr.grow st.mo (Dy (o:=.ext (Yd e C dx)) fr)
   obtain⟨k1,k2,k3⟩:=hv M S (st.grow (Dy fr))
   cases ee
   exact q v H' M (gr.trans k1) k2 k3
  .cases fl3 with
   |ret u=>
    obtain⟨v,σ',H',J',rv,q'⟩:=w
    have J2:=SX I.ok J'
    obtain⟨m,hn,_⟩:=J2.loc
    refine wpAny_nameGoes hl hn hp λh4 m4 hn4 sb4=>?_
    exact⟨v,_,H',RH J2 hn4 sb4,rv,q'⟩
   |next=>obtain⟨_,_,_,q'⟩:=w;exact q'.elim
   |brk=>obtain⟨_,_,_,q'⟩:=w;exact q'.elim
   |cont=>obtain⟨_,_,_,q'⟩:=w;exact q'.elim⟩
theorem dq{X:Cx}{i:Nat}{x:Str}{C:jR}{p1 p2 p3:Pos}(D:XaD X.K C)(hN:X.N[i]?=Gc x)(hv:Vis X.env.scope x)(hd:(x==("__debug__":Str))=false:=by decide)(hcd:(x==("__classdict__":Str))=false:=by decide)(hb:attributeBase (.Name x p1) "at" X.env (eval (.Name x p1) X.env)=eval (.Name x p1) X.env:=by rfl):AtS X i C [.Return (Gc (.Attribute (.Name x p1) "at" p2)) p3] (λn=>.int n):=
 ⟨_,Pw (WY (eO D hN hv hd hcd hb)),λea dx n σ H Dn h1 h2 h3 h4=>⟨ea,dx,n,h1,h2,h3,h4 _ _ λM S st=>⟨.refl st.mo,st,.int n⟩⟩⟩
noncomputable def Z3(s:kE)(k:Nat):kE:=match s with
 | .ClassDef _ _ _ b _ _ _ _ _ _ _=>b.getD k (.Pass ⟨0,0,0,0⟩)
 |_=>.Pass ⟨0,0,0,0⟩
structure XiR(K:W1)(mg:Str->jO jN)(x B qual:Str)(st:kE):Prop where
 ex:∃C TE fI fd,mg x=Gc (.ref C)/\mg B=Gc (.ref TE)/\XiD K C TE fI/\Fun K "__init__" qual st fI fd/\∃oc od sl,K.lookup fI=Gc ⟨oc,od,.func fd,sl⟩/\oc=.type "function"
 xa:∀C,mg x=Gc (.ref C)->XaD K C
theorem ZO{P:js}{w:j6}{K:W1}{mg:Str->jO jN}{base:j0}{x B qual:Str}{st:kE}(r:XiR K mg x B qual st)(S:AQ sAt sAt (AI st))(bi:∀f fd,Fun K "__init__" qual st f fd->Binds K fd sAt [])(hb:∀(C TE fI:jR),XiD K C TE fI->mg B=Gc (.ref TE)->∀(cdv:jN) (A:kK) (outer:Wp oO) (s:jQ) (H:Hp) (E:XK),PSs (QC CX0 P w K mg base sAt qual (AI st) fI cdv A outer s H E).nox (DL st) (eK (W3 (t1I C)) (t2I C))):XiF P w K mg base x:=by
 obtain⟨C,TE,fI,fd,h1,h2,D,F,h3⟩:=r.ex
 exact⟨C,TE,fI,fd,h1,D,(by obtain⟨oc,od,sl,z,_⟩:=h3;rw[z];exact λw=>nomatch w),h3,bi fI fd F,XS F S (hb C TE fI D h2)⟩
theorem aC {K : W1} {h : j0} {mg : Str -> jO jN} {x B qual : Str} {st : kE} {C TE fI N : jR} {nm q : Str} {bs : Wp jN} {sn : Wp Str} {sub : Wp jN} {ab : kG} {col : jO kG} {dd : jO jR} {k0 k1 k2 k3 k5 : jO jN} {oc : jN} {od an : jO jR} {osl : kP (jO jN)} {kV doc pm cdv ct c1 : jN} {d1 : jO jR} {es : kP vg} {n1 : Nat} {s1 : kP (jO jN)} (X : K.In h) (G : h.Ns mainGlobals mg) (a1 : kf K mainGlobals x = Gc (Gc (.ref C))) (a2 : kf K mainGlobals B = Gc (Gc (.ref TE))) (a3 : K.lookup C = Gc (excClassObj nm q C N bs (.ref TE :: VEm) true sn sub ab col dd k0 k1 k2 k3 k5 "ValueError.__new__")) (b1 : K.lookup N = Gc ⟨c1, d1, .dict es n1, s1⟩) (b2 : (es.all fun e => match e.key with | .str _ _ => true | _ => false) = true) (a5 : kf K N "__init__" = Gc (Gc (.ref fI))) (a0 : oA K TE VEm "ValueError.__new__" = true) (a7 : kI K (.ref C) "__setattr__" = Gc (Gc (.builtin "object.__setattr__"))) (a8 : kI K (.ref C) "at" = Gc none) (a9 : oV K (.ref TE) "__getattribute__" = Gc (Gc (.builtin "type.__getattribute__"))) (a10 : uO K TE (.type "type") = true) (a11 : uP K (.ref TE) (.type "type") "__init__" = Gc (.val (.builtin "ValueError.__init__"))) (a12 : kI K (.ref C) "__getattribute__" = Gc (Gc (.builtin "BaseException.__getattribute__"))) (a13 : kI K (.ref C) "__getattr__" = Gc none) (l : K.lookup fI = Gc ⟨oc, od, .func (mR "__init__" qual (Iz st) (DL st) (AI st) .none kV doc pm an cdv ct), osl⟩) (lc : oc = .type "function") (c : oW K cdv qual = true) (k : lL K (.ref fI) = true) : XiR K mg x B qual st := by
  have cd : nK K C = Gc { name := nm, bases := bs, mro := .ref C :: .ref TE :: VEm, ns := N, qualname := q, hasDict := true, slotNames := sn, subclasses := sub, abstract := ab, collection := col, hasDel := false } := by unfold nK; rw [a3]
  have mr : ∀ {t : jN}, (kD C :: .ref TE :: VEm).contains t = true -> mY K C t = Gc true := fun {t} z => by
    unfold mY
    rw [cd]
    exact congrArg Gc z
  have mb : (kD C :: .ref TE :: VEm).contains (.type "object") = true := by rw [mJ, mJ]; exact lu.mpr (.inr (lu.mpr (.inr (by decide +kernel))))
  have mx : (kD C :: .ref TE :: VEm).contains (.type "BaseException") = true := by rw [mJ, mJ]; exact lu.mpr (.inr (lu.mpr (.inr (by decide +kernel))))
  have hm := nJ X G a1
  have a4 : rM K N = true := by unfold rM; rw [b1]; exact b2
  have a6 : rO K VEm (.ref TE :: VEm) = true := by
    unfold oA at a0
    split at a0
    case h_2 => cases a0
    rename_i dT cT sT ho
    split at a0
    case h_2 => cases a0
    simp only [jW, nB, mV] at a0
    obtain ⟨⟨⟨_, _⟩, hok⟩, hni⟩ := a0
    unfold rO
    rw [lu]
    refine .inr ?_
    dsimp only
    rw [ho]
    dsimp only
    rw [hok, hni]
    rfl
  exact ⟨⟨C, TE, fI, _, hm, nJ X G a2, ⟨⟨nm, q, N, bs, sn, sub, ab, col, dd, k0, k1, k2, k3, k5, a3, a4, a5⟩, a6, a7, mr mb, a8, a9, a10, a11⟩, ⟨⟨oc, od, kV, doc, pm, an, cdv, ct, osl, rfl, l, c⟩, k⟩, oc, od, osl, l, lc⟩,
    fun C' z => by
      rw [hm] at z
      cases z
      exact ⟨⟨_, cd, rfl⟩, a8, a12, a13, mr mx⟩⟩
noncomputable def ZJ(g:Ev)(E:En)(r:D×Sto):jO (D×Sto):=match r.1 with
 | .tup []=>g E r.2
 | .tup (d::ds)=>Gc (.tup (d::ds),r.2)
 |_=>none
noncomputable def bG(f g:Ev):Ev:=λE S=>(f E S).bind (ZJ g E)
theorem Yi{X:Cx}{a b:j4}{rest:Wp j4}{ta tb:L2.TE}{pos:Pos}(ha:PE X a ta)(hb:PE X (.BoolOp .Or (b::rest) pos) tb):PE X (.BoolOp .Or (a::b::rest) pos) (λσ H Q=>ta σ H λx H1=>∃p xs,x=.ref p/\SqT X.K H1 p xs/\if xs.isEmpty=true then tb σ H1 Q else Q (.ref p) H1):=by
 intro pins s σ H Q I h
 refine wR (thn (ha pins s σ H _ I h) λv s1 ⟨x,H1,I1,r1,q1⟩=>?_)
 obtain⟨p,xs,rfl,hq,q1⟩:=q1
 cases r1
 obtain⟨its,rv,tp,hz⟩:=I1.tuple hq
 have hl:=rv.length
 refine vK tp (by rw[jd,<-hl];rw[nT]at hz;lia) ?_
 cases xs with
 |nil=>
  cases its with
  |nil=>exact hb pins _ σ H1 Q (by first|exact I1|exact I1.tok _) q1
  |cons a b=>cases hl
 |cons y ys=>
  cases its with
  |nil=>cases hl
  |cons a b=>exact⟨.ref p,H1,by first|exact I1|exact I1.tok _,rfl,q1⟩
theorem aj{X:Cx}{a b:j4}{rest:Wp j4}{f g:Ev}{pos:Pos}(ha:DE X a f)(hb:DE X (.BoolOp .Or (b::rest) pos) g):DE X (.BoolOp .Or (a::b::rest) pos) (bG f g):=⟨B9 (Yi ha.pe hb.pe) λσ H Q z=>by
 obtain⟨M,E,S,d,S',e,r,st,q⟩:=z
 obtain⟨⟨d1,S1⟩,e1,e⟩:=BG e
 refine⟨M,E,S,d1,S1,e1,r,st,λv H1 M1 g1 st1 r1=>?_⟩
 unfold ZJ at e
 split at e
 .rename_i hd
  dsimp only at hd
  subst hd
  cases r1 with
  |tup hq rs=>
   cases rs
   exact⟨_,_,rfl,hq,M1,E,S1,d,S',e,r.step g1.st,st1,λv H2 M2 g2 st2 r2=>q _ _ M2 (g1.trans g2) st2 r2⟩
 .rename_i x xs hd
  dsimp only at hd
  subst hd
  cases e
  cases r1 with
  |tup hq rs=>
   cases rs with
   |cons h1 h2=>exact⟨_,_,rfl,hq,q _ _ M1 g1 st1 (.tup hq (.cons h1 h2))⟩
 .cases e⟩
section
open PyProof.Rows (boot_isinstance boot_int boot_bool boot_tuple boot_str boot_list boot_abs boot_all boot_any boot_sum boot_max boot_min boot_range boot_enumerate boot_zip boot_sorted boot_set boot_divmod)
noncomputable def Hw:D:=.tup [.int 0,.int 1]
noncomputable def UC:D:=.tup [.int 1,.int 1]
noncomputable def B2:D:=.tup [.str "bring",.str "pool",.str "swap",.str "trade"]
def IB:Ex:=(Ba (Jr (eOp (o2 aM) [eV 0,eC (.ty "int")]) (R1 (eOp (o2 aM) [eV 0,eC (.ty "bool")]))))
def GK:Fn:=Av (A6 1 IB)
def JT:Ex:=(Ba (Jr (AM GK [eV 0]) (eOp (o2 wGe) [eV 0,eV 1])))
def HF:Fn:=Av (A6 2 JT)
def HC:Ex:=(Ba (Jr (AM HF [eV 0,eV 1]) (eOp (o2 wLe) [eV 0,eV 2])))
def DF:Fn:=Av (A6 3 HC)
def FE:Ex:=(Ad (Rm 0 1 (eOp (o1 Yc) [eV 0]) (eOp (o1 Yc) [eV 1]))
    (Ad (Om (RN 1) (eOp (o2 wNe) [eV 1,eI 0]) (Rm 0 1 (eV 1) (eOp (o2 Pf) [eV 0,eV 1])))
    (Ba (eV 0))))
def CA:Fn:=Av (A6 2 FE)
def Mp:Ex:=(Ad (By 2 (AM CA [eV 0,eV 1]))
    (Ba (CS [eOp (o2 Nd) [eV 0,eV 2],eOp (o2 Nd) [eV 1,eV 2]])))
def C8:Fn:=Av (A6 3 Mp)
def Qs:Ex:=(Ba (AM C8 [eOp (o2 C4) [eOp (o2 CW) [eIx (eV 0) (eI 0),eIx (eV 1) (eI 1)],eOp (o2 CW) [eIx (eV 1) (eI 0),eIx (eV 0) (eI 1)]],eOp (o2 CW) [eIx (eV 0) (eI 1),eIx (eV 1) (eI 1)]]))
def Jb:Fn:=Av (A6 2 Qs)
def Qf:Ex:=(Ba (AM C8 [eOp (o2 Qn) [eOp (o2 CW) [eIx (eV 0) (eI 0),eIx (eV 1) (eI 1)],eOp (o2 CW) [eIx (eV 1) (eI 0),eIx (eV 0) (eI 1)]],eOp (o2 CW) [eIx (eV 0) (eI 1),eIx (eV 1) (eI 1)]]))
def Jl:Fn:=Av (A6 2 Qf)
def Ou:Ex:=(Ba (AM C8 [eOp (o2 CW) [eIx (eV 0) (eI 0),eIx (eV 1) (eI 0)],eOp (o2 CW) [eIx (eV 0) (eI 1),eIx (eV 1) (eI 1)]]))
def Hr:Fn:=Av (A6 2 Ou)
def PB:Ex:=(Ad (By 4 (eOp (o2 C4) [eOp (o2 CW) [eOp (o2 CW) [eIx (eV 0) (eI 0),eIx (eV 2) (eI 1)],eV 1],eOp (o2 CW) [eOp (o2 CW) [eIx (eV 2) (eI 0),eIx (eV 0) (eI 1)],eV 3]]))
    (Ba (AM C8 [eV 4,eOp (o2 CW) [eOp (o2 CW) [eIx (eV 0) (eI 1),eIx (eV 2) (eI 1)],eOp (o2 C4) [eV 1,eV 3]]])))
def Ho:Fn:=Av (A6 5 PB)
def EY:Ex:=(Ba (Jr (eOp (o2 wLt) [eV 1,eOp (o1 Ha) [eV 0]]) (eOp (o2 wGe) [eIx (eIx (eV 0) (eV 1)) (eI 1),eV 2])))
def BJ:Fn:=Av (A6 3 EY)
def Ee:Ex:=(Ba (Jr (AM BJ [eV 0,eV 1,eI 1]) (Jr (AM BJ [eV 0,eV 2,eI 1]) (eOp (o2 wEq) [eIx (eIx (eV 0) (eV 1)) (eI 0),eIx (eIx (eV 0) (eV 2)) (eI 0)]))))
def CT:Fn:=Av (A6 3 Ee)
def GD:Ex:=(Ba (Jr (AM BJ [eV 0,eV 1,eV 2]) (eOp (o2 wNe) [eIx (eIx (eV 0) (eV 1)) (eI 0),eV 3])))
def CP:Fn:=Av (A6 4 GD)
def BV:Ex:=(Ad (By 3 (eIx (eV 2) (eI 0)))
    (Ad (xIf (eOp (o2 wEq) [eV 3,eC (.str "pool")]) (Ba (AM CT [eV 0,eIx (eV 2) (eI 1),eIx (eV 2) (eI 2)])) EC)
    (Ad (xIf (eOp (o2 wEq) [eV 3,eC (.str "swap")]) (Ba (AM CP [eV 0,eIx (eV 2) (eI 1),eIx (eV 2) (eI 2),eIx (eV 2) (eI 3)])) EC)
    (Ad (xIf (eOp (o2 wEq) [eV 3,eC (.str "trade")]) (Ad (By 4 (F8 [] 1 (Mu (eV 1)) (tNm 0) (eOp (o2 wEq) [eIx (eV 0) (eI 0),eC (.str "trade")]) (eIx (eV 0) (eI 1))))
    (Ba (Jr (eOp (o2 (wIn true)) [eIx (eV 2) (eI 1),eV 4]) (AM CP [eV 0,eIx (eV 2) (eI 2),eIx (eV 2) (eI 3),eIx (eV 2) (eI 4)])))) EC)
    (Ad (xIf (eOp (o2 (wIn false)) [eV 3,CS [eC (.str "spoil"),eC (.str "throw")]]) (Ba (AM BJ [eV 0,eIx (eV 2) (eI 1),eIx (eV 2) (eI 2)])) EC)
    (Ba (eC (.bl true))))))))
def Ay:Fn:=Av (A6 5 BV)
def HU:Ex:=(Ad (Ml (tTp [tNm 3,tNm 4]) (eIx (eV 0) (eV 1)))
    (Ba (eOp (o2 C4) [eOp (o2 C4) [eOp (JR false true) [eV 0,eV 1],JW [CS [eV 3,eOp (o2 Qn) [eV 4,eV 2]]]],eOp (JR true false) [eV 0,eOp (o2 C4) [eV 1,eI 1]]])))
def Bk:Fn:=Av (A6 5 HU)
def Bd:Ex:=(Ad (By 2 (eIx (eV 1) (eI 0)))
    (Ad (xIf (eOp (o2 wEq) [eV 2,eC (.str "bring")]) (Ba (eOp (o2 C4) [eV 0,JW [CS [eIx (eV 1) (eI 2),eIx (eV 1) (eI 3)]]])) EC)
    (Ad (xIf (eOp (o2 wEq) [eV 2,eC (.str "pool")]) (Ad (Ml (tTp [tNm 3,tNm 4]) (eIx (eV 0) (eIx (eV 1) (eI 1))))
    (Ad (By 5 (eIx (eIx (eV 0) (eIx (eV 1) (eI 2))) (eI 1)))
    (Ba (eOp (o2 C4) [AM Bk [AM Bk [eV 0,eIx (eV 1) (eI 1),eV 4],eIx (eV 1) (eI 2),eV 5],JW [CS [eV 3,eOp (o2 C4) [eV 4,eV 5]]]])))) EC)
    (Ad (xIf (eOp (o2 (wIn false)) [eV 2,CS [eC (.str "swap"),eC (.str "trade")]]) (Ad (Ml (tTp [tNm 6,tNm 7,tNm 3,tNm 8]) (eOp (JR true false) [eV 1,eOp (o1 R3) [eI 4]]))
    (Ba (eOp (o2 C4) [AM Bk [eV 0,eV 6,eV 7],JW [CS [eV 3,eV 8]]]))) EC)
    (Ad (xIf (eOp (o2 (wIn false)) [eV 2,CS [eC (.str "spoil"),eC (.str "throw")]]) (Ba (AM Bk [eV 0,eIx (eV 1) (eI 1),eIx (eV 1) (eI 2)])) EC)
    (Ba (eV 0)))))))
def Ag:Fn:=Av (A6 9 Bd)
def Gi:Ex:=(Ba (F8 [] 1 (Mu (eIx (eV 0) (eI 1))) (tNm 0) E8 (CS [eIx (eV 0) (eI 0),eIx (eV 0) (eI 1)])))
def CH:Fn:=Av (A6 1 Gi)
def D4:Ex:=(Ad (By 1 (eIx (eV 0) (eI 0)))
    (Ad (xIf (eOp (o2 wEq) [eV 1,eC (.str "pool")]) (Ba (eOp (o1 N2) [JW [eIx (eV 0) (eI 1),eIx (eV 0) (eI 2)]])) EC)
    (Ad (xIf (eOp (o2 (wIn false)) [eV 1,CS [eC (.str "swap"),eC (.str "trade")]]) (Ba (JW [eIx (eV 0) (eOp (o1 R3) [eI 4])])) EC)
    (Ba (JW [])))))
def B5:Fn:=Av (A6 2 D4)
def Du:Ex:=(Ad (By 1 (AM CH [eV 0]))
    (Ad (By 2 (eIx (eV 0) (eI 2)))
    (Ad (QG (Yg (eV 2)) (tTp [tNm 3,tNm 4]) (Ad (xIf (R1 (AM Ay [eV 1,eOp (JR false true) [eV 2,eV 3],eV 4])) (Ba (eV 3)) EC)
    (By 1 (AM Ag [eV 1,eV 4]))))
    (Ba (eC .non)))))
def Ae:Fn:=Av (A6 5 Du)
def ES:Ex:=(Ad (By 1 (AM Ae [eV 0]))
    (xIf (eOp (o2 (Ry true)) [eV 1,eC .non]) Kf EC))
def A9:Fn:=Av (A6 2 ES)
def FF:Ex:=(xIf (R1 (AM DF [eV 1,eI 0,eOp (o1 Ha) [eIx (eV 0) (eI 2)]])) Kf EC)
def Bs:Fn:=Av (A6 2 FF)
def Iu:Ex:=(Ba (eOp (o1 Fd) [F8 [1] 1 (QF [eV 0]) (tNm 1) E8 (eIf (eOp (o2 wEq) [eV 1,eV 0]) (eC UC) (eC Hw))]))
def EZ:Fn:=Av (A6 2 Iu)
def HM:Ex:=(Ba (eOp (o1 Fd) [F8 [1,3] 2 (Xa (eV 0) (eV 2)) (tTp [tNm 2,tNm 3]) E8 (AM Ho [eV 2,eV 0,eV 3,eV 1])]))
def Ca:Fn:=Av (A6 4 HM)
def Cw:Ex:=(Ad (By 3 (AM B5 [eV 2]))
    (Ad (xIf (eOp (o2 wEq) [eOp (o1 Ha) [eV 3],eI 1]) (Ba (eIx (eV 1) (eIx (eV 3) (eI 0)))) EC)
    (Ad (Ml (tTp [tNm 4,tNm 5]) (eV 3))
    (Ba (AM Ca [eIx (eV 1) (eV 4),eIx (eIx (eV 0) (eV 4)) (eI 1),eIx (eV 1) (eV 5),eIx (eIx (eV 0) (eV 5)) (eI 1)])))))
def BL:Fn:=Av (A6 6 Cw)
def HQ:Ex:=(Ba (eOp (o2 C4) [eOp (o1 VM) [F8 [2] 2 (Mu (eV 1)) (tTp [tNm 1,tNm 2]) E8 (eOp (o2 CW) [eV 2,eIx (eV 0) (eV 1)])],eOp (o2 CW) [eIx (eV 0) (eI 2),eIx (eV 2) (eOp (o1 R3) [eI 1])]]))
def Dc:Fn:=Av (A6 3 HQ)
def Hu:Ex:=(Ad (Ml (tTp [tNm 3,tNm 4,tNm 5]) (eOp (JR true false) [eV 2,eI 1]))
    (Ba (AM C8 [eOp (o2 CW) [eV 4,eIx (eV 5) (eIx (eIx (eV 1) (eV 3)) (eI 0))],AM Dc [eV 0,eV 1,eV 5]])))
def D7:Fn:=Av (A6 6 Hu)
def Gn:Ex:=(Ad (Ml (tTp [tNm 5,tNm 6]) (AM D7 [eV 0,eV 1,eV 3]))
    (Ba (AM Ca [eV 4,eOp (o2 Qn) [eV 6,eV 5],eIx (eV 2) (eIx (eV 3) (eI 1)),eV 5])))
def DC:Fn:=Av (A6 7 Gn)
def Hz:Ex:=(Ad (Ml (tTp [tNm 2,tNm 3,tNm 4]) (eOp (JR true false) [eV 0,eI 1]))
    (Ad (By 5 (AM Hr [eIx (eV 1) (eV 2),eV 4]))
    (Ad (By 6 (ae (o1 PR) [eV 1]))
    (Ad (NN (AM Jl [eIx (eV 1) (eV 2),eV 5]) (eV 6) (eV 2))
    (Ad (NN (AM Jb [eIx (eV 1) (eV 3),eV 5]) (eV 6) (eV 3))
    (Ba (eOp (o1 Fd) [eV 6])))))))
def D0:Fn:=Av (A6 7 Hz)
def BF:Ex:=(Ad (xIf (eOp (o2 wEq) [eIx (eV 3) (eI 0),eC (.str "throw")]) (Ba (AM DC [eV 0,eV 1,eV 2,eV 3,eV 4])) EC)
    (Ad (xIf (eOp (o2 wEq) [eIx (eV 3) (eI 0),eC (.str "sell")]) (Ba (AM D0 [eV 3,eV 4])) EC)
    (Ba (eV 4))))
def Ab:Fn:=Av (A6 5 BF)
def BI:Ex:=(Ad (By 4 (F8 [0,1,2,3] 1 (Mu (eV 2)) (tNm 4) E8 (AM Ab [eV 0,eV 1,eV 2,eV 3,eV 4])))
    (Ad (xIf (eOp (o2 wEq) [eIx (eV 3) (eI 0),eC (.str "bring")]) (Ba (eOp (o2 C4) [eV 4,JW [AM EZ [eIx (eV 0) (eI 0),eIx (eV 3) (eI 1)]]])) EC)
    (Ad (xIf (eOp (o2 (wIn false)) [eIx (eV 3) (eI 0),eC B2]) (Ba (eOp (o2 C4) [eV 4,JW [AM BL [eV 1,eV 2,eV 3]]])) EC)
    (Ba (eV 4)))))
def Am:Fn:=Av (A6 5 BI)
def Kx:Ex:=(Ad (Ml (tTp [tNm 2,tNm 3,tNm 4]) (eV 0))
    (Ad (By 5 (AM CH [eV 0]))
    (Ad (By 6 (F8 [] 1 (Mu (eV 3)) (tNm 0) E8 (eIx (eV 0) (eI 2))))
    (Ad (By 7 (eIx (eV 2) (eI 3)))
    (Ad (QG (Mu (eOp (JR false true) [eV 4,eV 1])) (tNm 8) (Ad (By 7 (AM Ab [eV 2,eV 5,eV 6,eV 8,eV 7]))
    (Ad (By 6 (AM Am [eV 2,eV 5,eV 6,eV 8]))
    (By 5 (AM Ag [eV 5,eV 8])))))
    (Ba (CS [eV 5,eV 6,eV 7])))))))
def GN:Fn:=Av (A6 9 Kx)
def Hq:Ex:=(Ad (Df (AM A9 [eV 0]))
    (Ad (Df (AM Bs [eV 0,eV 1]))
    (Ad (Ml (tTp [tNm 2,tNm 3,tNm 4]) (AM GN [eV 0,eV 1]))
    (Ba (Tt [] 3 (Xa (eV 2) (eV 3)) (tTp [tTp [tNm 1,tNm 2],tNm 0]) E8 (CS [eV 1,eV 2,eV 0]))))))
def Bc:Fn:=Av (A6 5 Hq)
def G9:Ex:=(Ad (xIf (eOp (o2 wLt) [eV 1,eOp (o1 Ha) [eV 0]]) (Ba (eIx (eV 0) (eV 1))) EC)
    (Ba (eI 0)))
def DH:Fn:=Av (A6 2 G9)
def PV:Ex:=(Ba (Mm [eV 0,eOp (o1 WJ) [eOp (o2 wGe) [eV 0,eOp (o2 YZ) [eI 10,eI 18]]],eI 0,eOp (o2 Pf) [eV 0,eI 1000000007]]))
def ID:Fn:=Av (A6 1 PV)
def IT:Ex:=(Ad (xIf (Jr (eOp (o2 wEq) [eIx (eV 0) (eI 1),eI 1]) (eOp (o2 wGt) [eIx (eV 0) (eI 0),eI 0])) (Ad (By 2 (eOp (o2 Pf) [eIx (eV 0) (eI 0),eV 1]))
    (Ad (NN (eOp (o2 Nd) [eIx (eV 0) (eI 0),eV 1]) (eV 0) (eI 0))
    (Ba (eV 2)))) EC)
    (Ad (NN (eOp (o2 C4) [eIx (eV 0) (eI 2),eI 1]) (eV 0) (eI 2))
    (Ad (By 3 (eOp (o2 Pf) [eOp (o2 CW) [eOp (o2 C4) [eIx (eV 0) (eI 3),eI 17],eOp (o2 C4) [eI 69621,eOp (o2 CW) [eI 2,eIx (eV 0) (eI 2)]]],eI 2147483647]))
    (Ad (By 3 (eOp (o2 Pf) [eOp (o2 C4) [eOp (o2 C4) [eOp (o2 CW) [eV 3,eV 3],eOp (o2 CW) [eI 40503,eIx (eV 0) (eI 2)]],eI 5],eI 2147483629]))
    (Ba (eOp (o2 Pf) [eOp (o2 Nd) [eOp (o2 Pf) [eOp (o2 CW) [eV 3,eI 48271],eI 2147483647],eI 32],eV 1]))))))
def AJ:Fn:=Av (A6 4 IT)
def Kb:Ex:=(Ad (Om (RN 1) (eOp (o2 wGt) [eV 1,eI 0]) (Rm 0 1 (eV 1) (eOp (o2 Pf) [eV 0,eV 1])))
    (Ba (eV 0)))
def GB:Fn:=Av (A6 2 Kb)
def M8:Ex:=(Ad (By 2 (AM GB [eOp (o1 Yc) [eV 0],eV 1]))
    (Ba (CS [eOp (o2 Nd) [eV 0,eV 2],eOp (o2 Nd) [eV 1,eV 2]])))
def Bv:Fn:=Av (A6 3 M8)
def NX:Ex:=(Ba (AM Bv [eOp (o2 C4) [eOp (o2 CW) [eIx (eV 0) (eI 0),eIx (eV 1) (eI 1)],eOp (o2 CW) [eIx (eV 1) (eI 0),eIx (eV 0) (eI 1)]],eOp (o2 CW) [eIx (eV 0) (eI 1),eIx (eV 1) (eI 1)]]))
def CJ:Fn:=Av (A6 2 NX)
def Lm:Ex:=(Ba (AM Bv [eOp (o2 CW) [eIx (eV 0) (eI 0),eIx (eV 1) (eI 0)],eOp (o2 CW) [eIx (eV 0) (eI 1),eIx (eV 1) (eI 1)]]))
def A1:Fn:=Av (A6 2 Lm)
def Mw:Ex:=(Ba (AM CJ [eV 0,CS [eOp (o2 Qn) [eI 0,eIx (eV 1) (eI 0)],eIx (eV 1) (eI 1)]]))
def Dj:Fn:=Av (A6 2 Mw)
def JV:Ex:=(Ad (By 2 (Tt [0] 1 (QF [eV 1]) (tNm 1) E8 (eIx (JW [eI 0,eI 1,AM AJ [eV 0,eI 4],AM AJ [eV 0,eI 9]]) (AM AJ [eV 0,eI 4]))))
    (Ad (xIf (eOp (o2 wEq) [eOp (o1 VM) [eV 2],eI 0]) (NN (eI 1) (eV 2) (AM AJ [eV 0,eV 1])) EC)
    (Ba (eOp (o1 Fd) [F8 [2] 1 (Mu (eV 2)) (tNm 1) E8 (AM Bv [eV 1,eOp (o1 VM) [eV 0]])]))))
def Dh:Fn:=Av (A6 3 JV)
def IC:Ex:=(Ad (By 1 (eOp (o2 C4) [eOp (o2 YZ) [eI 10,eI 30],AM AJ [eV 0,eI 99]]))
    (Ba (eIx (JW [eOp (o2 C4) [eI 1,AM AJ [eV 0,eI 4]],eOp (o2 C4) [eI 1,AM AJ [eV 0,eI 40]],eOp (o2 C4) [eI 1,AM AJ [eV 0,eI 999]],eV 1]) (eOp (o2 Nd) [AM AJ [eV 0,eI 7],eI 2]))))
def BC:Fn:=Av (A6 2 IC)
def LZ:Ex:=(Ad (Rm 1 2 (eOp (o2 C4) [eI 1,AM AJ [eV 0,eI 4]]) (eOp (o2 C4) [eI 1,AM AJ [eV 0,eI 5]]))
    (Ad (By 3 (eIx (JW [eOp (o2 C4) [eI 1,AM AJ [eV 0,eI 3]],eOp (o2 C4) [eI 1,AM AJ [eV 0,eI 20]]]) (AM AJ [eV 0,eI 2])))
    (Ba (CS [eV 1,eV 2,eV 3,AM Dh [eV 0,eV 1],AM AJ [eV 0,eI 10],AM AJ [eV 0,eI 10]]))))
def G4:Fn:=Av (A6 4 LZ)
def LU:Ex:=(Ad (By 2 (Mm []))
    (Ad (QG (QF [eIx (JW [eI 0,eI 1,AM AJ [eV 0,eI 5]]) (AM AJ [eV 0,eI 3])]) (tNm 3) (Df (Pe P9 (eV 2) [CS [AM AJ [eV 0,eIx (eV 1) (eI 1)],AM BC [eV 0],AM Dh [eV 0,eIx (eV 1) (eI 0)]]])))
    (Ba (eOp (o1 Fd) [eV 2]))))
def G6:Fn:=Av (A6 4 LU)
def LR:Ex:=(Ad (By 1 (eOp (o2 C4) [eI 1,AM AJ [eV 0,eI 12]]))
    (Ba (AM Bv [eOp (o2 C4) [eI 1,AM AJ [eV 0,eV 1]],eV 1])))
def FZ:Fn:=Av (A6 2 LR)
def Kt:Ex:=(Ba (eOp (o1 Fd) [F8 [0] 1 (QF [eV 1]) (tNm 1) E8 (eOp (o2 C4) [eI 1,eIx (JW [AM AJ [eV 0,eI 3],AM AJ [eV 0,eI 99]]) (AM AJ [eV 0,eI 2])])]))
def Di:Fn:=Av (A6 2 Kt)
def MN:Ex:=(Ba (Mm [Tt [] 1 (Mu (eIx (eV 0) (eI 1))) (tNm 0) E8 (ae (o1 PR) [eV 0]),eOp (o1 Fd) [eIx (eIx (eV 0) (eI 0)) (eI 3)],Mm []]))
def Fi:Fn:=Av (A6 1 MN)
def Kq:Ex:=(Ad (By 2 (Mm []))
    (Ad (QG (Xa (eIx (eV 0) (eI 2)) (eIx (eV 1) (eI 2))) (tTp [tNm 3,tNm 4]) (Ad (By 5 (AM CJ [AM A1 [CS [eIx (eV 0) (eI 1),eI 1],eV 3],AM A1 [CS [eIx (eV 1) (eI 1),eI 1],eV 4]]))
    (Df (Pe P9 (eV 2) [AM A1 [eV 5,AM Bv [eI 1,eOp (o2 C4) [eIx (eV 0) (eI 1),eIx (eV 1) (eI 1)]]]]))))
    (Ba (eOp (o1 Fd) [eV 2]))))
def GI:Fn:=Av (A6 6 Kq)
def Mt:Ex:=(Ad (By 3 (eIx (eV 2) (eI 3)))
    (Ad (By 4 (eOp (o2 C4) [eOp (o1 VM) [F8 [3] 3 (Mu (eV 1)) (tTp [tNm 1,tNm 2,tNm 3]) E8 (eOp (o2 CW) [eV 2,eIx (eV 0) (eV 1)])],eOp (o2 CW) [eIx (eV 0) (eI 2),eIx (eV 3) (eOp (o1 R3) [eI 1])]]))
    (Ba (AM Bv [eOp (o2 CW) [eIx (eV 2) (eI 2),eIx (eV 3) (eIx (eIx (eV 1) (eIx (eV 2) (eI 1))) (eI 0))],eV 4]))))
def IL:Fn:=Av (A6 5 Mt)
def L4:Ex:=(Ad (By 3 (Mm []))
    (Ad (QG (Xa (eV 0) (eV 2)) (tTp [tNm 4,tNm 5]) (Df (Pe P9 (eV 3) [AM CJ [AM A1 [eV 4,AM Dj [CS [eI 1,eI 1],eV 1]],AM A1 [eV 5,eV 1]]])))
    (Ba (eOp (o1 Fd) [eV 3]))))
def EI:Fn:=Av (A6 6 L4)
def NO:Ex:=(Ad (By 2 (ae (o1 PR) [eV 0]))
    (Ad (By 3 (AM A1 [eIx (eV 2) (eIx (eV 1) (eI 1)),eIx (eV 1) (eI 3)]))
    (Ad (NN (AM Dj [eIx (eV 2) (eIx (eV 1) (eI 1)),eV 3]) (eV 2) (eIx (eV 1) (eI 1)))
    (Ad (NN (AM CJ [eIx (eV 2) (eIx (eV 1) (eI 2)),eV 3]) (eV 2) (eIx (eV 1) (eI 2)))
    (Ba (eOp (o1 Fd) [eV 2]))))))
def FW:Fn:=Av (A6 4 NO)
def J7:Ex:=(Ad (Ml (tTp [tNm 3,tNm 4,tNm 5]) (eV 1))
    (xIf (eOp (o2 wEq) [eIx (eV 2) (eI 0),eC (.str "throw")]) (Ad (Rm 6 7 (AM IL [eV 0,eV 3,eV 2]) (eIx (eIx (eV 3) (eIx (eV 2) (eI 1))) (eI 2)))
    (Ad (NN (eOp (o2 Qn) [eIx (eIx (eV 3) (eIx (eV 2) (eI 1))) (eI 1),eIx (eV 2) (eI 2)]) (eIx (eV 3) (eIx (eV 2) (eI 1))) (eI 1))
    (Ad (QG (Mu (eV 3)) (tNm 8) (NN (AM EI [eIx (eV 8) (eI 2),eV 6,eV 7]) (eV 8) (eI 2)))
    (NN (AM EI [eV 4,eV 6,eV 7]) (eV 1) (eI 1))))) (Ad (QG (Mu (eV 3)) (tNm 8) (NN (AM FW [eIx (eV 8) (eI 2),eV 2]) (eV 8) (eI 2)))
    (NN (AM FW [eV 4,eV 2]) (eV 1) (eI 1)))))
def FV:Fn:=Av (A6 9 J7)
def GH:Ex:=(Ad (Ml (tTp [tNm 3,tNm 4,tNm 5]) (eV 1))
    (Ad (By 6 (eIx (eV 2) (eI 0)))
    (xIf (eOp (o2 wEq) [eV 6,eC (.str "bring")]) (Df (Pe P9 (eV 3) [Mm [eIx (eV 2) (eI 2),eIx (eV 2) (eI 3),eOp (o1 Fd) [F8 [2] 1 (QF [eIx (eV 0) (eI 0)]) (tNm 1) E8 (CS [eOp (o1 WJ) [eOp (o2 wEq) [eV 1,eIx (eV 0) (eI 1)]],eI 1])]]])) (xIf (eOp (o2 wEq) [eV 6,eC (.str "pool")]) (Ad (Rm 7 8 (eIx (eV 3) (eIx (eV 2) (eI 1))) (eIx (eV 3) (eIx (eV 2) (eI 2))))
    (Ad (Df (Pe P9 (eV 3) [Mm [eIx (eV 7) (eI 0),eOp (o2 C4) [eIx (eV 7) (eI 1),eIx (eV 8) (eI 1)],AM GI [eV 7,eV 8]]]))
    (Ad (NN (eI 0) (eV 7) (eI 1))
    (NN (eI 0) (eV 8) (eI 1))))) (xIf (eOp (o2 (wIn false)) [eV 6,CS [eC (.str "swap"),eC (.str "trade")]]) (Ad (Ml (tTp [tNm 9,tNm 10,tNm 11,tNm 12]) (eOp (JR true false) [eV 2,eOp (o1 R3) [eI 4]]))
    (Ad (NN (eOp (o2 Qn) [eIx (eIx (eV 3) (eV 9)) (eI 1),eV 10]) (eIx (eV 3) (eV 9)) (eI 1))
    (Ad (Df (Pe P9 (eV 3) [Mm [eV 11,eV 12,eIx (eIx (eV 3) (eV 9)) (eI 2)]]))
    (Df (Pe b9 (eV 5) [eOp (o2 CW) [eOp (JR true true) [eV 2,eI 1,eI 2],eOp (o1 WJ) [eOp (o2 wEq) [eV 6,eC (.str "trade")]]]]))))) (xIf (eOp (o2 wEq) [eV 6,eC (.str "spoil")]) (NN (eOp (o2 Qn) [eIx (eIx (eV 3) (eIx (eV 2) (eI 1))) (eI 1),eIx (eV 2) (eI 2)]) (eIx (eV 3) (eIx (eV 2) (eI 1))) (eI 1)) (Df (AM FV [eV 0,eV 1,eV 2]))))))))
def Bf:Fn:=Av (A6 13 GH)
def Mn:Ex:=(Ad (Ml (tTp [tNm 3,tNm 4,tNm 5]) (eV 2))
    (Ad (By 6 (F8 [] 2 (Yg (eV 3)) (tTp [tNm 0,tNm 1]) (eOp (o2 wGt) [eIx (eV 1) (eI 1),eI 0]) (eV 0)))
    (Ad (By 7 (AM AJ [eV 0,eI 12]))
    (Ad (xIf (eOr (eOp (o2 wLt) [eV 7,eI 2]) (eOp (o2 wEq) [eV 6,JW []])) (Ba (CS [eC (.str "bring"),AM AJ [eV 0,eIx (eV 1) (eI 0)],AM AJ [eV 0,eIx (eV 1) (eI 1)],AM BC [eV 0]])) EC)
    (Ad (By 8 (eIx (eV 6) (AM AJ [eV 0,eOp (o1 Ha) [eV 6]])))
    (Ad (By 9 (eOp (o2 C4) [eI 1,AM AJ [eV 0,eOp (o2 Ya) [eIx (eIx (eV 3) (eV 8)) (eI 1),eI 2000]]]))
    (Ad (xIf (eOp (o2 wLt) [eV 7,eI 5]) (Ad (By 10 (F8 [3,8] 1 (Mu (eV 6)) (tNm 2) (Jr (eOp (o2 wNe) [eV 2,eV 1]) (eOp (o2 wEq) [eIx (eIx (eV 0) (eV 2)) (eI 0),eIx (eIx (eV 0) (eV 1)) (eI 0)])) (eV 2)))
    (xIf (eOp (o2 wNe) [eV 10,JW []]) (Ba (CS [eC (.str "pool"),eV 8,eIx (eV 10) (AM AJ [eV 0,eOp (o1 Ha) [eV 10]])])) EC)) EC)
    (Ad (xIf (Jr (eOp (o2 wLt) [eV 7,eI 8]) (eOp (o2 wGt) [eIx (eV 1) (eI 1),eI 1])) (Ad (By 11 (eOp (o2 Pf) [eOp (o2 C4) [eOp (o2 C4) [eIx (eIx (eV 3) (eV 8)) (eI 0),eI 1],AM AJ [eV 0,eOp (o2 Qn) [eIx (eV 1) (eI 1),eI 1]]],eIx (eV 1) (eI 1)]))
    (Ad (By 12 (F8 [5] 1 (QF [eI 10]) (tNm 1) (eOp (o2 (wIn true)) [eV 1,eV 0]) (eV 1)))
    (Ad (xIf (Jr (eOp (o2 wEq) [eV 7,eI 7]) (eOp (o2 wNe) [eV 12,JW []])) (Ba (CS [eC (.str "trade"),eIx (eV 12) (AM AJ [eV 0,eOp (o1 Ha) [eV 12]]),eV 8,eV 9,eV 11,AM BC [eV 0]])) EC)
    (Ba (CS [eC (.str "swap"),eV 8,eV 9,eV 11,AM BC [eV 0]]))))) EC)
    (Ad (xIf (eOp (o2 wEq) [eV 7,eI 8]) (Ba (CS [eC (.str "spoil"),eV 8,eV 9])) EC)
    (Ad (xIf (Jr (eOp (o2 wEq) [eV 7,eI 9]) (eOp (o2 wGt) [eIx (eV 1) (eI 0),eI 1])) (Ad (By 13 (AM AJ [eV 0,eIx (eV 1) (eI 0)]))
    (Ba (CS [eC (.str "sell"),eV 13,eOp (o2 Pf) [eOp (o2 C4) [eOp (o2 C4) [eV 13,eI 1],AM AJ [eV 0,eOp (o2 Qn) [eIx (eV 1) (eI 0),eI 1]]],eIx (eV 1) (eI 0)],AM FZ [eV 0]]))) EC)
    (Ba (CS [eC (.str "throw"),eV 8,eV 9,AM Di [eV 0,eOp (o2 C4) [eIx (eV 1) (eI 1),eI 1]]]))))))))))))
def ET:Fn:=Av (A6 14 Mn)
def NI:Ex:=(Ad (By 2 (AM G4 [eV 0]))
    (Ad (By 3 (AM G6 [eV 0,eV 2]))
    (Ad (Rm 4 5 (AM Fi [CS [eV 2,eV 3,CS []]]) (Mm []))
    (Ad (QG (QF [AM AJ [eV 0,eOp (o2 C4) [eV 1,eI 1]]]) (tNm 6) (Ad (By 7 (AM ET [eV 0,eV 2,eV 4]))
    (xIf (eOr (eOp (o2 wNe) [eIx (eV 7) (eI 0),eC (.str "throw")]) (eOp (o2 wLt) [eOp (o1 Ha) [F8 [] 1 (Mu (eV 5)) (tNm 0) (eOp (o2 wEq) [eIx (eV 0) (eI 0),eC (.str "throw")]) (eV 0)],eI 3])) (Ad (Df (AM Bf [eV 2,eV 4,eV 7]))
    (Df (Pe P9 (eV 5) [eV 7]))) EC)))
    (Ba (CS [eV 2,eV 3,eOp (o1 Fd) [eV 5]]))))))
def C9:Fn:=Av (A6 8 NI)
def Ij:Ex:=(Ad (Rm 3 4 (AM AJ [eV 0,eOp (o2 C4) [eV 2,eI 2]]) (AM AJ [eV 0,eOp (o2 C4) [eV 2,eI 2]]))
    (Ad (By 5 (eIx (JW [eI 1,eI 2,eI 40,eOp (o2 YZ) [eI 10,eI 31]]) (AM AJ [eV 0,eI 4])))
    (Ad (By 6 (AM AJ [eV 0,eIx (eV 1) (eI 1)]))
    (Ad (By 7 (JW [CS [eC (.str "pool"),eV 3,eOp (o2 C4) [eV 4,eOp (o1 WJ) [eOp (o2 wEq) [eV 3,eV 4]]]],CS [eC (.str "swap"),eV 3,eV 5,eV 6,eI 3],CS [eC (.str "spoil"),eV 3,eV 5]]))
    (Ad (By 7 (eOp (o2 C4) [eV 7,JW [CS [eC (.str "trade"),AM AJ [eV 0,eI 3],eV 3,eV 5,eV 6,eI 3],CS [eC (.str "throw"),eV 3,eV 5,eOp (o2 CW) [CS [eI 1],eOp (o2 C4) [eIx (eV 1) (eI 1),eI 1]]]]]))
    (Ba (eIx (eV 7) (AM AJ [eV 0,eI 5]))))))))
def Cd:Fn:=Av (A6 8 Ij)
def IW:Rx:=(rIf (R1 (AM DF [eV 1,eI 0,eOp (o1 Ha) [eIx (eV 0) (eI 2)]])) (WX "NoNumber" [eC (.str "the book hasn't so many deeds")]) rNo)
def FG:Rf:=Av (Rj 2 IW)
def Gy:Rx:=(YD rNo (By 1 (AM Ae [eV 0]))
    (rIf (eOp (o2 (Ry true)) [eV 1,eC .non]) (Ph "NotDone" (eV 1)) rNo))
def C7:Rf:=Av (Rj 2 Gy)
def Kj:Rx:=(YD (O1 C7 [eV 0]) (Df (AM A9 [eV 0]))
    (YD (O1 FG [eV 0,eV 1]) (Df (AM Bs [eV 0,eV 1]))
    rNo))
def C3:Rf:=Av (Rj 5 Kj)
def G7:Ex:=(Ad (Wi (Df (AM Bc [eV 0,eI 0])) (O1 C3 [eV 0,eI 0]) (gAs ["NotDone"] "NotDone" (λn=>.int n) gNo))
    (Ba (eC .non)))
def B4:Fn:=Av (A6 2 G7)
def JO:Ex:=(Ba (Jr (eOp (o2 wLt) [eV 1,eOp (o1 Ha) [eV 0]]) (eOp (o2 wGe) [eIx (eIx (eV 0) (eV 1)) (eI 1),eV 2])))
def Cn:Fn:=Av (A6 3 JO)
def CN:Ex:=(Ad (Ml (tTp [tNm 2,tNm 3,tNm 4]) (eV 0))
    (Ad (xIf (eOp (o2 wEq) [eIx (eV 1) (eI 0),eC (.str "pool")]) (Ad (By 5 (Jr (AM Cn [eV 2,eIx (eV 1) (eI 1),eI 1]) (AM Cn [eV 2,eIx (eV 1) (eI 2),eI 1])))
    (Ba (Jr (eV 5) (eOp (o2 wEq) [eIx (eIx (eV 2) (eIx (eV 1) (eI 1))) (eI 0),eIx (eIx (eV 2) (eIx (eV 1) (eI 2))) (eI 0)])))) EC)
    (Ad (xIf (eOp (o2 (wIn false)) [eIx (eV 1) (eI 0),CS [eC (.str "swap"),eC (.str "trade")]]) (Ad (Ml (tTp [tNm 6,tNm 7,tNm 8,tNm 9]) (eOp (JR true false) [eV 1,eOp (o1 R3) [eI 4]]))
    (Ad (xIf (Jr (eOp (o2 wEq) [eIx (eV 1) (eI 0),eC (.str "trade")]) (eOp (o2 (wIn false)) [eIx (eV 1) (eI 1),eV 4])) (Ba (eC (.bl false))) EC)
    (Ba (Jr (AM Cn [eV 2,eV 6,eV 7]) (eOp (o2 wNe) [eIx (eIx (eV 2) (eV 6)) (eI 0),eV 8]))))) EC)
    (Ad (xIf (eOp (o2 (wIn false)) [eIx (eV 1) (eI 0),CS [eC (.str "spoil"),eC (.str "throw")]]) (Ba (AM Cn [eV 2,eIx (eV 1) (eI 1),eIx (eV 1) (eI 2)])) EC)
    (Ba (eC (.bl true)))))))
def Bo:Fn:=Av (A6 10 CN)
def JK:Ex:=(Ad (By 1 (AM Fi [eV 0]))
    (Ad (QG (Yg (eIx (eV 0) (eI 2))) (tTp [tNm 2,tNm 3]) (Ad (xIf (R1 (AM Bo [eV 1,eV 3])) (Ba (eV 2)) EC)
    (Df (AM Bf [eIx (eV 0) (eI 0),eV 1,eV 3]))))
    (Ba (eC .non))))
def EL:Fn:=Av (A6 4 JK)
def Km:Ex:=(Ba (AM DF [eV 1,eI 0,eOp (o2 Qn) [eOp (o1 Ha) [eIx (eV 0) (eI 2)],eI 1]]))
def IA:Fn:=Av (A6 2 Km)
def Ii:Ex:=(Ba (eOp (o2 C4) [eOp (o1 Ha) [eIx (eV 0) (eI 1)],eOp (o1 Ha) [F8 [] 1 (Mu (eOp (JR false true) [eIx (eV 0) (eI 2),eV 1])) (tNm 0) (eOp (o2 (wIn false)) [eIx (eV 0) (eI 0),eC B2]) (eV 0)]]))
def GR:Fn:=Av (A6 2 Ii)
def Lc:Ex:=(Ad (Df (AM A9 [eV 0]))
    (Ad (xIf (R1 (AM IA [eV 0,eV 1])) Kf EC)
    (Ad (xIf (eOp (o2 (wIn true)) [eIx (eIx (eIx (eV 0) (eI 2)) (eV 1)) (eI 0),eC B2]) (Ba (eC .non)) EC)
    (Ba (AM GR [eV 0,eV 1])))))
def FX:Fn:=Av (A6 2 Lc)
def Tp:Ex:=(Ad (QG (QF [eOp (o2 bP) [eI 1,eOp (o2 Ya) [eOp (o1 Ha) [eV 0],eI 3]]]) (tNm 1) (Ad (By 2 (AM ID [AM DH [eV 0,eV 1]]))
    (Ad (By 3 (AM C9 [eV 2,eI 12]))
    (Ad (Ml (tTp [tNm 4,tNm 5,tNm 6]) (eV 3))
    (Ad (xIf (eOr (eOp (o2 (Ry true)) [AM Ae [eV 3],eC .non]) (eOp (o2 (Ry true)) [AM B4 [eV 3],eC .non])) (Ba (eC (.bl false))) EC)
    (QG (QF [eI 5]) (tNm 7) (Ad (By 8 (AM AJ [eV 2,eOp (o2 C4) [eOp (o1 Ha) [eV 6],eI 1]]))
    (Ad (By 9 (AM Cd [eV 2,eV 4,eOp (o2 C4) [eOp (o1 Ha) [eV 5],eOp (o1 Ha) [eV 6]]]))
    (Ad (By 10 (eOp (JR true false) [bG (eOp (JR false true) [eV 6,eOp (o2 C4) [eV 8,eI 1]]) (CS [CS [eC (.str "bring"),eI 0,eI 0,eI 1]]),eOp (o1 R3) [eI 1]]))
    (Ad (By 11 (eOp (o2 C4) [eOp (o2 C4) [eOp (JR false true) [eV 6,eV 8],eIx (JW [CS [eV 9],eV 10]) (AM AJ [eV 2,eI 2])],eOp (JR true false) [eV 6,eV 8]]))
    (xIf (eOp (o2 wLt) [eOp (o1 Ha) [F8 [] 1 (Mu (eV 11)) (tNm 0) (eOp (o2 wEq) [eIx (eV 0) (eI 0),eC (.str "throw")]) (eV 0)],eI 4]) (Ad (By 12 (CS [eV 4,eV 5,eV 11]))
    (Ad (By 13 (AM EL [eV 12]))
    (Ad (xIf (eOr (eOp (o2 wNe) [AM Ae [eV 12],eV 13]) (eOp (o2 wNe) [AM B4 [eV 12],eV 13])) (Ba (eC (.bl false))) EC)
    (xIf (Jr (eOp (o2 (Ry true)) [eV 13,eC .non]) (eOp (o2 (Ry true)) [AM Ae [CS [eV 4,eV 5,eOp (JR false true) [eV 11,eV 13]]],eC .non])) (Ba (eC (.bl false))) EC)))) EC)))))))))))
    (Ba (eOp (o2 wEq) [AM FX [CS [CS [eI 1,eI 1,eI 1,CS [CS [eI 1,eI 1]],eI 0,eI 0],CS [],CS [CS [eC (.str "bring"),eI 0,eI 0,eI 1]]],eI 0],eI 0])))
def OO:Fn:=Av (A6 14 Tp)
end
section
open PyProof.Rows (boot_isinstance boot_int boot_bool boot_tuple boot_str boot_list boot_abs boot_all boot_any boot_sum boot_max boot_min boot_range boot_enumerate boot_zip boot_sorted boot_set boot_divmod)
noncomputable def top(i:Nat):kE:=pb.main.body.getD i (.Pass ⟨0,0,0,0⟩)
abbrev Eh:kE:=top 3
abbrev F5:kE:=top 4
abbrev D8:kE:=top 5
abbrev Br:kE:=top 6
abbrev Gm:kE:=top 7
abbrev Jk:kE:=top 8
abbrev Jq:kE:=top 9
abbrev Hi:kE:=top 10
abbrev IG:kE:=top 11
abbrev DO:kE:=top 18
abbrev Eb:kE:=top 19
abbrev Ea:kE:=top 20
abbrev EO:kE:=top 21
abbrev Cb:kE:=top 22
abbrev Cj:kE:=top 23
abbrev BW:kE:=top 24
abbrev Dt:kE:=top 25
abbrev Cq:kE:=top 26
abbrev BX:kE:=top 27
abbrev B7:kE:=top 28
abbrev Ed:kE:=top 29
abbrev A4:kE:=top 30
abbrev Fs:kE:=top 31
abbrev B8:kE:=top 33
abbrev Bj:kE:=top 34
abbrev Co:kE:=top 35
abbrev Bn:kE:=top 36
abbrev C0:kE:=top 37
abbrev CI:kE:=top 38
abbrev Cs:kE:=top 39
abbrev CL:kE:=top 40
abbrev BZ:kE:=top 41
abbrev Cm:kE:=top 42
abbrev B3:kE:=top 43
abbrev D2:kE:=top 45
abbrev IF:kE:=top 46
abbrev GX:kE:=top 47
abbrev Eu:kE:=top 48
abbrev GV:kE:=top 49
abbrev Gg:kE:=top 50
abbrev Fw:kE:=top 51
abbrev Gv:kE:=top 52
abbrev CU:kE:=top 54
abbrev Ep:kE:=top 55
abbrev Fq:kE:=top 56
abbrev F0:kE:=top 57
abbrev Fy:kE:=top 58
abbrev Cp:kE:=top 59
abbrev Dd:kE:=top 60
abbrev Fm:kE:=top 61
abbrev Hb:kE:=top 62
abbrev Er:kE:=top 63
abbrev EN:kE:=top 64
abbrev F2:kE:=top 65
abbrev Gu:kE:=top 66
abbrev Gf:kE:=top 67
abbrev HJ:kE:=top 68
abbrev CF:kE:=top 69
abbrev EJ:kE:=top 70
abbrev DU:kE:=top 72
abbrev F1:kE:=top 73
abbrev Dz:kE:=top 74
abbrev II:kE:=top 75
section
variable(P:js)(w:j6)(K:W1)(mg:Str->jO jN)(base:j0)
abbrev Kg:Prop:=St.Dfn P w K mg base "is_whole" 1 ["thing"] (spD K 1 GK)
abbrev Li:Prop:=St.Dfn P w K mg base "is_from" 2 ["thing","low"] (spD K 2 HF)
abbrev FL:Prop:=St.Dfn P w K mg base "is_within" 3 ["thing","low","high"] (spD K 3 DF)
abbrev FC:Prop:=St.Dfn P w K mg base "greatest_divisor" 1 ["one","other"] (spD K 2 CA)
abbrev FQ:Prop:=St.Dfn P w K mg base "lowest" 2 ["top","bottom"] (spD K 2 C8)
abbrev QR:Prop:=St.Dfn P w K mg base "plus" 3 ["one","other"] (spD K 2 Jb)
abbrev Qi:Prop:=St.Dfn P w K mg base "less" 3 ["one","other"] (spD K 2 Jl)
abbrev O3:Prop:=St.Dfn P w K mg base "times" 3 ["one","other"] (spD K 2 Hr)
abbrev PQ:Prop:=St.Dfn P w K mg base "mixed" 3 ["one","weight","other","more"] (spD K 4 Ho)
abbrev EX:Prop:=St.Dfn P w K mg base "has_pieces" 1 ["held","load","pieces"] (spD K 3 BJ)
abbrev Ko:Prop:=St.Dfn P w K mg base "can_pool" 2 ["held","load","other"] (spD K 3 CT)
abbrev Kz:Prop:=St.Dfn P w K mg base "can_swap" 2 ["held","load","given","kind"] (spD K 4 CP)
abbrev Mx:Prop:=St.Dfn P w K mg base "can_do" 3 ["held","done","deed"] (spD K 3 Ay)
abbrev HY:Prop:=St.Dfn P w K mg base "held_without" 1 ["held","load","pieces"] (spD K 3 Bk)
abbrev Fj:Prop:=St.Dfn P w K mg base "held_behind" 2 ["held","deed"] (spD K 2 Ag)
abbrev EK:Prop:=St.Dfn P w K mg base "held_at_first" 1 ["book"] (spD K 1 CH)
abbrev Jy:Prop:=St.Dfn P w K mg base "made_from" 1 ["deed"] (spD K 1 B5)
abbrev Dv:Prop:=St.Dfn P w K mg base "first_wrong" 4 ["book"] (spD K 1 Ae)
abbrev DB:Prop:=St.Dfn P w K mg base "refuse_undone" 5 ["book"] (spD K 1 A9)
abbrev Ip:Prop:=St.Dfn P w K mg base "many_loads" 1 ["book","many"] (spD K 2 GR)
abbrev Kn:Prop:=St.Dfn P w K mg base "is_place" 4 ["book","thing"] (spD K 2 IA)
abbrev DK:Prop:=St.Dfn P w K mg base "refuse_no_number" 4 ["book","many"] (spD K 2 Bs)
abbrev MF:Prop:=St.Dfn P w K mg base "made_by" 6 ["book","place"] (spD K 2 FX)
abbrev Io:Prop:=St.Dfn P w K mg base "all_to_one" 1 ["many","one"] (spD K 2 EZ)
abbrev E5:Prop:=St.Dfn P w K mg base "mixed_shares" 4 ["shares","weight","others","more"] (spD K 4 Ca)
abbrev IK:Prop:=St.Dfn P w K mg base "made_shares" 5 ["held","shares","deed"] (spD K 3 BL)
abbrev HP:Prop:=St.Dfn P w K mg base "worth_of_all" 1 ["train","held","worths"] (spD K 3 Dc)
abbrev Hd:Prop:=St.Dfn P w K mg base "part_thrown" 3 ["train","held","deed"] (spD K 3 D7)
abbrev Ge:Prop:=St.Dfn P w K mg base "thrown_shares" 5 ["train","held","owners","deed","shares"] (spD K 5 DC)
abbrev Hx:Prop:=St.Dfn P w K mg base "sold_shares" 4 ["deed","shares"] (spD K 2 D0)
abbrev ER:Prop:=St.Dfn P w K mg base "shares_behind" 6 ["train","held","owners","deed","shares"] (spD K 5 Ab)
abbrev Gb:Prop:=St.Dfn P w K mg base "owners_behind" 7 ["train","held","owners","deed"] (spD K 4 Am)
abbrev Hf:Prop:=St.Dfn P w K mg base "state_by" 8 ["book","many"] (spD K 2 GN)
abbrev Kk:Prop:=St.Dfn P w K mg base "loads_by" 9 ["book","many"] (spD K 2 Bc)
abbrev J4:Prop:=St.Dfn P w K mg base "_law_cell_at" 1 ["_law_script","_law_k"] (spD K 2 DH)
abbrev Pc:Prop:=St.Dfn P w K mg base "_law_pen" 1 ["_law_cell"] (spD K 1 ID)
abbrev CC:Prop:=St.Dfn P w K mg base "_law_draw" 1 ["_law_pen_here","_law_bound"] (spD K 2 AJ)
abbrev Kw:Prop:=St.Dfn P w K mg base "_law_common" 1 ["_law_one","_law_other"] (spD K 2 GB)
abbrev EU:Prop:=St.Dfn P w K mg base "_law_made" 2 ["_law_top","_law_bottom"] (spD K 2 Bv)
abbrev GZ:Prop:=St.Dfn P w K mg base "_law_plus" 3 ["_law_one","_law_other"] (spD K 2 CJ)
abbrev HH:Prop:=St.Dfn P w K mg base "_law_times" 3 ["_law_one","_law_other"] (spD K 2 A1)
abbrev KD:Prop:=St.Dfn P w K mg base "_law_less" 4 ["_law_one","_law_other"] (spD K 2 Dj)
abbrev JL:Prop:=St.Dfn P w K mg base "_law_whole" 3 ["_law_pen_here","_law_many"] (spD K 2 Dh)
abbrev Hm:Prop:=St.Dfn P w K mg base "_law_pieces" 2 ["_law_pen_here"] (spD K 1 BC)
abbrev Ls:Prop:=St.Dfn P w K mg base "_law_train" 4 ["_law_pen_here"] (spD K 1 G4)
abbrev LN:Prop:=St.Dfn P w K mg base "_law_first" 4 ["_law_pen_here","_law_train_here"] (spD K 2 G6)
abbrev Lf:Prop:=St.Dfn P w K mg base "_law_share" 3 ["_law_pen_here"] (spD K 1 FZ)
abbrev Kr:Prop:=St.Dfn P w K mg base "_law_worths" 2 ["_law_pen_here","_law_many"] (spD K 2 Di)
abbrev JF:Prop:=St.Dfn P w K mg base "_law_begun" 1 ["_law_book_here"] (spD K 1 Fi)
abbrev LQ:Prop:=St.Dfn P w K mg base "_law_there" 1 ["_law_loads","_law_load","_law_pieces_here"] (spD K 3 Cn)
abbrev Oi:Prop:=St.Dfn P w K mg base "_law_can" 2 ["_law_state","_law_deed_here"] (spD K 2 Bo)
abbrev Ks:Prop:=St.Dfn P w K mg base "_law_pooled" 4 ["_law_one","_law_other"] (spD K 2 GI)
abbrev NL:Prop:=St.Dfn P w K mg base "_law_cost" 3 ["_law_train_here","_law_loads","_law_deed_here"] (spD K 3 IL)
abbrev MO:Prop:=St.Dfn P w K mg base "_law_borne" 5 ["_law_shares","_law_part","_law_owners"] (spD K 3 EI)
abbrev NF:Prop:=St.Dfn P w K mg base "_law_sold" 5 ["_law_shares","_law_deed_here"] (spD K 2 FW)
abbrev NY:Prop:=St.Dfn P w K mg base "_law_turn" 6 ["_law_train_here","_law_state","_law_deed_here"] (spD K 3 FV)
abbrev N4:Prop:=St.Dfn P w K mg base "_law_do" 7 ["_law_train_here","_law_state","_law_deed_here"] (spD K 3 Bf)
abbrev NP:Prop:=St.Dfn P w K mg base "_law_deed" 4 ["_law_pen_here","_law_train_here","_law_state"] (spD K 3 ET)
abbrev NH:Prop:=St.Dfn P w K mg base "_law_book" 8 ["_law_pen_here","_law_most"] (spD K 2 C9)
abbrev Ig:Prop:=St.Dfn P w K mg base "_law_odd_deed" 2 ["_law_pen_here","_law_train_here","_law_many"] (spD K 3 Cd)
abbrev Lv:Prop:=St.Dfn P w K mg base "_law_wrong" 8 ["_law_book_here"] (spD K 1 EL)
abbrev Jp:Prop:=St.Dfn P w K mg base "_law_refused" 10 ["_law_book_here"] (spD K 1 B4)
abbrev Gs:Prop:=ZA P w K mg base "refuse_undone" 5 ["book"] (spR K mg 1 C7)
abbrev FI:Prop:=ZA P w K mg base "refuse_no_number" 4 ["book","many"] (spR K mg 2 FG)
abbrev Kv:Prop:=ZA P w K mg base "loads_by" 9 ["book","many"] (spR K mg 2 C3)
end
abbrev EV:kE:=Z3 (top 15) 0
theorem MM:AQ sAt sAt (AI EV):=scM
theorem GW{P:js}{w:j6}{K:W1}{mg:Str->jO jN}{base:j0}(r:XiR K mg "NotDone" "TrailError" "NotDone.__init__" EV):XiF P w K mg base "NotDone":=
 ZO r MM (λf fd F=>F.binds λ_ _ _ _ _ _ us hl=>match us,hl with| [_,_],_=>rfl) λC TE fI D hB cdv A outer s H E=>Qc (Ue (Vy D hB rfl rfl (.inl rfl) (.inl rfl) (by decide) (by decide) (by decide) rfl)) (Pw (eZ D rfl (.inl rfl) (.inl rfl) rfl))
structure Bts(mg:Str->jO jN):Prop where
 abs:mg "abs"=none
 bool:mg "bool"=none
 enumerate:mg "enumerate"=none
 int:mg "int"=none
 isi:mg "isinstance"=none
 len:mg "len"=none
 list:mg "list"=none
 max:mg "max"=none
 min:mg "min"=none
 range:mg "range"=none
 sorted:mg "sorted"=none
 sum:mg "sum"=none
 tuple:mg "tuple"=none
 zip:mg "zip"=none
end
section
open PyProof.Rows (boot_isinstance boot_int boot_bool boot_tuple boot_str boot_list boot_abs boot_all boot_any boot_sum boot_max boot_min boot_range boot_enumerate boot_zip boot_sorted boot_set boot_divmod)
variable{P:js}{w:j6}{K:W1}{mg:Str->jO jN}{base:j0}
theorem Nn:AQ ["thing"] ["thing"] (AI Eh):=scM
theorem Ez  (S:St.Src K mg "is_whole" Eh)(B:Bts mg):Kg P w K mg base:=by
 refine dfM 0 S Nn λhr hu=>?_
 exact(AK (AV (HR (Aq Oa rfl B.isi uQ (AA (AB 0) (AA (Zq rfl B.int tV) AE))) (HX (ZX (Aq Oa rfl B.isi uQ (AA (AB 0) (AA (Zq rfl B.bool boot_bool) AE))))))))
theorem PZ:AQ ["thing","low"] ["thing","low"] (AI F5):=scM
theorem Fo  (S:St.Src K mg "is_from" F5)(Ez:Kg P w K mg base):Li P w K mg base:=by
 refine dfM 1 S PZ λhr hu=>?_
 exact(AK (AV (HR (deM Ez hr (AA (AB 0) AE)) (HX (FD Q6 (AB 0) (AB 1))))))
theorem Ma:AQ ["thing","low","high"] ["thing","low","high"] (AI D8):=scM
theorem BO  (S:St.Src K mg "is_within" D8)(Fo:Li P w K mg base):FL P w K mg base:=by
 refine dfM 2 S Ma λhr hu=>?_
 exact(AK (AV (HR (deM Fo hr (AA (AB 0) (AA (AB 1) AE))) (HX (FD Ze (AB 0) (AB 2))))))
theorem Cv:AQ ["one","other"] ["one","other"] (AI Br):=scM
theorem Bt  (S:St.Src K mg "greatest_divisor" Br)(B:Bts mg):FC P w K mg base:=by
 refine dfM 0 S Cv λhr hu=>?_
 exact(AH (Ki (i:=0) (j:=1) rfl Cv.nd rfl rfl (by decide) rfl rfl (Aq Lg rfl B.abs xl (AA (AB 0) AE)) (Aq Lg rfl B.abs xl (AA (AB 1) AE)))
      (AH (Qg (RN 1) ki (Ac (Jc hu) (AB 1) AG) (AK (Ki (i:=0) (j:=1) rfl Cv.nd rfl rfl (by decide) rfl rfl (AB 1) (AY GS (AB 0) (AB 1)))))
      (AK (AV (AB 0)))))
theorem MQ:AQ ["top","bottom","divisor"] ["top","bottom"] (AI Gm):=scM
theorem BE  (S:St.Src K mg "lowest" Gm)(Bt:FC P w K mg base):FQ P w K mg base:=by
 refine dfM 1 S MQ λhr hu=>?_
 exact(AH (Ah 2 (deM Bt hr (AA (AB 0) (AA (AB 1) AE))) MQ.nd)
      (AK (AV (Ar (AA (AY HB (AB 0) (AB 2)) (AA (AY HB (AB 1) (AB 2)) AE))))))
theorem UB:AQ ["one","other"] ["one","other"] (AI Jk):=scM
theorem Jf  (S:St.Src K mg "plus" Jk)(BE:FQ P w K mg base):QR P w K mg base:=by
 refine dfM 2 S UB λhr hu=>?_
 exact(AK (AV (deM BE hr (AA (AY Aa (AY Ao (AL AW (AB 0) AG) (AL AW (AB 1) AG)) (AY Ao (AL AW (AB 1) AG) (AL AW (AB 0) AG))) (AA (AY Ao (AL AW (AB 0) AG) (AL AW (AB 1) AG)) AE)))))
end
section
open PyProof.Rows (boot_isinstance boot_int boot_bool boot_tuple boot_str boot_list boot_abs boot_all boot_any boot_sum boot_max boot_min boot_range boot_enumerate boot_zip boot_sorted boot_set boot_divmod)
variable{P:js}{w:j6}{K:W1}{mg:Str->jO jN}{base:j0}
theorem TK:AQ ["one","other"] ["one","other"] (AI Jq):=scM
theorem Jj  (S:St.Src K mg "less" Jq)(BE:FQ P w K mg base):Qi P w K mg base:=by
 refine dfM 2 S TK λhr hu=>?_
 exact(AK (AV (deM BE hr (AA (AY GU (AY Ao (AL AW (AB 0) AG) (AL AW (AB 1) AG)) (AY Ao (AL AW (AB 1) AG) (AL AW (AB 0) AG))) (AA (AY Ao (AL AW (AB 0) AG) (AL AW (AB 1) AG)) AE)))))
theorem Rb:AQ ["one","other"] ["one","other"] (AI Hi):=scM
theorem Hy  (S:St.Src K mg "times" Hi)(BE:FQ P w K mg base):O3 P w K mg base:=by
 refine dfM 2 S Rb λhr hu=>?_
 exact(AK (AV (deM BE hr (AA (AY Ao (AL AW (AB 0) AG) (AL AW (AB 1) AG)) (AA (AY Ao (AL AW (AB 0) AG) (AL AW (AB 1) AG)) AE)))))
theorem NK:AQ ["one","weight","other","more","top"] ["one","weight","other","more"] (AI IG):=scM
theorem Ht  (S:St.Src K mg "mixed" IG)(BE:FQ P w K mg base):PQ P w K mg base:=by
 refine dfM 2 S NK λhr hu=>?_
 exact(AH (Ah 4 (AY Aa (AY Ao (AY Ao (AL AW (AB 0) AG) (AL AW (AB 2) AG)) (AB 1)) (AY Ao (AY Ao (AL AW (AB 2) AG) (AL AW (AB 0) AG)) (AB 3))) NK.nd)
      (AK (AV (deM BE hr (AA (AB 4) (AA (AY Ao (AY Ao (AL AW (AB 0) AG) (AL AW (AB 2) AG)) (AY Aa (AB 1) (AB 3))) AE))))))
theorem Lj:AQ ["held","load","pieces"] ["held","load","pieces"] (AI DO):=scM
theorem A3  (S:St.Src K mg "has_pieces" DO)(B:Bts mg):EX P w K mg base:=by
 refine dfM 0 S Lj λhr hu=>?_
 exact(AK (AV (HR (FD Ke (AB 1) (Aq BU rfl B.len lX (AA (AB 0) AE))) (HX (FD Q6 (AL AW (AL AW (AB 0) (AB 1)) AG) (AB 2))))))
theorem N8:AQ ["held","load","other"] ["held","load","other"] (AI Eb):=scM
theorem Es  (S:St.Src K mg "can_pool" Eb)(A3:EX P w K mg base):Ko P w K mg base:=by
 refine dfM 1 S N8 λhr hu=>?_
 exact(AK (AV (HR (deM A3 hr (AA (AB 0) (AA (AB 1) (AA AG AE)))) (HR (deM A3 hr (AA (AB 0) (AA (AB 2) (AA AG AE)))) (HX (FD (Bq hu) (AL AW (AL AW (AB 0) (AB 1)) AG) (AL AW (AL AW (AB 0) (AB 2)) AG)))))))
theorem OH:AQ ["held","load","given","kind"] ["held","load","given","kind"] (AI Ea):=scM
theorem Dm  (S:St.Src K mg "can_swap" Ea)(A3:EX P w K mg base):Kz P w K mg base:=by
 refine dfM 1 S OH λhr hu=>?_
 exact(AK (AV (HR (deM A3 hr (AA (AB 0) (AA (AB 1) (AA (AB 2) AE)))) (HX (FD (Jc hu) (AL AW (AL AW (AB 0) (AB 1)) AG) (AB 3))))))
end
section
open PyProof.Rows (boot_isinstance boot_int boot_bool boot_tuple boot_str boot_list boot_abs boot_all boot_any boot_sum boot_max boot_min boot_range boot_enumerate boot_zip boot_sorted boot_set boot_divmod)
variable{P:js}{w:j6}{K:W1}{mg:Str->jO jN}{base:j0}
theorem JC:AQ ["held","done","deed","word","numbers"] ["held","done","deed"] (AI EO):=scM
theorem Nt:Aj ["held","done","deed","word","numbers"] (AI EO) ["other"] (ixC [] 1) (NR EO 0):=csM
theorem Ny:(["other"]:Wp Str).Nodup:=by decide+kernel
theorem Gj  (S:St.Src K mg "can_do" EO)(A3:EX P w K mg base)(Es:Ko P w K mg base)(Dm:Kz P w K mg base):Mx P w K mg base:=by
 refine dfM 2 S JC λhr hu=>?_
 exact(AH (Ah 3 (AL AW (AB 2) AG) JC.nd)
      (AH (Bz (Ac (Bq hu) (AB 3) Aw) (AK (AV (deM Es hr (AA (AB 0) (AA (AL AW (AB 2) AG) (AA (AL AW (AB 2) AG) AE)))))) Ap)
      (AH (Bz (Ac (Bq hu) (AB 3) Aw) (AK (AV (deM Dm hr (AA (AB 0) (AA (AL AW (AB 2) AG) (AA (AL AW (AB 2) AG) (AA (AL AW (AB 2) AG) AE))))))) Ap)
      (AH (Bz (Ac (Bq hu) (AB 3) Aw) (AH (FU [] 1 ["other"] rfl JC.nd rfl rfl Nt (Fc (AB 1)) (λs H fp=>⟨Af 0 Ny,Iw (Ac (Bq hu) (AL AW (AB 0) AG) Aw),AL AW (AB 0) AG⟩))
      (AK (AV (HR (FD LY (AL AW (AB 2) AG) (AB 4)) (HX (deM Dm hr (AA (AB 0) (AA (AL AW (AB 2) AG) (AA (AL AW (AB 2) AG) (AA (AL AW (AB 2) AG) AE)))))))))) Ap)
      (AH (Bz (Ac Ir (AB 3) (Ar (AA Aw (AA Aw AE)))) (AK (AV (deM A3 hr (AA (AB 0) (AA (AL AW (AB 2) AG) (AA (AL AW (AB 2) AG) AE)))))) Ap)
      (AK (AV Ri)))))))
theorem EE:AQ ["held","load","pieces","kind","there"] ["held","load","pieces"] (AI Cb):=scM
theorem BP  (S:St.Src K mg "held_without" Cb):HY P w K mg base:=by
 refine dfM 0 S EE λhr hu=>?_
 exact(AH (FA (AL AW (AB 0) (AB 1)) (Eg rfl (AO (Af 3 EE.nd) (AO (Af 4 EE.nd) Bb))))
      (AK (AV (AY Aa (AY Aa (JP (AB 0) (AB 1)) (Bw (AA (Ar (AA (AB 3) (AA (AY GU (AB 4) (AB 2)) AE))) AE))) (Hl (AB 0) (AY Aa (AB 1) AG))))))
theorem A8:AQ ["held","deed","word","kind","pieces","more","load","given","got"] ["held","deed"] (AI Cj):=scM
theorem Be  (S:St.Src K mg "held_behind" Cj)(BP:HY P w K mg base):Fj P w K mg base:=by
 refine dfM 1 S A8 λhr hu=>?_
 exact(AH (Ah 2 (AL AW (AB 1) AG) A8.nd)
      (AH (Bz (Ac (Bq hu) (AB 2) Aw) (AK (AV (AY Aa (AB 0) (Bw (AA (Ar (AA (AL AW (AB 1) AG) (AA (AL AW (AB 1) AG) AE))) AE))))) Ap)
      (AH (Bz (Ac (Bq hu) (AB 2) Aw) (AH (FA (AL AW (AB 0) (AL AW (AB 1) AG)) (Eg rfl (AO (Af 3 A8.nd) (AO (Af 4 A8.nd) Bb))))
      (AH (Ah 5 (AL AW (AL AW (AB 0) (AL AW (AB 1) AG)) AG) A8.nd)
      (AK (AV (AY Aa (deM BP hr (AA (deM BP hr (AA (AB 0) (AA (AL AW (AB 1) AG) (AA (AB 4) AE)))) (AA (AL AW (AB 1) AG) (AA (AB 5) AE)))) (Bw (AA (Ar (AA (AB 3) (AA (AY Aa (AB 4) (AB 5)) AE))) AE))))))) Ap)
      (AH (Bz (Ac Ir (AB 2) (Ar (AA Aw (AA Aw AE)))) (AH (FA (Hl (AB 1) (Pp JJ AG)) (Eg rfl (AO (Af 6 A8.nd) (AO (Af 7 A8.nd) (AO (Af 3 A8.nd) (AO (Af 8 A8.nd) Bb))))))
      (AK (AV (AY Aa (deM BP hr (AA (AB 0) (AA (AB 6) (AA (AB 7) AE)))) (Bw (AA (Ar (AA (AB 3) (AA (AB 8) AE))) AE)))))) Ap)
      (AH (Bz (Ac Ir (AB 2) (Ar (AA Aw (AA Aw AE)))) (AK (AV (deM BP hr (AA (AB 0) (AA (AL AW (AB 1) AG) (AA (AL AW (AB 1) AG) AE)))))) Ap)
      (AK (AV (AB 0))))))))
theorem Jx:AQ ["book"] ["book"] (AI BW):=scM
theorem Ia:Aj ["book"] (AI BW) ["load"] (ixC [] 1) (NR BW 0):=csM
theorem IY:(["load"]:Wp Str).Nodup:=by decide+kernel
theorem BA  (S:St.Src K mg "held_at_first" BW):EK P w K mg base:=by
 refine dfM 0 S Jx λhr hu=>?_
 exact(AK (AV (D9 [] 1 ["load"] rfl Ia (Fc (AL AW (AB 0) AG)) (λs H fp=>⟨Af 0 IY,EM,Ar (AA (AL AW (AB 0) AG) (AA (AL AW (AB 0) AG) AE))⟩))))
theorem Ie:AQ ["deed","word"] ["deed"] (AI Dt):=scM
theorem D6  (S:St.Src K mg "made_from" Dt)(B:Bts mg):Jy P w K mg base:=by
 refine dfM 0 S Ie λhr hu=>?_
 exact(AH (Ah 1 (AL AW (AB 0) AG) Ie.nd)
      (AH (Bz (Ac (Bq hu) (AB 1) Aw) (AK (AV (Aq Oo rfl B.sorted boot_sorted (AA (Bw (AA (AL AW (AB 0) AG) (AA (AL AW (AB 0) AG) AE))) AE)))) Ap)
      (AH (Bz (Ac Ir (AB 1) (Ar (AA Aw (AA Aw AE)))) (AK (AV (Bw (AA (AL AW (AB 0) (Pp JJ AG)) AE)))) Ap)
      (AK (AV (Bw AE))))))
theorem B0:AQ ["book","held","deeds","at","deed"] ["book"] (AI Cq):=scM
theorem Ak  (S:St.Src K mg "first_wrong" Cq)(B:Bts mg)(Gj:Mx P w K mg base)(Be:Fj P w K mg base)(BA:EK P w K mg base):Dv P w K mg base:=by
 refine dfM 3 S B0 λhr hu=>?_
 exact(AH (Ah 1 (deM BA hr (AA (AB 0) AE)) B0.nd)
      (AH (Ah 2 (AL AW (AB 0) AG) B0.nd)
      (AH (He ki rfl (Tz rfl B.enumerate (AB 2)) (Eg rfl (AO (Af 3 B0.nd) (AO (Af 4 B0.nd) Bb))) (AH (Bz (Ox (O5 (deM Gj hr (AA (AB 1) (AA (JP (AB 2) (AB 3)) (AA (AB 4) AE)))))) (AK (AV (AB 3))) Ap)
      (AK (Ah 1 (deM Be hr (AA (AB 1) (AA (AB 4) AE))) B0.nd))))
      (AK (AV Il)))))
end
section
open PyProof.Rows (boot_isinstance boot_int boot_bool boot_tuple boot_str boot_list boot_abs boot_all boot_any boot_sum boot_max boot_min boot_range boot_enumerate boot_zip boot_sorted boot_set boot_divmod)
variable{P:js}{w:j6}{K:W1}{mg:Str->jO jN}{base:j0}
theorem Cg:AQ ["book","wrong"] ["book"] (AI BX):=scM
theorem CD  (S:St.Src K mg "refuse_undone" BX)(Ak:Dv P w K mg base)(GW:XiF P w K mg base "NotDone"):Gs P w K mg base:=by
 refine P8 (k:=4) S Cg rfl (λf fd F=>F.binds λ_ _ _ _ _ _ us hl=>match us,hl with| [_],_=>rfl) λf cdv A outer s H E hr=>?_
 have hu:=MJ hr
 exact(Nb cS (Ah 1 (deM Ak hr (AA (AB 0) AE)) Cg.nd)
      (ME (aQ (Ac IS (AB 1) Il) (ME (SU rfl GW rfl (hr.mono (by decide)) (AB 1))) UY)))
theorem An  (S:St.Src K mg "refuse_undone" BX)(Ak:Dv P w K mg base):DB P w K mg base:=by
 refine dfM 4 S Cg λhr hu=>?_
 exact(AH (Ah 1 (deM Ak hr (AA (AB 0) AE)) Cg.nd)
      (AK (Bz (Ac IS (AB 1) Il) (AK Nx) Ap)))
theorem Lb:AQ ["book","many"] ["book","many"] (AI B7):=scM
theorem KQ:Aj ["book","many"] (AI B7) ["deed"] (ixC [] 1) (NR B7 0):=csM
theorem KW:(["deed"]:Wp Str).Nodup:=by decide+kernel
theorem DR  (S:St.Src K mg "many_loads" B7)(B:Bts mg)(DA:RX K mg "MAKERS" B2):Ip P w K mg base:=by
 refine dfM 0 S Lb λhr hu=>?_
 exact(AK (AV (AY Aa (Aq BU rfl B.len lX (AA (AL AW (AB 0) AG) AE)) (Aq BU rfl B.len lX (AA (D9 [] 1 ["deed"] rfl KQ (Fc (JP (AL AW (AB 0) AG) (AB 1))) (λs H fp=>⟨Af 0 KW,Iw (Ac Ir (AL AW (AB 0) AG) (MA DA rfl)),AB 0⟩)) AE)))))
theorem OE:AQ ["book","thing"] ["book","thing"] (AI Ed):=scM
theorem Ew  (S:St.Src K mg "is_place" Ed)(B:Bts mg)(BO:FL P w K mg base):Kn P w K mg base:=by
 refine dfM 3 S OE λhr hu=>?_
 exact(AK (AV (deM BO hr (AA (AB 1) (AA AG (AA (AY GU (Aq BU rfl B.len lX (AA (AL AW (AB 0) AG) AE)) AG) AE))))))
theorem Eo:AQ ["book","many"] ["book","many"] (AI A4):=scM
theorem Bp  (S:St.Src K mg "refuse_no_number" A4)(B:Bts mg)(BO:FL P w K mg base)(EH:XcD K mg "NoNumber"):FI P w K mg base:=by
 refine P8 (k:=3) S Eo rfl (λf fd F=>F.binds λ_ _ _ _ _ _ us hl=>match us,hl with| [_,_],_=>rfl) λf cdv A outer s H E hr=>?_
 have hu:=MJ hr
 exact(ME (aQ (Ox (O5 (deM BO hr (AA (AB 1) (AA AG (AA (Aq BU rfl B.len lX (AA (AL AW (AB 0) AG) AE)) AE)))))) (ME (VP rfl EH rfl (AA Aw AE))) UY))
theorem Au  (S:St.Src K mg "refuse_no_number" A4)(B:Bts mg)(BO:FL P w K mg base):DK P w K mg base:=by
 refine dfM 3 S Eo λhr hu=>?_
 exact(AK (Bz (Ox (O5 (deM BO hr (AA (AB 1) (AA AG (AA (Aq BU rfl B.len lX (AA (AL AW (AB 0) AG) AE)) AE)))))) (AK Nx) Ap))
theorem PH:AQ ["book","place"] ["book","place"] (AI Fs):=scM
theorem Ft  (S:St.Src K mg "made_by" Fs)(DA:RX K mg "MAKERS" B2)(An:DB P w K mg base)(DR:Ip P w K mg base)(Ew:Kn P w K mg base):MF P w K mg base:=by
 refine dfM 5 S PH λhr hu=>?_
 exact(AH (Ck (deM An hr (AA (AB 0) AE)))
      (AH (Bz (Ox (O5 (deM Ew hr (AA (AB 0) (AA (AB 1) AE))))) (AK Nx) Ap)
      (AH (Bz (Ac LY (AL AW (AL AW (AL AW (AB 0) AG) (AB 1)) AG) (MA DA rfl)) (AK (AV Il)) Ap)
      (AK (AV (deM DR hr (AA (AB 0) (AA (AB 1) AE))))))))
theorem Lq:AQ ["many","one"] ["many","one"] (AI B8):=scM
theorem KH:Aj ["many","one"] (AI B8) ["one","at"] (ixC [1] 1) (NR B8 0):=csM
theorem Ka:(["one","at"]:Wp Str).Nodup:=by decide+kernel
theorem DN  (S:St.Src K mg "all_to_one" B8)(B:Bts mg)(QB:RX K mg "ALL" UC)(Fg:RX K mg "NOTHING" Hw):Io P w K mg base:=by
 refine dfM 0 S Lq λhr hu=>?_
 exact(AK (AV (BM Bm rfl B.tuple mK (AA (D9 [1] 1 ["one","at"] rfl KH (HE rfl B.range (AA (AB 0) AE)) (λs H fp=>⟨Af 1 Ka,EM,cj (Ac (Bq hu) (AB 1) (AB 0)) (MA QB rfl) (MA Fg rfl)⟩)) AE))))
end
section
open PyProof.Rows (boot_isinstance boot_int boot_bool boot_tuple boot_str boot_list boot_abs boot_all boot_any boot_sum boot_max boot_min boot_range boot_enumerate boot_zip boot_sorted boot_set boot_divmod)
variable{P:js}{w:j6}{K:W1}{mg:Str->jO jN}{base:j0}
theorem KS:AQ ["shares","weight","others","more"] ["shares","weight","others","more"] (AI Bj):=scM
theorem JI:Aj ["shares","weight","others","more"] (AI Bj) ["weight","more","share","other"] (ixC [1,3] 2) (NR Bj 0):=csM
theorem Ff:(["weight","more","share","other"]:Wp Str).Nodup:=by decide+kernel
theorem BQ  (S:St.Src K mg "mixed_shares" Bj)(B:Bts mg)(Ht:PQ P w K mg base):E5 P w K mg base:=by
 refine dfM 3 S KS λhr hu=>?_
 exact(AK (AV (BM Bm rfl B.tuple mK (AA (D9 [1,3] 2 ["weight","more","share","other"] rfl JI (QV rfl B.zip (AB 0) (AB 2)) (λs H fp=>⟨Eg rfl (AO (Af 2 Ff) (AO (Af 3 Ff) Bb)),EM,deM Ht hr (AA (AB 2) (AA (AB 0) (AA (AB 3) (AA (AB 1) AE))))⟩)) AE))))
theorem DY:AQ ["held","shares","deed","sources","load","other"] ["held","shares","deed"] (AI Co):=scM
theorem Cu  (S:St.Src K mg "made_shares" Co)(B:Bts mg)(D6:Jy P w K mg base)(BQ:E5 P w K mg base):IK P w K mg base:=by
 refine dfM 4 S DY λhr hu=>?_
 exact(AH (Ah 3 (deM D6 hr (AA (AB 2) AE)) DY.nd)
      (AH (Bz (Ac (Bq hu) (Aq BU rfl B.len lX (AA (AB 3) AE)) AG) (AK (AV (AL AW (AB 1) (AL AW (AB 3) AG)))) Ap)
      (AH (FA (AB 3) (Eg rfl (AO (Af 4 DY.nd) (AO (Af 5 DY.nd) Bb))))
      (AK (AV (deM BQ hr (AA (AL AW (AB 1) (AB 4)) (AA (AL AW (AL AW (AB 0) (AB 4)) AG) (AA (AL AW (AB 1) (AB 5)) (AA (AL AW (AL AW (AB 0) (AB 5)) AG) AE))))))))))
theorem KG:AQ ["train","held","worths"] ["train","held","worths"] (AI Bn):=scM
theorem JM:Aj ["train","held","worths"] (AI Bn) ["worths","kind","pieces"] (ixC [2] 2) (NR Bn 0):=csM
theorem Fe:(["worths","kind","pieces"]:Wp Str).Nodup:=by decide+kernel
theorem Cc  (S:St.Src K mg "worth_of_all" Bn)(B:Bts mg):HP P w K mg base:=by
 refine dfM 0 S KG λhr hu=>?_
 exact(AK (AV (AY Aa (Aq (Jh rfl) rfl B.sum ux (AA (D9 [2] 2 ["worths","kind","pieces"] rfl JM (Fc (AB 1)) (λs H fp=>⟨Eg rfl (AO (Af 1 Fe) (AO (Af 2 Fe) Bb)),EM,AY Ao (AB 2) (AL AW (AB 0) (AB 1))⟩)) AE)) (AY Ao (AL AW (AB 0) AG) (AL AW (AB 2) (Pp JJ AG))))))
theorem DX:AQ ["train","held","deed","load","pieces","worths"] ["train","held","deed"] (AI C0):=scM
theorem Cy  (S:St.Src K mg "part_thrown" C0)(BE:FQ P w K mg base)(Cc:HP P w K mg base):Hd P w K mg base:=by
 refine dfM 2 S DX λhr hu=>?_
 exact(AH (FA (Hl (AB 2) AG) (Eg rfl (AO (Af 3 DX.nd) (AO (Af 4 DX.nd) (AO (Af 5 DX.nd) Bb)))))
      (AK (AV (deM BE hr (AA (AY Ao (AB 4) (AL AW (AB 5) (AL AW (AL AW (AB 1) (AB 3)) AG))) (AA (deM Cc hr (AA (AB 0) (AA (AB 1) (AA (AB 5) AE)))) AE))))))
theorem Dr:AQ ["train","held","owners","deed","shares","top","bottom"] ["train","held","owners","deed","shares"] (AI CI):=scM
theorem CO  (S:St.Src K mg "thrown_shares" CI)(BQ:E5 P w K mg base)(Cy:Hd P w K mg base):Ge P w K mg base:=by
 refine dfM 4 S Dr λhr hu=>?_
 exact(AH (FA (deM Cy hr (AA (AB 0) (AA (AB 1) (AA (AB 3) AE)))) (Eg rfl (AO (Af 5 Dr.nd) (AO (Af 6 Dr.nd) Bb))))
      (AK (AV (deM BQ hr (AA (AB 4) (AA (AY GU (AB 6) (AB 5)) (AA (AL AW (AB 2) (AL AW (AB 3) AG)) (AA (AB 5) AE))))))))
theorem B1:AQ ["deed","shares","partner","other","sold","passed","changed"] ["deed","shares"] (AI Cs):=scM
theorem Ci  (S:St.Src K mg "sold_shares" Cs)(B:Bts mg)(Jf:QR P w K mg base)(Jj:Qi P w K mg base)(Hy:O3 P w K mg base):Hx P w K mg base:=by
 refine dfM 3 S B1 λhr hu=>?_
 exact(AH (FA (Hl (AB 0) AG) (Eg rfl (AO (Af 2 B1.nd) (AO (Af 3 B1.nd) (AO (Af 4 B1.nd) Bb)))))
      (AH (Ah 5 (deM Hy hr (AA (AL AW (AB 1) (AB 2)) (AA (AB 4) AE))) B1.nd)
      (AH (Ah 6 (BM J5 rfl B.list vv (AA (AB 1) AE)) B1.nd)
      (AH (CB (deM Jj hr (AA (AL AW (AB 1) (AB 2)) (AA (AB 5) AE))) (AB 6) (AB 2))
      (AH (CB (deM Jf hr (AA (AL AW (AB 1) (AB 3)) (AA (AB 5) AE))) (AB 6) (AB 3))
      (AK (AV (BM Bm rfl B.tuple mK (AA (AB 6) AE)))))))))
end
section
open PyProof.Rows (boot_isinstance boot_int boot_bool boot_tuple boot_str boot_list boot_abs boot_all boot_any boot_sum boot_max boot_min boot_range boot_enumerate boot_zip boot_sorted boot_set boot_divmod)
variable{P:js}{w:j6}{K:W1}{mg:Str->jO jN}{base:j0}
theorem Je:AQ ["train","held","owners","deed","shares"] ["train","held","owners","deed","shares"] (AI CL):=scM
theorem BB  (S:St.Src K mg "shares_behind" CL)(CO:Ge P w K mg base)(Ci:Hx P w K mg base):ER P w K mg base:=by
 refine dfM 5 S Je λhr hu=>?_
 exact(AH (Bz (Ac (Bq hu) (AL AW (AB 3) AG) Aw) (AK (AV (deM CO hr (AA (AB 0) (AA (AB 1) (AA (AB 2) (AA (AB 3) (AA (AB 4) AE)))))))) Ap)
      (AH (Bz (Ac (Bq hu) (AL AW (AB 3) AG) Aw) (AK (AV (deM Ci hr (AA (AB 3) (AA (AB 4) AE))))) Ap)
      (AK (AV (AB 4)))))
theorem GF:AQ ["train","held","owners","deed","behind"] ["train","held","owners","deed"] (AI BZ):=scM
theorem Ib:Aj ["train","held","owners","deed","behind"] (AI BZ) ["train","held","owners","deed","shares"] (ixC [0,1,2,3] 1) (NR BZ 0):=csM
theorem IX:(["train","held","owners","deed","shares"]:Wp Str).Nodup:=by decide+kernel
theorem CG  (S:St.Src K mg "owners_behind" BZ)(DA:RX K mg "MAKERS" B2)(DN:Io P w K mg base)(Cu:IK P w K mg base)(BB:ER P w K mg base):Gb P w K mg base:=by
 refine dfM 6 S GF λhr hu=>?_
 exact(AH (FU [0,1,2,3] 1 ["train","held","owners","deed","shares"] rfl GF.nd rfl rfl Ib (Fc (AB 2)) (λs H fp=>⟨Af 4 IX,EM,deM BB hr (AA (AB 0) (AA (AB 1) (AA (AB 2) (AA (AB 3) (AA (AB 4) AE)))))⟩))
      (AH (Bz (Ac (Bq hu) (AL AW (AB 3) AG) Aw) (AK (AV (AY Aa (AB 4) (Bw (AA (deM DN hr (AA (AL AW (AB 0) AG) (AA (AL AW (AB 3) AG) AE))) AE))))) Ap)
      (AH (Bz (Ac Ir (AL AW (AB 3) AG) (MA DA rfl)) (AK (AV (AY Aa (AB 4) (Bw (AA (deM Cu hr (AA (AB 1) (AA (AB 2) (AA (AB 3) AE)))) AE))))) Ap)
      (AK (AV (AB 4))))))
theorem BN:AQ ["book","many","train","first","deeds","held","owners","holders","deed"] ["book","many"] (AI Cm):=scM
theorem L6:Aj ["book","many","train","first","deeds","held","owners","holders","deed"] (AI Cm) ["load"] (ixC [] 1) (NR Cm 0):=csM
theorem Lr:(["load"]:Wp Str).Nodup:=by decide+kernel
theorem Cz  (S:St.Src K mg "state_by" Cm)(Be:Fj P w K mg base)(BA:EK P w K mg base)(BB:ER P w K mg base)(CG:Gb P w K mg base):Hf P w K mg base:=by
 refine dfM 7 S BN λhr hu=>?_
 exact(AH (FA (AB 0) (Eg rfl (AO (Af 2 BN.nd) (AO (Af 3 BN.nd) (AO (Af 4 BN.nd) Bb)))))
      (AH (Ah 5 (deM BA hr (AA (AB 0) AE)) BN.nd)
      (AH (FU [] 1 ["load"] rfl BN.nd rfl rfl L6 (Fc (AB 3)) (λs H fp=>⟨Af 0 Lr,EM,AL AW (AB 0) AG⟩))
      (AH (Ah 7 (AL AW (AB 2) AG) BN.nd)
      (AH (He ki rfl (Fc (JP (AB 4) (AB 1))) (Af 8 BN.nd) (AH (Ah 7 (deM BB hr (AA (AB 2) (AA (AB 5) (AA (AB 6) (AA (AB 8) (AA (AB 7) AE)))))) BN.nd)
      (AH (Ah 6 (deM CG hr (AA (AB 2) (AA (AB 5) (AA (AB 6) (AA (AB 8) AE))))) BN.nd)
      (AK (Ah 5 (deM Be hr (AA (AB 5) (AA (AB 8) AE))) BN.nd)))))
      (AK (AV (Ar (AA (AB 5) (AA (AB 6) (AA (AB 7) AE)))))))))))
theorem Dx:AQ ["book","many","held","owners","holders"] ["book","many"] (AI B3):=scM
theorem Lx:Aj ["book","many","held","owners","holders"] (AI B3) ["shares","kind","pieces"] (ixC [] 3) (NR B3 0):=csM
theorem Fh:(["shares","kind","pieces"]:Wp Str).Nodup:=by decide+kernel
theorem Em  (S:St.Src K mg "loads_by" B3)(B:Bts mg)(An:DB P w K mg base)(Au:DK P w K mg base)(Cz:Hf P w K mg base)(CD:Gs P w K mg base)(Bp:FI P w K mg base):Kv P w K mg base:=by
 refine P8 (k:=8) S Dx rfl (λf fd F=>F.binds λ_ _ _ _ _ _ us hl=>match us,hl with| [_,_],_=>rfl) λf cdv A outer s H E hr=>?_
 have hu:=MJ hr
 exact(Nb (P4 (Pr CD (hr.mono (by decide)) rfl (AA (AB 0) AE))) (Ck (deM An hr (AA (AB 0) AE)))
      (Nb (P4 (Pr Bp (hr.mono (by decide)) rfl (AA (AB 0) (AA (AB 1) AE)))) (Ck (deM Au hr (AA (AB 0) (AA (AB 1) AE))))
      UY))
theorem El  (S:St.Src K mg "loads_by" B3)(B:Bts mg)(An:DB P w K mg base)(Au:DK P w K mg base)(Cz:Hf P w K mg base):Kk P w K mg base:=by
 refine dfM 8 S Dx λhr hu=>?_
 exact(AH (Ck (deM An hr (AA (AB 0) AE)))
      (AH (Ck (deM Au hr (AA (AB 0) (AA (AB 1) AE))))
      (AH (FA (deM Cz hr (AA (AB 0) (AA (AB 1) AE))) (Eg rfl (AO (Af 2 Dx.nd) (AO (Af 3 Dx.nd) (AO (Af 4 Dx.nd) Bb)))))
      (AK (AV (D9 [] 3 ["shares","kind","pieces"] rfl Lx (QV rfl B.zip (AB 2) (AB 3)) (λs H fp=>⟨Eg rfl (AO (Eg rfl (AO (Af 1 Fh) (AO (Af 2 Fh) Bb))) (AO (Af 0 Fh) Bb)),EM,Ar (AA (AB 1) (AA (AB 2) (AA (AB 0) AE)))⟩)))))))
theorem Mg:AQ ["_law_script","_law_k"] ["_law_script","_law_k"] (AI D2):=scM
theorem D5  (S:St.Src K mg "_law_cell_at" D2)(B:Bts mg):J4 P w K mg base:=by
 refine dfM 0 S Mg λhr hu=>?_
 exact(AH (Bz (Ac Ke (AB 1) (Aq BU rfl B.len lX (AA (AB 0) AE))) (AK (AV (AL AW (AB 0) (AB 1)))) Ap)
      (AK (AV AG)))
theorem Ra:AQ ["_law_cell"] ["_law_cell"] (AI IF):=scM
theorem Hk  (S:St.Src K mg "_law_pen" IF)(B:Bts mg):Pc P w K mg base:=by
 refine dfM 0 S Ra λhr hu=>?_
 exact(AK (AV (Bw (AA (AB 0) (AA (BM Jv rfl B.int tV (AA (FD Q6 (AB 0) (AY Pm AG AG)) AE)) (AA AG (AA (AY GS (AB 0) AG) AE)))))))
end
section
open PyProof.Rows (boot_isinstance boot_int boot_bool boot_tuple boot_str boot_list boot_abs boot_all boot_any boot_sum boot_max boot_min boot_range boot_enumerate boot_zip boot_sorted boot_set boot_divmod)
variable{P:js}{w:j6}{K:W1}{mg:Str->jO jN}{base:j0}
theorem Gz:AQ ["_law_pen_here","_law_bound","_law_found","_law_stir"] ["_law_pen_here","_law_bound"] (AI GX):=scM
theorem AN  (S:St.Src K mg "_law_draw" GX):CC P w K mg base:=by
 refine dfM 0 S Gz λhr hu=>?_
 exact(AH (Bz (DW.dt (LX (Ac (Bq hu) (AL AW (AB 0) AG) AG) (Iy (Ac PN (AL AW (AB 0) AG) AG)))) (AH (Ah 2 (AY GS (AL AW (AB 0) AG) (AB 1)) Gz.nd)
      (AH (CB (AY HB (AL AW (AB 0) AG) (AB 1)) (AB 0) AG)
      (AK (AV (AB 2))))) Ap)
      (AH (CB (AY Aa (AL AW (AB 0) AG) AG) (AB 0) AG)
      (AH (Ah 3 (AY GS (AY Ao (AY Aa (AL AW (AB 0) AG) AG) (AY Aa AG (AY Ao AG (AL AW (AB 0) AG)))) AG) Gz.nd)
      (AH (Ah 3 (AY GS (AY Aa (AY Aa (AY Ao (AB 3) (AB 3)) (AY Ao AG (AL AW (AB 0) AG))) AG) AG) Gz.nd)
      (AK (AV (AY GS (AY HB (AY GS (AY Ao (AB 3) AG) AG) AG) (AB 1))))))))
theorem Jz:AQ ["_law_one","_law_other"] ["_law_one","_law_other"] (AI Eu):=scM
theorem Et  (S:St.Src K mg "_law_common" Eu):Kw P w K mg base:=by
 refine dfM 0 S Jz λhr hu=>?_
 exact(AH (Qg (RN 1) ki (Ac PN (AB 1) AG) (AK (Ki (i:=0) (j:=1) rfl Jz.nd rfl rfl (by decide) rfl rfl (AB 1) (AY GS (AB 0) (AB 1)))))
      (AK (AV (AB 0))))
theorem MS:AQ ["_law_top","_law_bottom","_law_by"] ["_law_top","_law_bottom"] (AI GV):=scM
theorem Ax  (S:St.Src K mg "_law_made" GV)(B:Bts mg)(Et:Kw P w K mg base):EU P w K mg base:=by
 refine dfM 1 S MS λhr hu=>?_
 exact(AH (Ah 2 (deM Et hr (AA (Aq Lg rfl B.abs xl (AA (AB 0) AE)) (AA (AB 1) AE))) MS.nd)
      (AK (AV (Ar (AA (AY HB (AB 0) (AB 2)) (AA (AY HB (AB 1) (AB 2)) AE))))))
theorem Pz:AQ ["_law_one","_law_other"] ["_law_one","_law_other"] (AI Gg):=scM
theorem Bh  (S:St.Src K mg "_law_plus" Gg)(Ax:EU P w K mg base):GZ P w K mg base:=by
 refine dfM 2 S Pz λhr hu=>?_
 exact(AK (AV (deM Ax hr (AA (AY Aa (AY Ao (AL AW (AB 0) AG) (AL AW (AB 1) AG)) (AY Ao (AL AW (AB 1) AG) (AL AW (AB 0) AG))) (AA (AY Ao (AL AW (AB 0) AG) (AL AW (AB 1) AG)) AE)))))
theorem Oe:AQ ["_law_one","_law_other"] ["_law_one","_law_other"] (AI Fw):=scM
theorem BK  (S:St.Src K mg "_law_times" Fw)(Ax:EU P w K mg base):HH P w K mg base:=by
 refine dfM 2 S Oe λhr hu=>?_
 exact(AK (AV (deM Ax hr (AA (AY Ao (AL AW (AB 0) AG) (AL AW (AB 1) AG)) (AA (AY Ao (AL AW (AB 0) AG) (AL AW (AB 1) AG)) AE)))))
theorem Px:AQ ["_law_one","_law_other"] ["_law_one","_law_other"] (AI Gv):=scM
theorem Dk  (S:St.Src K mg "_law_less" Gv)(Bh:GZ P w K mg base):KD P w K mg base:=by
 refine dfM 3 S Px λhr hu=>?_
 exact(AK (AV (deM Bh hr (AA (AB 0) (AA (Ar (AA (AY GU AG (AL AW (AB 1) AG)) (AA (AL AW (AB 1) AG) AE))) AE)))))
end
section
open PyProof.Rows (boot_isinstance boot_int boot_bool boot_tuple boot_str boot_list boot_abs boot_all boot_any boot_sum boot_max boot_min boot_range boot_enumerate boot_zip boot_sorted boot_set boot_divmod)
variable{P:js}{w:j6}{K:W1}{mg:Str->jO jN}{base:j0}
theorem Ku:AQ ["_law_pen_here","_law_many","_law_weights"] ["_law_pen_here","_law_many"] (AI CU):=scM
theorem Me:Aj ["_law_pen_here","_law_many","_law_weights"] (AI CU) ["_law_pen_here","_law_one"] (ixC [0] 1) (NR CU 0):=csM
theorem Mh:(["_law_pen_here","_law_one"]:Wp Str).Nodup:=by decide+kernel
theorem Md:Aj ["_law_pen_here","_law_many","_law_weights"] (AI CU) ["_law_weights","_law_weight"] (ixC [2] 1) (NR CU 1):=csM
theorem MX:(["_law_weights","_law_weight"]:Wp Str).Nodup:=by decide+kernel
theorem Cr  (S:St.Src K mg "_law_whole" CU)(B:Bts mg)(AN:CC P w K mg base)(Ax:EU P w K mg base):JL P w K mg base:=by
 refine dfM 2 S Ku λhr hu=>?_
 exact(AH (Ah 2 (D9 [0] 1 ["_law_pen_here","_law_one"] rfl Me (HE rfl B.range (AA (AB 1) AE)) (λs H fp=>⟨Af 1 Mh,EM,AL AW (Bw (AA AG (AA AG (AA (deM AN hr (AA (AB 0) (AA AG AE))) (AA (deM AN hr (AA (AB 0) (AA AG AE))) AE))))) (deM AN hr (AA (AB 0) (AA AG AE)))⟩)) Ku.nd)
      (AH (Bz (Ac (Bq hu) (Aq (Jh rfl) rfl B.sum ux (AA (AB 2) AE)) AG) (AK (CB AG (AB 2) (deM AN hr (AA (AB 0) (AA (AB 1) AE))))) Ap)
      (AK (AV (BM Bm rfl B.tuple mK (AA (D9 [2] 1 ["_law_weights","_law_weight"] rfl Md (Fc (AB 2)) (λs H fp=>⟨Af 1 MX,EM,deM Ax hr (AA (AB 1) (AA (Aq (Jh rfl) rfl B.sum ux (AA (AB 0) AE)) AE))⟩)) AE))))))
theorem Jm:AQ ["_law_pen_here","_law_great"] ["_law_pen_here"] (AI Ep):=scM
theorem Bu  (S:St.Src K mg "_law_pieces" Ep)(AN:CC P w K mg base):Hm P w K mg base:=by
 refine dfM 1 S Jm λhr hu=>?_
 exact(AH (Ah 1 (AY Aa (AY Pm AG AG) (deM AN hr (AA (AB 0) (AA AG AE)))) Jm.nd)
      (AK (AV (AL AW (Bw (AA (AY Aa AG (deM AN hr (AA (AB 0) (AA AG AE)))) (AA (AY Aa AG (deM AN hr (AA (AB 0) (AA AG AE)))) (AA (AY Aa AG (deM AN hr (AA (AB 0) (AA AG AE)))) (AA (AB 1) AE))))) (AY HB (deM AN hr (AA (AB 0) (AA AG AE))) AG)))))
theorem Hv:AQ ["_law_pen_here","_law_partners","_law_kinds","_law_beasts"] ["_law_pen_here"] (AI Fq):=scM
theorem Fp  (S:St.Src K mg "_law_train" Fq)(AN:CC P w K mg base)(Cr:JL P w K mg base):Ls P w K mg base:=by
 refine dfM 3 S Hv λhr hu=>?_
 exact(AH (Ki (i:=1) (j:=2) rfl Hv.nd rfl rfl (by decide) rfl rfl (AY Aa AG (deM AN hr (AA (AB 0) (AA AG AE)))) (AY Aa AG (deM AN hr (AA (AB 0) (AA AG AE)))))
      (AH (Ah 3 (AL AW (Bw (AA (AY Aa AG (deM AN hr (AA (AB 0) (AA AG AE)))) (AA (AY Aa AG (deM AN hr (AA (AB 0) (AA AG AE)))) AE))) (deM AN hr (AA (AB 0) (AA AG AE)))) Hv.nd)
      (AK (AV (Ar (AA (AB 1) (AA (AB 2) (AA (AB 3) (AA (deM Cr hr (AA (AB 0) (AA (AB 1) AE))) (AA (deM AN hr (AA (AB 0) (AA AG AE))) (AA (deM AN hr (AA (AB 0) (AA AG AE))) AE)))))))))))
theorem Hc:AQ ["_law_pen_here","_law_train_here","_law_found","_law_k"] ["_law_pen_here","_law_train_here"] (AI F0):=scM
theorem Fx  (S:St.Src K mg "_law_first" F0)(B:Bts mg)(AN:CC P w K mg base)(Cr:JL P w K mg base)(Bu:Hm P w K mg base):LN P w K mg base:=by
 refine dfM 3 S Hc λhr hu=>?_
 exact(AH (Ah 2 (Bw AE) Hc.nd)
      (AH (He ki rfl (HE rfl B.range (AA (AL AW (Bw (AA AG (AA AG (AA (deM AN hr (AA (AB 0) (AA AG AE))) AE)))) (deM AN hr (AA (AB 0) (AA AG AE)))) AE)) (Af 3 Hc.nd) (AK (Ck (Kp ke kv JU (AB 2) (AA (Ar (AA (deM AN hr (AA (AB 0) (AA (AL AW (AB 1) AG) AE))) (AA (deM Bu hr (AA (AB 0) AE)) (AA (deM Cr hr (AA (AB 0) (AA (AL AW (AB 1) AG) AE))) AE)))) AE)))))
      (AK (AV (BM Bm rfl B.tuple mK (AA (AB 2) AE))))))
theorem Kc:AQ ["_law_pen_here","_law_bottom"] ["_law_pen_here"] (AI Fy):=scM
theorem F6  (S:St.Src K mg "_law_share" Fy)(AN:CC P w K mg base)(Ax:EU P w K mg base):Lf P w K mg base:=by
 refine dfM 2 S Kc λhr hu=>?_
 exact(AH (Ah 1 (AY Aa AG (deM AN hr (AA (AB 0) (AA AG AE)))) Kc.nd)
      (AK (AV (deM Ax hr (AA (AY Aa AG (deM AN hr (AA (AB 0) (AA (AB 1) AE)))) (AA (AB 1) AE))))))
theorem Na:AQ ["_law_pen_here","_law_many"] ["_law_pen_here","_law_many"] (AI Cp):=scM
theorem MR:Aj ["_law_pen_here","_law_many"] (AI Cp) ["_law_pen_here","_law_one"] (ixC [0] 1) (NR Cp 0):=csM
theorem LO:(["_law_pen_here","_law_one"]:Wp Str).Nodup:=by decide+kernel
theorem Ey  (S:St.Src K mg "_law_worths" Cp)(B:Bts mg)(AN:CC P w K mg base):Kr P w K mg base:=by
 refine dfM 1 S Na λhr hu=>?_
 exact(AK (AV (BM Bm rfl B.tuple mK (AA (D9 [0] 1 ["_law_pen_here","_law_one"] rfl MR (HE rfl B.range (AA (AB 1) AE)) (λs H fp=>⟨Af 1 LO,EM,AY Aa AG (AL AW (Bw (AA (deM AN hr (AA (AB 0) (AA AG AE))) (AA (deM AN hr (AA (AB 0) (AA AG AE))) AE))) (deM AN hr (AA (AB 0) (AA AG AE))))⟩)) AE))))
end
section
open PyProof.Rows (boot_isinstance boot_int boot_bool boot_tuple boot_str boot_list boot_abs boot_all boot_any boot_sum boot_max boot_min boot_range boot_enumerate boot_zip boot_sorted boot_set boot_divmod)
variable{P:js}{w:j6}{K:W1}{mg:Str->jO jN}{base:j0}
theorem OT:AQ ["_law_book_here"] ["_law_book_here"] (AI Dd):=scM
theorem Mj:Aj ["_law_book_here"] (AI Dd) ["_law_load"] (ixC [] 1) (NR Dd 0):=csM
theorem MZ:(["_law_load"]:Wp Str).Nodup:=by decide+kernel
theorem Ct  (S:St.Src K mg "_law_begun" Dd)(B:Bts mg):JF P w K mg base:=by
 refine dfM 0 S OT λhr hu=>?_
 exact(AK (AV (Bw (AA (D9 [] 1 ["_law_load"] rfl Mj (Fc (AL AW (AB 0) AG)) (λs H fp=>⟨Af 0 MZ,EM,BM J5 rfl B.list vv (AA (AB 0) AE)⟩)) (AA (BM Bm rfl B.tuple mK (AA (AL AW (AL AW (AB 0) AG) AG) AE)) (AA (Bw AE) AE))))))
theorem Oj:AQ ["_law_loads","_law_load","_law_pieces_here"] ["_law_loads","_law_load","_law_pieces_here"] (AI Fm):=scM
theorem C5  (S:St.Src K mg "_law_there" Fm)(B:Bts mg):LQ P w K mg base:=by
 refine dfM 0 S Oj λhr hu=>?_
 exact(AK (AV (HR (FD Ke (AB 1) (Aq BU rfl B.len lX (AA (AB 0) AE))) (HX (FD Q6 (AL AW (AL AW (AB 0) (AB 1)) AG) (AB 2))))))
theorem DJ:AQ ["_law_state","_law_deed_here","_law_loads","_law_holders","_law_numbers","_law_there_here","_law_load","_law_given","_law_kind","_law_got"] ["_law_state","_law_deed_here"] (AI Hb):=scM
theorem H0  (S:St.Src K mg "_law_can" Hb)(C5:LQ P w K mg base):Oi P w K mg base:=by
 refine dfM 1 S DJ λhr hu=>?_
 exact(AH (FA (AB 0) (Eg rfl (AO (Af 2 DJ.nd) (AO (Af 3 DJ.nd) (AO (Af 4 DJ.nd) Bb)))))
      (AH (Bz (Ac (Bq hu) (AL AW (AB 1) AG) Aw) (AH (Ah 5 (HR (deM C5 hr (AA (AB 2) (AA (AL AW (AB 1) AG) (AA AG AE)))) (HX (deM C5 hr (AA (AB 2) (AA (AL AW (AB 1) AG) (AA AG AE)))))) DJ.nd)
      (AK (AV (HR (AB 5) (HX (FD (Bq hu) (AL AW (AL AW (AB 2) (AL AW (AB 1) AG)) AG) (AL AW (AL AW (AB 2) (AL AW (AB 1) AG)) AG))))))) Ap)
      (AH (Bz (Ac Ir (AL AW (AB 1) AG) (Ar (AA Aw (AA Aw AE)))) (AH (FA (Hl (AB 1) (Pp JJ AG)) (Eg rfl (AO (Af 6 DJ.nd) (AO (Af 7 DJ.nd) (AO (Af 8 DJ.nd) (AO (Af 9 DJ.nd) Bb))))))
      (AH (Bz (DW.dt (LX (Ac (Bq hu) (AL AW (AB 1) AG) Aw) (Iy (Ac Ir (AL AW (AB 1) AG) (AB 4))))) (AK (AV Ri)) Ap)
      (AK (AV (HR (deM C5 hr (AA (AB 2) (AA (AB 6) (AA (AB 7) AE)))) (HX (FD (Jc hu) (AL AW (AL AW (AB 2) (AB 6)) AG) (AB 8)))))))) Ap)
      (AH (Bz (Ac Ir (AL AW (AB 1) AG) (Ar (AA Aw (AA Aw AE)))) (AK (AV (deM C5 hr (AA (AB 2) (AA (AL AW (AB 1) AG) (AA (AL AW (AB 1) AG) AE)))))) Ap)
      (AK (AV Ri))))))
theorem D1:AQ ["_law_one","_law_other","_law_found","_law_mine","_law_its","_law_both"] ["_law_one","_law_other"] (AI Er):=scM
theorem Ec  (S:St.Src K mg "_law_pooled" Er)(B:Bts mg)(Ax:EU P w K mg base)(Bh:GZ P w K mg base)(BK:HH P w K mg base):Ks P w K mg base:=by
 refine dfM 3 S D1 λhr hu=>?_
 exact(AH (Ah 2 (Bw AE) D1.nd)
      (AH (He ki rfl (QV rfl B.zip (AL AW (AB 0) AG) (AL AW (AB 1) AG)) (Eg rfl (AO (Af 3 D1.nd) (AO (Af 4 D1.nd) Bb))) (AH (Ah 5 (deM Bh hr (AA (deM BK hr (AA (Ar (AA (AL AW (AB 0) AG) (AA AG AE))) (AA (AB 3) AE))) (AA (deM BK hr (AA (Ar (AA (AL AW (AB 1) AG) (AA AG AE))) (AA (AB 4) AE))) AE))) D1.nd)
      (AK (Ck (Kp ke kv JU (AB 2) (AA (deM BK hr (AA (AB 5) (AA (deM Ax hr (AA AG (AA (AY Aa (AL AW (AB 0) AG) (AL AW (AB 1) AG)) AE))) AE))) AE))))))
      (AK (AV (BM Bm rfl B.tuple mK (AA (AB 2) AE))))))
theorem JS:AQ ["_law_train_here","_law_loads","_law_deed_here","_law_worths_here","_law_whole_here"] ["_law_train_here","_law_loads","_law_deed_here"] (AI EN):=scM
theorem Ni:Aj ["_law_train_here","_law_loads","_law_deed_here","_law_worths_here","_law_whole_here"] (AI EN) ["_law_worths_here","_law_kind","_law_pieces_here","_law_owners"] (ixC [3] 3) (NR EN 0):=csM
theorem G3:(["_law_worths_here","_law_kind","_law_pieces_here","_law_owners"]:Wp Str).Nodup:=by decide+kernel
theorem Ga  (S:St.Src K mg "_law_cost" EN)(B:Bts mg)(Ax:EU P w K mg base):NL P w K mg base:=by
 refine dfM 2 S JS λhr hu=>?_
 exact(AH (Ah 3 (AL AW (AB 2) AG) JS.nd)
      (AH (Ah 4 (AY Aa (Aq (Jh rfl) rfl B.sum ux (AA (D9 [3] 3 ["_law_worths_here","_law_kind","_law_pieces_here","_law_owners"] rfl Ni (Fc (AB 1)) (λs H fp=>⟨Eg rfl (AO (Af 1 G3) (AO (Af 2 G3) (AO (Af 3 G3) Bb))),EM,AY Ao (AB 2) (AL AW (AB 0) (AB 1))⟩)) AE)) (AY Ao (AL AW (AB 0) AG) (AL AW (AB 3) (Pp JJ AG)))) JS.nd)
      (AK (AV (deM Ax hr (AA (AY Ao (AL AW (AB 2) AG) (AL AW (AB 3) (AL AW (AL AW (AB 1) (AL AW (AB 2) AG)) AG))) (AA (AB 4) AE)))))))
theorem GG:AQ ["_law_shares","_law_part","_law_owners","_law_found","_law_mine","_law_its"] ["_law_shares","_law_part","_law_owners"] (AI F2):=scM
theorem EG  (S:St.Src K mg "_law_borne" F2)(B:Bts mg)(Bh:GZ P w K mg base)(BK:HH P w K mg base)(Dk:KD P w K mg base):MO P w K mg base:=by
 refine dfM 4 S GG λhr hu=>?_
 exact(AH (Ah 3 (Bw AE) GG.nd)
      (AH (He ki rfl (QV rfl B.zip (AB 0) (AB 2)) (Eg rfl (AO (Af 4 GG.nd) (AO (Af 5 GG.nd) Bb))) (AK (Ck (Kp ke kv JU (AB 3) (AA (deM Bh hr (AA (deM BK hr (AA (AB 4) (AA (deM Dk hr (AA (Ar (AA AG (AA AG AE))) (AA (AB 1) AE))) AE))) (AA (deM BK hr (AA (AB 5) (AA (AB 1) AE))) AE))) AE)))))
      (AK (AV (BM Bm rfl B.tuple mK (AA (AB 3) AE))))))
end
section
open PyProof.Rows (boot_isinstance boot_int boot_bool boot_tuple boot_str boot_list boot_abs boot_all boot_any boot_sum boot_max boot_min boot_range boot_enumerate boot_zip boot_sorted boot_set boot_divmod)
variable{P:js}{w:j6}{K:W1}{mg:Str->jO jN}{base:j0}
theorem JN:AQ ["_law_shares","_law_deed_here","_law_found","_law_passes"] ["_law_shares","_law_deed_here"] (AI Gu):=scM
theorem FR  (S:St.Src K mg "_law_sold" Gu)(B:Bts mg)(Bh:GZ P w K mg base)(BK:HH P w K mg base)(Dk:KD P w K mg base):NF P w K mg base:=by
 refine dfM 4 S JN λhr hu=>?_
 exact(AH (Ah 2 (BM J5 rfl B.list vv (AA (AB 0) AE)) JN.nd)
      (AH (Ah 3 (deM BK hr (AA (AL AW (AB 2) (AL AW (AB 1) AG)) (AA (AL AW (AB 1) AG) AE))) JN.nd)
      (AH (CB (deM Dk hr (AA (AL AW (AB 2) (AL AW (AB 1) AG)) (AA (AB 3) AE))) (AB 2) (AL AW (AB 1) AG))
      (AH (CB (deM Bh hr (AA (AL AW (AB 2) (AL AW (AB 1) AG)) (AA (AB 3) AE))) (AB 2) (AL AW (AB 1) AG))
      (AK (AV (BM Bm rfl B.tuple mK (AA (AB 2) AE))))))))
theorem Dg:AQ ["_law_train_here","_law_state","_law_deed_here","_law_loads","_law_holders","_law_numbers","_law_part","_law_owners","_law_load"] ["_law_train_here","_law_state","_law_deed_here"] (AI Gf):=scM
theorem Gh  (S:St.Src K mg "_law_turn" Gf)(Ga:NL P w K mg base)(EG:MO P w K mg base)(FR:NF P w K mg base):NY P w K mg base:=by
 refine dfM 5 S Dg λhr hu=>?_
 exact(AH (FA (AB 1) (Eg rfl (AO (Af 3 Dg.nd) (AO (Af 4 Dg.nd) (AO (Af 5 Dg.nd) Bb)))))
      (AK (Bz (Ac (Bq hu) (AL AW (AB 2) AG) Aw) (AH (Ki (i:=6) (j:=7) rfl Dg.nd rfl rfl (by decide) rfl rfl (deM Ga hr (AA (AB 0) (AA (AB 3) (AA (AB 2) AE)))) (AL AW (AL AW (AB 3) (AL AW (AB 2) AG)) AG))
      (AH (CB (AY GU (AL AW (AL AW (AB 3) (AL AW (AB 2) AG)) AG) (AL AW (AB 2) AG)) (AL AW (AB 3) (AL AW (AB 2) AG)) AG)
      (AH (He ki rfl (Fc (AB 3)) (Af 8 Dg.nd) (AK (CB (deM EG hr (AA (AL AW (AB 8) AG) (AA (AB 6) (AA (AB 7) AE)))) (AB 8) AG)))
      (AK (CB (deM EG hr (AA (AB 4) (AA (AB 6) (AA (AB 7) AE)))) (AB 1) AG))))) (AH (He ki rfl (Fc (AB 3)) (Af 8 Dg.nd) (AK (CB (deM FR hr (AA (AL AW (AB 8) AG) (AA (AB 2) AE))) (AB 8) AG)))
      (AK (CB (deM FR hr (AA (AB 4) (AA (AB 2) AE))) (AB 1) AG))))))
theorem DQ:AQ ["_law_train_here","_law_state","_law_deed_here","_law_loads","_law_holders","_law_numbers","_law_word","_law_one","_law_other","_law_load","_law_given","_law_kind","_law_got"] ["_law_train_here","_law_state","_law_deed_here"] (AI HJ):=scM
theorem Py:Aj ["_law_train_here","_law_state","_law_deed_here","_law_loads","_law_holders","_law_numbers","_law_word","_law_one","_law_other","_law_load","_law_given","_law_kind","_law_got"] (AI HJ) ["_law_deed_here","_law_one"] (ixC [2] 1) (NR HJ 0):=csM
theorem P7:(["_law_deed_here","_law_one"]:Wp Str).Nodup:=by decide+kernel
theorem GL  (S:St.Src K mg "_law_do" HJ)(B:Bts mg)(Ec:Ks P w K mg base)(Gh:NY P w K mg base):N4 P w K mg base:=by
 refine dfM 6 S DQ λhr hu=>?_
 exact(AH (FA (AB 1) (Eg rfl (AO (Af 3 DQ.nd) (AO (Af 4 DQ.nd) (AO (Af 5 DQ.nd) Bb)))))
      (AH (Ah 6 (AL AW (AB 2) AG) DQ.nd)
      (AK (Bz (Ac (Bq hu) (AB 6) Aw) (AK (Ck (Kp ke kv JU (AB 3) (AA (Bw (AA (AL AW (AB 2) AG) (AA (AL AW (AB 2) AG) (AA (BM Bm rfl B.tuple mK (AA (D9 [2] 1 ["_law_deed_here","_law_one"] rfl Py (HE rfl B.range (AA (AL AW (AB 0) AG) AE)) (λs H fp=>⟨Af 1 P7,EM,Ar (AA (BM Jv rfl B.int tV (AA (FD (Bq hu) (AB 1) (AL AW (AB 0) AG)) AE)) (AA AG AE))⟩)) AE)) AE)))) AE)))) (AK (Bz (Ac (Bq hu) (AB 6) Aw) (AH (Ki (i:=7) (j:=8) rfl DQ.nd rfl rfl (by decide) rfl rfl (AL AW (AB 3) (AL AW (AB 2) AG)) (AL AW (AB 3) (AL AW (AB 2) AG)))
      (AH (Ck (Kp ke kv JU (AB 3) (AA (Bw (AA (AL AW (AB 7) AG) (AA (AY Aa (AL AW (AB 7) AG) (AL AW (AB 8) AG)) (AA (deM Ec hr (AA (AB 7) (AA (AB 8) AE))) AE)))) AE)))
      (AH (CB AG (AB 7) AG)
      (AK (CB AG (AB 8) AG))))) (AK (Bz (Ac Ir (AB 6) (Ar (AA Aw (AA Aw AE)))) (AH (FA (Hl (AB 2) (Pp JJ AG)) (Eg rfl (AO (Af 9 DQ.nd) (AO (Af 10 DQ.nd) (AO (Af 11 DQ.nd) (AO (Af 12 DQ.nd) Bb))))))
      (AH (CB (AY GU (AL AW (AL AW (AB 3) (AB 9)) AG) (AB 10)) (AL AW (AB 3) (AB 9)) AG)
      (AH (Ck (Kp ke kv JU (AB 3) (AA (Bw (AA (AB 11) (AA (AB 12) (AA (AL AW (AL AW (AB 3) (AB 9)) AG) AE)))) AE)))
      (AK (Ck (Kp pJ PySem.F.type_list_extend Xo (AB 5) (AA (AY Ao (XD (AB 2) AG AG) (BM Jv rfl B.int tV (AA (FD (Bq hu) (AB 6) Aw) AE))) AE))))))) (AK (Bz (Ac (Bq hu) (AB 6) Aw) (AK (CB (AY GU (AL AW (AL AW (AB 3) (AL AW (AB 2) AG)) AG) (AL AW (AB 2) AG)) (AL AW (AB 3) (AL AW (AB 2) AG)) AG)) (AK (Ck (deM Gh hr (AA (AB 0) (AA (AB 1) (AA (AB 2) AE))))))))))))))))
theorem Bl:AQ ["_law_pen_here","_law_train_here","_law_state","_law_loads","_law_holders","_law_numbers","_law_full","_law_way","_law_load","_law_some","_law_same","_law_kind","_law_left","_law_partner"] ["_law_pen_here","_law_train_here","_law_state"] (AI CF):=scM
theorem Nv:Aj ["_law_pen_here","_law_train_here","_law_state","_law_loads","_law_holders","_law_numbers","_law_full","_law_way","_law_load","_law_some","_law_same","_law_kind","_law_left","_law_partner"] (AI CF) ["_law_at","_law_load"] (ixC [] 2) (NR CF 0):=csM
theorem Jg:(["_law_at","_law_load"]:Wp Str).Nodup:=by decide+kernel
theorem N3:Aj ["_law_pen_here","_law_train_here","_law_state","_law_loads","_law_holders","_law_numbers","_law_full","_law_way","_law_load","_law_some","_law_same","_law_kind","_law_left","_law_partner"] (AI CF) ["_law_loads","_law_load","_law_at"] (ixC [3,8] 1) (NR CF 1):=csM
theorem Nj:(["_law_loads","_law_load","_law_at"]:Wp Str).Nodup:=by decide+kernel
theorem Nz:Aj ["_law_pen_here","_law_train_here","_law_state","_law_loads","_law_holders","_law_numbers","_law_full","_law_way","_law_load","_law_some","_law_same","_law_kind","_law_left","_law_partner"] (AI CF) ["_law_numbers","_law_number"] (ixC [5] 1) (NR CF 2):=csM
theorem Np:(["_law_numbers","_law_number"]:Wp Str).Nodup:=by decide+kernel
theorem Gx  (S:St.Src K mg "_law_deed" CF)(B:Bts mg)(AN:CC P w K mg base)(Bu:Hm P w K mg base)(F6:Lf P w K mg base)(Ey:Kr P w K mg base):NP P w K mg base:=by
 refine dfM 3 S Bl λhr hu=>?_
 exact(AH (FA (AB 2) (Eg rfl (AO (Af 3 Bl.nd) (AO (Af 4 Bl.nd) (AO (Af 5 Bl.nd) Bb)))))
      (AH (FU [] 2 ["_law_at","_law_load"] rfl Bl.nd rfl rfl Nv (Tz rfl B.enumerate (AB 3)) (λs H fp=>⟨Eg rfl (AO (Af 0 Jg) (AO (Af 1 Jg) Bb)),Iw (Ac PN (AL AW (AB 1) AG) AG),AB 0⟩))
      (AH (Ah 7 (deM AN hr (AA (AB 0) (AA AG AE))) Bl.nd)
      (AH (Bz (DW.dt (V3 (Ac Ke (AB 7) AG) (QT (Ac (Bq hu) (AB 6) (Bw AE))))) (AK (AV (Ar (AA Aw (AA (deM AN hr (AA (AB 0) (AA (AL AW (AB 1) AG) AE))) (AA (deM AN hr (AA (AB 0) (AA (AL AW (AB 1) AG) AE))) (AA (deM Bu hr (AA (AB 0) AE)) AE))))))) Ap)
      (AH (Ah 8 (AL AW (AB 6) (deM AN hr (AA (AB 0) (AA (Aq BU rfl B.len lX (AA (AB 6) AE)) AE)))) Bl.nd)
      (AH (Ah 9 (AY Aa AG (deM AN hr (AA (AB 0) (AA (Aq (O2 rfl) rfl B.min boot_min (AA (AL AW (AL AW (AB 3) (AB 8)) AG) (AA AG AE))) AE)))) Bl.nd)
      (AH (Bz (Ac Ke (AB 7) AG) (AH (FU [3,8] 1 ["_law_loads","_law_load","_law_at"] rfl Bl.nd rfl rfl N3 (Fc (AB 6)) (λs H fp=>⟨Af 2 Nj,Iw (DW.dt (LX (Ac (Jc hu) (AB 2) (AB 1)) (Iy (Ac (Bq hu) (AL AW (AL AW (AB 0) (AB 2)) AG) (AL AW (AL AW (AB 0) (AB 1)) AG))))),AB 2⟩))
      (AK (Bz (Ac (Jc hu) (AB 10) (Bw AE)) (AK (AV (Ar (AA Aw (AA (AB 8) (AA (AL AW (AB 10) (deM AN hr (AA (AB 0) (AA (Aq BU rfl B.len lX (AA (AB 10) AE)) AE)))) AE)))))) Ap))) Ap)
      (AH (Bz (DW.dt (LX (Ac Ke (AB 7) AG) (Iy (Ac PN (AL AW (AB 1) AG) AG)))) (AH (Ah 11 (AY GS (AY Aa (AY Aa (AL AW (AL AW (AB 3) (AB 8)) AG) AG) (deM AN hr (AA (AB 0) (AA (AY GU (AL AW (AB 1) AG) AG) AE)))) (AL AW (AB 1) AG)) Bl.nd)
      (AH (FU [5] 1 ["_law_numbers","_law_number"] rfl Bl.nd rfl rfl Nz (HE rfl B.range (AA AG AE)) (λs H fp=>⟨Af 1 Np,Iw (Ac LY (AB 1) (AB 0)),AB 1⟩))
      (AH (Bz (DW.dt (LX (Ac (Bq hu) (AB 7) AG) (Iy (Ac (Jc hu) (AB 12) (Bw AE))))) (AK (AV (Ar (AA Aw (AA (AL AW (AB 12) (deM AN hr (AA (AB 0) (AA (Aq BU rfl B.len lX (AA (AB 12) AE)) AE)))) (AA (AB 8) (AA (AB 9) (AA (AB 11) (AA (deM Bu hr (AA (AB 0) AE)) AE))))))))) Ap)
      (AK (AV (Ar (AA Aw (AA (AB 8) (AA (AB 9) (AA (AB 11) (AA (deM Bu hr (AA (AB 0) AE)) AE))))))))))) Ap)
      (AH (Bz (Ac (Bq hu) (AB 7) AG) (AK (AV (Ar (AA Aw (AA (AB 8) (AA (AB 9) AE)))))) Ap)
      (AH (Bz (DW.dt (LX (Ac (Bq hu) (AB 7) AG) (Iy (Ac PN (AL AW (AB 1) AG) AG)))) (AH (Ah 13 (deM AN hr (AA (AB 0) (AA (AL AW (AB 1) AG) AE))) Bl.nd)
      (AK (AV (Ar (AA Aw (AA (AB 13) (AA (AY GS (AY Aa (AY Aa (AB 13) AG) (deM AN hr (AA (AB 0) (AA (AY GU (AL AW (AB 1) AG) AG) AE)))) (AL AW (AB 1) AG)) (AA (deM F6 hr (AA (AB 0) AE)) AE)))))))) Ap)
      (AK (AV (Ar (AA Aw (AA (AB 8) (AA (AB 9) (AA (deM Ey hr (AA (AB 0) (AA (AY Aa (AL AW (AB 1) AG) AG) AE))) AE)))))))))))))))))
theorem EF:AQ ["_law_pen_here","_law_most","_law_train_here","_law_first_here","_law_state","_law_deeds","_law_k","_law_deed_here"] ["_law_pen_here","_law_most"] (AI EJ):=scM
theorem N6:Aj ["_law_pen_here","_law_most","_law_train_here","_law_first_here","_law_state","_law_deeds","_law_k","_law_deed_here"] (AI EJ) ["_law_one"] (ixC [] 1) (NR EJ 0):=csM
theorem Nf:(["_law_one"]:Wp Str).Nodup:=by decide+kernel
theorem Gq  (S:St.Src K mg "_law_book" EJ)(B:Bts mg)(AN:CC P w K mg base)(Fp:Ls P w K mg base)(Fx:LN P w K mg base)(Ct:JF P w K mg base)(GL:N4 P w K mg base)(Gx:NP P w K mg base):NH P w K mg base:=by
 refine dfM 7 S EF λhr hu=>?_
 exact(AH (Ah 2 (deM Fp hr (AA (AB 0) AE)) EF.nd)
      (AH (Ah 3 (deM Fx hr (AA (AB 0) (AA (AB 2) AE))) EF.nd)
      (AH (Ki (i:=4) (j:=5) rfl EF.nd rfl rfl (by decide) rfl rfl (deM Ct hr (AA (Ar (AA (AB 2) (AA (AB 3) (AA (Ar AE) AE)))) AE)) (Bw AE))
      (AH (He ki rfl (HE rfl B.range (AA (deM AN hr (AA (AB 0) (AA (AY Aa (AB 1) AG) AE))) AE)) (Af 6 EF.nd) (AH (Ah 7 (deM Gx hr (AA (AB 0) (AA (AB 2) (AA (AB 4) AE)))) EF.nd)
      (AK (Bz (DW.dt (V3 (Ac (Jc hu) (AL AW (AB 7) AG) Aw) (QT (Ac Ke (Aq BU rfl B.len lX (AA (D9 [] 1 ["_law_one"] rfl N6 (Fc (AB 5)) (λs H fp=>⟨Af 0 Nf,Iw (Ac (Bq hu) (AL AW (AB 0) AG) Aw),AB 0⟩)) AE)) AG)))) (AH (Ck (deM GL hr (AA (AB 2) (AA (AB 4) (AA (AB 7) AE)))))
      (AK (Ck (Kp ke kv JU (AB 5) (AA (AB 7) AE))))) Ap))))
      (AK (AV (Ar (AA (AB 2) (AA (AB 3) (AA (BM Bm rfl B.tuple mK (AA (AB 5) AE)) AE))))))))))
theorem CM:AQ ["_law_pen_here","_law_train_here","_law_many","_law_load","_law_other","_law_some","_law_kind","_law_found"] ["_law_pen_here","_law_train_here","_law_many"] (AI DU):=scM
theorem DP  (S:St.Src K mg "_law_odd_deed" DU)(B:Bts mg)(AN:CC P w K mg base):Ig P w K mg base:=by
 refine dfM 1 S CM λhr hu=>?_
 exact(AH (Ki (i:=3) (j:=4) rfl CM.nd rfl rfl (by decide) rfl rfl (deM AN hr (AA (AB 0) (AA (AY Aa (AB 2) AG) AE))) (deM AN hr (AA (AB 0) (AA (AY Aa (AB 2) AG) AE))))
      (AH (Ah 5 (AL AW (Bw (AA AG (AA AG (AA AG (AA (AY Pm AG AG) AE))))) (deM AN hr (AA (AB 0) (AA AG AE)))) CM.nd)
      (AH (Ah 6 (deM AN hr (AA (AB 0) (AA (AL AW (AB 1) AG) AE))) CM.nd)
      (AH (Ah 7 (Bw (AA (Ar (AA Aw (AA (AB 3) (AA (AY Aa (AB 4) (BM Jv rfl B.int tV (AA (FD (Bq hu) (AB 3) (AB 4)) AE))) AE)))) (AA (Ar (AA Aw (AA (AB 3) (AA (AB 5) (AA (AB 6) (AA AG AE)))))) (AA (Ar (AA Aw (AA (AB 3) (AA (AB 5) AE)))) AE)))) CM.nd)
      (AH (Ah 7 (AY Aa (AB 7) (Bw (AA (Ar (AA Aw (AA (deM AN hr (AA (AB 0) (AA AG AE))) (AA (AB 3) (AA (AB 5) (AA (AB 6) (AA AG AE))))))) (AA (Ar (AA Aw (AA (AB 3) (AA (AB 5) (AA (AY Ao (Ar (AA AG AE)) (AY Aa (AL AW (AB 1) AG) AG)) AE))))) AE)))) CM.nd)
      (AK (AV (AL AW (AB 7) (deM AN hr (AA (AB 0) (AA AG AE)))))))))))
end
section
open PyProof.Rows (boot_isinstance boot_int boot_bool boot_tuple boot_str boot_list boot_abs boot_all boot_any boot_sum boot_max boot_min boot_range boot_enumerate boot_zip boot_sorted boot_set boot_divmod)
variable{P:js}{w:j6}{K:W1}{mg:Str->jO jN}{base:j0}
theorem F9:AQ ["_law_book_here","_law_state","_law_at","_law_deed_here"] ["_law_book_here"] (AI F1):=scM
theorem F4  (S:St.Src K mg "_law_wrong" F1)(B:Bts mg)(Ct:JF P w K mg base)(H0:Oi P w K mg base)(GL:N4 P w K mg base):Lv P w K mg base:=by
 refine dfM 7 S F9 λhr hu=>?_
 exact(AH (Ah 1 (deM Ct hr (AA (AB 0) AE)) F9.nd)
      (AH (He ki rfl (Tz rfl B.enumerate (AL AW (AB 0) AG)) (Eg rfl (AO (Af 2 F9.nd) (AO (Af 3 F9.nd) Bb))) (AH (Bz (Ox (O5 (deM H0 hr (AA (AB 1) (AA (AB 3) AE))))) (AK (AV (AB 2))) Ap)
      (AK (Ck (deM GL hr (AA (AL AW (AB 0) AG) (AA (AB 1) (AA (AB 3) AE))))))))
      (AK (AV Il))))
theorem Ic:AQ ["_law_book_here","e"] ["_law_book_here"] (AI Dz):=scM
theorem C6  (S:St.Src K mg "_law_refused" Dz)(El:Kk P w K mg base)(Fv:XmD K mg ["NotDone"] "NotDone")(xa_NotDone:∀C,mg "NotDone"=Gc (.ref C)->XaD K C)(Em:Kv P w K mg base):Jp P w K mg base:=by
 refine dfM 9 S Ic λhr hu=>?_
 exact(AH (ag (AK (Ck (deM El hr (AA (AB 0) (AA AG AE))))) (ME (P4 (Pr Em (hr.mono (by decide)) rfl (AA (AB 0) (AA AG AE))))) (eB (i:=1) Fv xa_NotDone rfl Ic.nd rfl rfl rfl rfl (λ_ _ D=>dq D rfl (.inl rfl)) Yw))
      (AK (AV Il)))
theorem Cf:AQ ["_law_script","_law_k","_law_pen_here","_law_book_here","_law_train_here","_law_first_here","_law_deeds","_law_turn_here","_law_at","_law_odd","_law_more","_law_new","_law_other","_law_due"] ["_law_script"] (AI II):=scM
theorem RP:Aj ["_law_script","_law_k","_law_pen_here","_law_book_here","_law_train_here","_law_first_here","_law_deeds","_law_turn_here","_law_at","_law_odd","_law_more","_law_new","_law_other","_law_due"] (AI II) ["_law_deed_here"] (ixC [] 1) (NR II 0):=csM
theorem RQ:(["_law_deed_here"]:Wp Str).Nodup:=by decide+kernel
end
theorem nr{α:Sort _}{a b:α}(h:a=b):a=b:=h
@[simp high] theorem Bx{α β:Type}(a:α)(f:α->Option β):(some a).bind f=f a:=Eq.mp (congrArg (λz=>z=f a) rfl) (Eq.refl (f a))
@[simp high] theorem eU{α β:Type}(a:α)(f:α->β):(some a).map f=some (f a):=Eq.mp (congrArg (λz=>z=some (f a)) rfl) (Eq.refl (some (f a)))
section
variable{E:En}{S:Sto}{op:OpN}{f g c:Ev}{d:D}{i:Nat}{w:Wv}{a b e h r':D}{r:Wp D}{fs:Wp Ev}
@[simp] theorem jD{o:Option D}{E:En}:at? (o::E) 0=o:=nr rfl
@[simp] theorem jA{o:Option D}{E:En}{i:Nat}:at? (o::E) (i+1)=at? E i:=nr rfl
@[simp] theorem fZ:eC d E S=some (d,S):=nr rfl
@[simp] theorem fk:eV i E S=(at? E i).map λd=>(d,S):=nr rfl
@[simp] theorem Ws:evs [] E S=some ([],S):=nr rfl
@[simp] theorem DZ:evs (f::fs) E S=(f E S).bind λr=>(evs fs E r.2).map λq=>(r.1::q.1,q.2):=nr rfl
@[simp] theorem UI{cf:Bool}:OR cf op fs E S=(evs fs E S).bind λr=>(op (r.1.map (dr r.2))).bind λw=>fin cf w r.2:=nr rfl
@[simp] theorem gN{cf:Bool}:fin cf (.val d) S=some (d,S):=by cases cf<;>rfl
@[simp] theorem iY:fin false (.own r) S=some (.lst r,S):=nr rfl
@[simp] theorem gz:fin true (.own r) S=some (.ref S.length,S++[.lst r]):=nr rfl
@[simp] theorem fJ:dr S .non=.val .non:=nr rfl
@[simp] theorem hJ{b:Bool}:dr S (.bl b)=.val (.bl b):=nr rfl
@[simp] theorem fv{i:Int}:dr S (.int i)=.val (.int i):=nr rfl
@[simp] theorem fL{x:Str}:dr S (.str x)=.val (.str x):=nr rfl
@[simp] theorem gq{x:String}:dr S (.ty x)=.val (.ty x):=nr rfl
@[simp] theorem fX:dr S (.tup r)=.val (.tup r):=nr rfl
@[simp] theorem fP:dr S (.lst r)=.val (.lst r):=nr rfl
@[simp] theorem gG{ns:List Int}:dr S (.scr ns)=.val (.scr ns):=nr rfl
theorem A7{n:Nat}(h:S[n]?=Gc (.lst r)):dr S (.ref n)=.own r:=by
 show(match S[n]? with|some (.lst ds)=>Wv.own ds|_=>.val (.ref n))=_
 rw[h]
theorem AX{n:Nat}(h:S[n]?=Gc (.lst r)):E7 S n=Gc r:=by
 unfold E7
 rw[h]
@[simp] theorem fQ:fz (.val d)=d:=nr rfl
noncomputable def du(g:Ev)(E:En)(r:D×Sto):jO (D×Sto):=match r.1 with| .bl true=>g E r.2| .bl false=>Gc (.bl false,r.2)|_=>none
noncomputable def orK(g:Ev)(E:En)(r:D×Sto):jO (D×Sto):=match r.1 with| .bl false=>g E r.2| .bl true=>Gc (.bl true,r.2)|_=>none
noncomputable def fT(r:D×Sto):jO (D×Sto):=match r.1 with| .bl b=>Gc (.bl (!b),r.2)|_=>none
noncomputable def ifK(f g:Ev)(E:En)(r:D×Sto):jO (D×Sto):=match r.1 with| .bl true=>f E r.2| .bl false=>g E r.2|_=>none
@[simp] theorem fm:du g E (.bl true,S)=g E S:=nr rfl
@[simp] theorem fG:du g E (.bl false,S)=some (.bl false,S):=nr rfl
@[simp] theorem gW:orK g E (.bl false,S)=g E S:=nr rfl
@[simp] theorem iI:orK g E (.bl true,S)=some (.bl true,S):=nr rfl
@[simp] theorem fg{b:Bool}:fT (.bl b,S)=some (.bl (!b),S):=nr rfl
@[simp] theorem gi:ifK f g E (.bl true,S)=f E S:=nr rfl
@[simp] theorem ia:ifK f g E (.bl false,S)=g E S:=nr rfl
@[simp] theorem bB:Jr f g E S=(f E S).bind (du g E):=nr rfl
@[simp] theorem Po:eOr f g E S=(f E S).bind (orK g E):=nr rfl
@[simp] theorem bq:R1 f E S=(f E S).bind fT:=nr rfl
@[simp] theorem er:eIf c f g E S=(c E S).bind (ifK f g E):=nr rfl
@[simp] theorem bL:CS fs E S=(evs fs E S).bind λr=>if r.1.length<=sizeLine then some (.tup r.1,r.2)else none:=nr rfl
@[simp] theorem bu{cf:Bool}:VA cf fs E S=(evs fs E S).bind λr=>if r.1.length<=sizeLine then fin cf (.own r.1) r.2 else none:=nr rfl
@[simp] theorem Yj{F:Fn}:AM F fs E S=(evs fs E S).bind λr=>F r.1 r.2:=nr rfl
noncomputable def gF(op:Mo)(fs:Wp Ev)(E:En)(r:D×Sto):jO (D×Sto):=match r.1 with
 | .ref n=>(E7 r.2 n).bind λ_=>(evs fs E r.2).bind λp=>(E7 p.2 n).bind λds=>(op p.2 ds p.1).map λq=>(q.1,p.2.set n (.lst q.2))
 |_=>none
@[simp] theorem bR{op:Mo}{n:Nat}:gF op fs E (.ref n,S)=(E7 S n).bind λ_=>(evs fs E S).bind λp=>(E7 p.2 n).bind λds=>(op p.2 ds p.1).map λq=>(q.1,p.2.set n (.lst q.2)):=nr rfl
@[simp] theorem bZ{op:Mo}:Pe op f fs E S=(f E S).bind (gF op fs E):=nr rfl
@[simp] theorem bw:P9 S r [d]=if r.length<sizeLine then some (.non,r++[d])else none:=nr rfl
variable{x y:Ex}
noncomputable def Yb(y:Ex)(r:Fl×En×Sto):jO (Fl×En×Sto):=match r.1 with| .nx=>y r.2.1 r.2.2| .ret w=>Gc (.ret w,r.2)
noncomputable def cu(x y:Ex)(E:En)(r:D×Sto):jO (Fl×En×Sto):=match r.1 with| .bl true=>x E r.2| .bl false=>y E r.2|_=>none
@[simp] theorem Wm:Yb y (.nx,E,S)=y E S:=nr rfl
@[simp] theorem bQ{w:D}:Yb y (.ret w,E,S)=some (.ret w,E,S):=nr rfl
@[simp] theorem fH:cu x y E (.bl true,S)=x E S:=nr rfl
@[simp] theorem fD:cu x y E (.bl false,S)=y E S:=nr rfl
@[simp] theorem QL:Ad x y E S=(x E S).bind (Yb y):=nr rfl
@[simp] theorem bD:EC E S=some (.nx,E,S):=nr rfl
@[simp] theorem TY:xIf c x y E S=(c E S).bind (cu x y E):=nr rfl
@[simp] theorem aw:Ba f E S=(f E S).map λr=>(.ret r.1,E,r.2):=nr rfl
@[simp] theorem Ur:By i f E S=(f E S).map λr=>(.nx,E.set i (some r.1),r.2):=nr rfl
@[simp] theorem Uc:Df f E S=(f E S).map λr=>(.nx,E,r.2):=nr rfl
noncomputable def fW(d b:D)(E:En)(i:D×Sto):jO (Fl×En×Sto):=match b,i.1 with
 | .ref n,.int j=>(E7 i.2 n).bind λds=>(ixN ds.length j).map λm=>(.nx,E,i.2.set n (.lst (ds.set m d)))
 |_,_=>none
@[simp] theorem ax{n:Nat}{j:Int}:fW d (.ref n) E (.int j,S)=(E7 S n).bind λds=>(ixN ds.length j).map λm=>(.nx,E,S.set n (.lst (ds.set m d))):=nr rfl
@[simp] theorem bF{k o:Ev}:NN k f o E S=(k E S).bind λr=>(f E r.2).bind λb=>(o E b.2).bind (fW r.1 b.1 E):=nr rfl
@[simp] theorem Vd{t:Tf}:Ml t f E S=(f E S).bind λr=>(t r.1 E r.2).map λE'=>(.nx,E',r.2):=nr rfl
@[simp] theorem ba{i j:Nat}:Rm i j f g E S=(f E S).bind λr=>(g E r.2).map λq=>(.nx,(E.set i (some r.1)).set j (some q.1),q.2):=by
  unfold Rm
  rw[DZ]
  cases f E S with
  |none=>rfl
  |some r=>
   rw[Bx,Bx,DZ]
   cases g E r.2 with
   |none=>rfl
   |some q=>rfl
@[simp] theorem W5:tNm i d E S=some (E.set i (some d)):=nr rfl
@[simp] theorem eQ{ts:List Tf}{ds:List D}:tTp ts (.tup ds) E S=tMs ts ds E S:=nr rfl
@[simp] theorem de{ts:List Tf}{ds:List D}:tTp ts (.lst ds) E S=tMs ts ds E S:=nr rfl
@[simp] theorem cm{ts:List Tf}{n:Nat}:tTp ts (.ref n) E S=(E7 S n).bind λds=>tMs ts ds E S:=nr rfl
@[simp] theorem ck:tMs [] [] E S=some E:=nr rfl
@[simp] theorem bA{t:Tf}{ts:List Tf}{ds:List D}:tMs (t::ts) (d::ds) E S=(t d E S).bind λE1=>tMs ts ds E1 S:=nr rfl
@[simp] theorem ZT{N:Nat}{ds:List D}:Av (A6 N x) ds S=(x (ds.map some++List.replicate (N-ds.length) none) S).map λr=>(flD r.1,r.2.2):=by rw[OL];rfl
@[simp] theorem fM:flD .nx=.non:=nr rfl
@[simp] theorem fC:flD (.ret d)=d:=nr rfl
@[simp] theorem dm{i j:Int}:C4 (.val (.int i)) (.val (.int j))=some (.val (.int (i+j))):=nr rfl
@[simp] theorem dW{xs ys:List D}:C4 (.val (.tup xs)) (.val (.tup ys))=if xs.length+ys.length<=sizeLine then some (.val (.tup (xs++ys)))else none:=nr rfl
@[simp] theorem c9{xs ys:List D}:C4 (.val (.lst xs)) (.val (.lst ys))=if xs.length+ys.length<=sizeLine then some (.own (xs++ys))else none:=nr rfl
@[simp] theorem cF{i j:Int}:CW (.val (.int i)) (.val (.int j))=if Dp i j=true then some (.val (.int (i*j)))else none:=nr rfl
@[simp] theorem QO{k:Int}:CW (.val (.tup r)) (.val (.int k))=if(!r.isEmpty && decide (k<=0) && decide (-(2^63)<=k))=true then some (.val (.tup []))else if(!r.isEmpty && decide (1<=k) && decide (r.length*k.toNat<=sizeLine))=true then some (.val (.tup (List.replicate k.toNat r).flatten))else none:=nr rfl
@[simp] theorem c7:asS (.own r)=some r:=nr rfl
@[simp] theorem dj:asS (.val (.lst r))=some r:=nr rfl
@[simp] theorem fB:asS (.val (.tup r))=some r:=nr rfl
@[simp] theorem dU{ns:List Int}:asS (.val (.scr ns))=some (ns.map .int):=nr rfl
@[simp] theorem Xm{j:Int}:wIx w (.val (.int j))=(asS w).bind λds=>(atI ds j).map .val:=nr rfl
theorem De{α:Type}{xs:Wp α}{n:Nat}{x:α}(h:xs[n]?=Gc x):atI xs (n:Int)=Gc x:=YW h
theorem WE{α:Type}{xs:Wp α}{i:Int}(h0:0<=i)(h1:i<xs.length):atI xs i=Gc (xs[i.toNat]'(by lia)):=by
 have:atI xs ((i.toNat:Nat):Int)=Gc (xs[i.toNat]'(by lia)):=De (jS (by lia))
 rwa [kU h0]at this
@[simp] theorem iU:atI (a::r) 0=some a:=De (n:=0) rfl
@[simp] theorem iZ:atI (a::b::r) 1=some b:=De (n:=1) rfl
@[simp] theorem ic:atI (a::b::e::r) 2=some e:=De (n:=2) rfl
@[simp] theorem ib:atI (a::b::e::h::r) 3=some h:=De (n:=3) rfl
@[simp] theorem gc{k:D}:atI (a::b::e::h::k::r) 4=some k:=De (n:=4) rfl
theorem OG{n k:Nat}(h:k<n):ixN n (k:Int)=Gc k:=by
 unfold ixN
 simp
 lia
theorem Qw{n:Nat}{i:Int}(h0:0<=i)(h1:i<n):ixN n i=Gc i.toNat:=by
 have:=OG (n:=n) (k:=i.toNat) (by lia)
 rwa [kU h0]at this
@[simp] theorem iX{n:Nat}:ixN (n+1) 0=some 0:=Qw (by decide) (by lia)
@[simp] theorem gO{n:Nat}:ixN (n+2) 1=some 1:=Qw (by decide) (by lia)
@[simp] theorem iM{n:Nat}:ixN (n+3) 2=some 2:=Qw (by decide) (by lia)
@[simp] theorem gE{i j:Int}:deq (.int i) (.int j)=(i==j):=nr rfl
@[simp] theorem dR{i j:Int}:Qa (.int i) (.int j)=true:=nr rfl
@[simp] theorem dg{w':Wv}:wEq w w'=if Qa (fz w) (fz w')=true then some (.val (.bl (deq (fz w) (fz w'))))else none:=nr rfl
@[simp] theorem dA{w':Wv}:wNe w w'=if Qa (fz w) (fz w')=true then some (.val (.bl (!deq (fz w) (fz w'))))else none:=nr rfl
@[simp] theorem cQ{i j:Int}:wLt (.val (.int i)) (.val (.int j))=some (.val (.bl (decide (i<j)))):=nr rfl
@[simp] theorem eN{i j:Int}:wLe (.val (.int i)) (.val (.int j))=some (.val (.bl (decide (i<=j)))):=nr rfl
@[simp] theorem cZ{i j:Int}:wGt (.val (.int i)) (.val (.int j))=some (.val (.bl (decide (j<i)))):=nr rfl
@[simp] theorem cc{i j:Int}:wGe (.val (.int i)) (.val (.int j))=some (.val (.bl (decide (j<=i)))):=nr rfl
@[simp] theorem cG{i j:Int}:Qn (.val (.int i)) (.val (.int j))=some (.val (.int (i-j))):=nr rfl
@[simp] theorem ay{i:Int}:R3 (.val (.int i))=some (.val (.int (-i))):=nr rfl
@[simp] theorem cL{i j:Int}:Pf (.val (.int i)) (.val (.int j))=(if 0<j then some (.val (.int (i % j)))else none):=by
  show sV Wv.val (if 0<j then Gc (D.int (i % j))else none)=_
  split<;>rfl
@[simp] theorem Yo{i j:Int}:Nd (.val (.int i)) (.val (.int j))=(if(decide (0<j) && decide (j.natAbs<GC))=true then some (.val (.int (i / j)))else none):=by
  show sV Wv.val (if(decide (0<j) && decide (j.natAbs<GC))=true then Gc (D.int (i / j))else none)=_
  split<;>rfl
@[simp] theorem U7{i j:Int}:YZ (.val (.int i)) (.val (.int j))=if(decide (0<=j) && decide (j<=1000) && decide (i.natAbs<2^64))=true then some (.val (.int (i^j.toNat)))else none:=by
  show sV Wv.val (if(decide (0<=j) && decide (j<=1000) && decide (i.natAbs<2^64))=true then Gc (D.int (i^j.toNat))else none)=_
  split<;>rfl
@[simp] theorem ar{i:Int}:Yc (.val (.int i))=some (.val (.int (i.natAbs:Int))):=by
  show Gc (Wv.val (D.int (if i<0 then-i else i)))=_
  congr 3
  split<;>lia
@[simp] theorem bc:Ha (.own r)=some (.val (.int r.length)):=nr rfl
@[simp] theorem VH:Ha (.val (.lst r))=some (.val (.int r.length)):=nr rfl
@[simp] theorem bz:Ha (.val (.tup r))=some (.val (.int r.length)):=nr rfl
@[simp] theorem bJ{ns:List Int}:Ha (.val (.scr ns))=some (.val (.int ns.length)):=by
  show Gc (Wv.val (D.int ((ns.map D.int).length:Nat)))=_
  rw[kF]
@[simp] theorem Yh:Fd w=(asS w).map λds=>.val (.tup ds):=nr rfl
@[simp] theorem af:PR w=(asS w).map λds=>.own ds:=nr rfl
@[simp] theorem gA{b:Bool}:WJ (.val (.bl b))=some (.val (.int (if b then 1 else 0))):=nr rfl
@[simp] theorem cJ{i j:Int}:bP (.val (.int i)) (.val (.int j))=some (.val (.int (if j>i then j else i))):=nr rfl
@[simp] theorem av{i j:Int}:Ya (.val (.int i)) (.val (.int j))=some (.val (.int (if j<i then j else i))):=nr rfl
@[simp] theorem bN{T:String}:aM w (.val (.ty T))=if RO T=true then(kdW w).map λk=>.val (.bl (k.isA T))else none:=nr rfl
@[simp] theorem dC:RO "int"=true:=by decide
@[simp] theorem bI:RO "bool"=true:=by decide
theorem AU{n:Nat}(h:n<=1000):n<=sizeLine:=jY h (by decide)
@[simp] theorem sz1:(1:Nat)<=sizeLine:=AU (by decide)
@[simp] theorem sz2:(2:Nat)<=sizeLine:=AU (by decide)
@[simp] theorem sz3:(3:Nat)<=sizeLine:=AU (by decide)
@[simp] theorem sz4:(4:Nat)<=sizeLine:=AU (by decide)
@[simp] theorem sz5:(5:Nat)<=sizeLine:=AU (by decide)
@[simp] theorem sz6:(6:Nat)<=sizeLine:=AU (by decide)
@[simp] theorem IE:E8 E S=some (.bl true,S):=nr rfl
@[simp] theorem b0{s:Sr}{t:Tf}{b:Ex}:QG s t b E S=(s E S).bind λr=>MW r.1.2 t b r.1.1 E r.2:=nr rfl
@[simp] theorem A5:gOk [] S:=λ_ h=>(nomatch h)
theorem Nh{gs:Gd}{t:Tf}{b:Ex}(h:gOk gs S):MW gs t b [] E S=Gc (.nx,E,S):=by
 unfold MW
 rw[kJ h]
theorem SA {gs : Gd} {t : Tf} {b : Ex} {ds : Wp D} (h : gOk gs S) : MW gs t b (d :: ds) E S = (t d E S).bind fun E1 => (b E1 S).bind fun r => match r.1 with
    | .nx => MW gs t b ds r.2.1 r.2.2
    | .ret w => Gc (.ret w, r.2) := by
  rw [MW, kJ h]
  all_goals rfl
theorem Gp{gs:Gd}{t:Tf}{b:Ex}{ds:Wp D}(h:gOk gs S):MW gs t b (d::ds) E S=(t d E S).bind λE1=>(b E1 S).bind (Yb (MW gs t b ds)):=by
 rw[SA h]
 rfl
@[simp] theorem cD:Mu f E S=(f E S).bind λr=>(sqD r.2 r.1).map λp=>(p,r.2):=nr rfl
@[simp] theorem fA:sqD S (.tup r)=some (r,[]):=nr rfl
@[simp] theorem dQ:sqD S (.lst r)=some (r,[]):=nr rfl
theorem Hg{n:Nat}(h:S[n]?=Gc (.lst r)):sqD S (.ref n)=Gc (r,[(n,r)]):=by
 show(E7 S n).map (λds=>(ds,[(n,ds)]))=_
 rw[AX h]
 rfl
@[simp] theorem au:Yg f E S=(f E S).bind λr=>(sqD r.2 r.1).map λp=>((MV 0 p.1,p.2),r.2):=nr rfl
@[simp] theorem aq:Xa f g E S=(f E S).bind λr=>(g E r.2).bind λq=>(sqD q.2 r.1).bind λa=>(sqD q.2 q.1).map λb=>((NS a.1 b.1,a.2++b.2),q.2):=by
  unfold Xa
  rw[DZ]
  cases f E S with
  |none=>rfl
  |some r=>
   rw[Bx,Bx,DZ]
   cases g E r.2 with
   |none=>rfl
   |some q=>rfl
noncomputable def KO(j:Int):kG:=decide (-(2^62)<=j) && decide (j<2^62)
theorem FK{j:Int}(h: -1000000<=j)(g:j<=1000000):KO j=true:=by
 unfold KO
 rw[jW]
 exact⟨mE (by lia),mE (by lia)⟩
noncomputable def gK(S:Sto):D->jO ((Wp D×Gd)×Sto)
 | .int j=>if KO j=true then Gc ((Mq 0 j.toNat,[]),S)else none
 |_=>none
@[simp] theorem cA{j:Int}:gK S (.int j)=if KO j=true then some ((Mq 0 j.toNat,[]),S)else none:=nr rfl
@[simp] theorem br:QF [f] E S=(f E S).bind λr=>gK r.2 r.1:=by
  unfold QF
  rw[DZ]
  cases f E S with
  |none=>rfl
  |some r=>
   obtain⟨d,S1⟩:=r
   rw[Bx,Ws,eU,Bx,Bx]
   cases d<;>rfl
@[simp] theorem Yr{cf:Bool}{cap:List Nat}{m:Nat}{s:Sr}{t:Tf}:NA cf cap m s t c f E S=(s E S).bind λr=>(Ce r.1.2 t c f r.1.1 [] (Zw cap m E) r.2).bind λq=>fin cf (.own q.1) q.2:=nr rfl
@[simp] theorem bW{cap:List Nat}{m:Nat}:Zw cap m E=cap.map (at? E)++List.replicate m none:=nr rfl
@[simp] theorem RT{i:Int}:K2 (.int i::r)=(K2 r).map λns=>i::ns:=by
  unfold K2
  rw[ur]
  show(do let r1<-Gc i;let rs<-List.mapM intD r;pure (r1::rs))=_
  cases List.mapM intD r<;>rfl
theorem Gk:∀(ns:Wp Int),K2 (ns.map D.int)=Gc ns
 | []=>rfl
 |n::ns=>by rw[kY,RT,Gk ns];rfl
@[simp] theorem bH:VM (.own r)=(K2 r).map λns=>.val (.int ns.sum):=nr rfl
@[simp] theorem cH:VM (.val (.lst r))=(K2 r).map λns=>.val (.int ns.sum):=nr rfl
@[simp] theorem fR:Ry true w (.val .non)=some (.val (.bl (!isN w))):=nr rfl
@[simp] theorem iJ{i:Int}{w:Wv}:JR true false [w,.val (.int i)]=wSl (some i) none w:=nr rfl
@[simp] theorem iH{i:Int}{w:Wv}:JR false true [w,.val (.int i)]=wSl none (some i) w:=nr rfl
@[simp] theorem iC{i j:Int}{w:Wv}:JR true true [w,.val (.int i),.val (.int j)]=wSl (some i) (some j) w:=nr rfl
@[simp] theorem eg{lo hi:Option Int}:wSl lo hi (.val (.tup r))=some (.val (.tup (Kh r lo hi))):=nr rfl
end
structure DV(A:Wp Nat)(S S':Sto):Prop where
 len:S.length<=S'.length
 keep:∀n,n<S.length->n∉A->S'[n]?=S[n]?
theorem DV.refl{A:Wp Nat}{S:Sto}:DV A S S:=⟨ja _,λ_ _ _=>rfl⟩
theorem DV.trans{A:Wp Nat}{S S' S2:Sto}(h:DV A S S')(g:DV A S' S2):DV A S S2:=⟨jY h.len g.len,λn hn ha=>(g.keep n (jV hn h.len) ha).trans (h.keep n hn ha)⟩
theorem DV.mono{A B:Wp Nat}{S S':Sto}(h:DV A S S')(s:∀n∈A,n∈B):DV B S S':=⟨h.len,λn hn hb=>h.keep n hn λz=>hb (s n z)⟩
theorem DV.get{A:Wp Nat}{S S':Sto}(h:DV A S S'){n:Nat}{c:Cl}(e:S[n]?=Gc c)(ha:n∉A):S'[n]?=Gc c:=by
 rw[h.keep n (jb.mp e).1 ha];exact e
theorem DV.app{A:Wp Nat}{S T:Sto}:DV A S (S++T):=⟨by simp,λn hn _=>jT hn⟩
theorem DV.set{A:Wp Nat}{S:Sto}{n:Nat}{c:Cl}(h:n∈A):DV A S (S.set n c):=⟨by simp,λm hm ha=>jU (λz=>ha (by rw[<-z];exact h))⟩
theorem DV.new{A:Wp Nat}{S S' S2:Sto}(h:DV A S S')(g:DV (A++B) S' S2)(hb:∀n∈B,S.length<=n):DV A S S2:=⟨jY h.len g.len,λn hn ha=>(g.keep n (jV hn h.len) (λz=>by
 rcases kB.mp z with z|z
 .exact ha z
 .have:=hb n z;lia)).trans (h.keep n hn ha)⟩
theorem As{S:Sto}{n:Nat}{c:Cl}(h:S[n]?=Gc c):n<S.length:=(jb.mp h).1
section
variable{E:En}{S:Sto}{f g h k l m:Ev}{cf:kG}{F:Fn}
@[simp high] theorem bO{op:Op1}:OR cf (o1 op) [f] E S=(f E S).bind λr=>(op (dr r.2 r.1)).bind λw=>fin cf w r.2:=by
  rw[UI,DZ];cases f E S<;>rfl
@[simp high] theorem V6{op:Op2}:OR cf (o2 op) [f,g] E S=(f E S).bind λr=>(g E r.2).bind λq=>(op (dr q.2 r.1) (dr q.2 q.1)).bind λw=>fin cf w q.2:=by
  rw[UI,DZ]
  cases f E S with
  |none=>rfl
  |some r=>rw[Bx,Bx,DZ];cases g E r.2<;>rfl
theorem gC:evs [f] E S=(f E S).bind λr=>Gc ([r.1],r.2):=by rw[DZ];cases f E S<;>rfl
theorem gB:evs [f,g] E S=(f E S).bind λr=>(g E r.2).bind λq=>Gc ([r.1,q.1],q.2):=by
 rw[DZ];cases f E S with
 |none=>rfl
 |some r=>rw[Bx,Bx,gC];cases g E r.2<;>rfl
theorem fO:evs [f,g,h] E S=(f E S).bind λr=>(g E r.2).bind λq=>(h E q.2).bind λu=>Gc ([r.1,q.1,u.1],u.2):=by
 rw[DZ];cases f E S with
 |none=>rfl
 |some r=>rw[Bx,Bx,gB];cases g E r.2 with
  |none=>rfl
  |some q=>rw[Bx,Bx];cases h E q.2<;>rfl
theorem gZ:evs [f,g,h,k] E S=(f E S).bind λr=>(g E r.2).bind λq=>(h E q.2).bind λu=>(k E u.2).bind λv=>Gc ([r.1,q.1,u.1,v.1],v.2):=by
 rw[DZ];cases f E S with
 |none=>rfl
 |some r=>rw[Bx,Bx,fO];cases g E r.2 with
  |none=>rfl
  |some q=>rw[Bx,Bx];cases h E q.2 with
   |none=>rfl
   |some u=>rw[Bx,Bx];cases k E u.2<;>rfl
@[simp high] theorem iB:evs [f] E S=(f E S).bind λr=>some ([r.1],r.2):=gC
@[simp high] theorem gj:evs [f,g] E S=(f E S).bind λr=>(g E r.2).bind λq=>some ([r.1,q.1],q.2):=gB
@[simp high] theorem gy:evs [f,g,h] E S=(f E S).bind λr=>(g E r.2).bind λq=>(h E q.2).bind λu=>some ([r.1,q.1,u.1],u.2):=fO
@[simp high] theorem gu:evs [f,g,h,k] E S=(f E S).bind λr=>(g E r.2).bind λq=>(h E q.2).bind λu=>(k E u.2).bind λv=>some ([r.1,q.1,u.1,v.1],v.2):=gZ
@[simp high] theorem jB{d:D}:eV 0 (some d::E) S=some (d,S):=nr rfl
@[simp high] theorem jF{d:D}{o0:Option D}:eV 1 (o0::some d::E) S=some (d,S):=nr rfl
@[simp high] theorem iw{d:D}{o0 o1:Option D}:eV 2 (o0::o1::some d::E) S=some (d,S):=nr rfl
@[simp high] theorem jJ{d:D}{o0 o1 o2:Option D}:eV 3 (o0::o1::o2::some d::E) S=some (d,S):=nr rfl
@[simp high] theorem jI{d:D}{o0 o1 o2 o3:Option D}:eV 4 (o0::o1::o2::o3::some d::E) S=some (d,S):=nr rfl
@[simp high] theorem jH{d:D}{o0 o1 o2 o3 o4:Option D}:eV 5 (o0::o1::o2::o3::o4::some d::E) S=some (d,S):=nr rfl
@[simp high] theorem jK{d:D}{o0 o1 o2 o3 o4 o5:Option D}:eV 6 (o0::o1::o2::o3::o4::o5::some d::E) S=some (d,S):=nr rfl
@[simp high] theorem jC{d:D}{o0 o1 o2 o3 o4 o5 o6:Option D}:eV 7 (o0::o1::o2::o3::o4::o5::o6::some d::E) S=some (d,S):=nr rfl
@[simp high] theorem jE{d:D}{o0 o1 o2 o3 o4 o5 o6 o7:Option D}:eV 8 (o0::o1::o2::o3::o4::o5::o6::o7::some d::E) S=some (d,S):=nr rfl
@[simp high] theorem ir{d:D}{o0 o1 o2 o3 o4 o5 o6 o7 o8:Option D}:eV 9 (o0::o1::o2::o3::o4::o5::o6::o7::o8::some d::E) S=some (d,S):=nr rfl
@[simp high] theorem hU{d:D}{o0 o1 o2 o3 o4 o5 o6 o7 o8 o9:Option D}:eV 10 (o0::o1::o2::o3::o4::o5::o6::o7::o8::o9::some d::E) S=some (d,S):=nr rfl
@[simp high] theorem iN{d:D}{o0 o1 o2 o3 o4 o5 o6 o7 o8 o9 o10:Option D}:eV 11 (o0::o1::o2::o3::o4::o5::o6::o7::o8::o9::o10::some d::E) S=some (d,S):=nr rfl
@[simp high] theorem ig{d:D}{o0 o1 o2 o3 o4 o5 o6 o7 o8 o9 o10 o11:Option D}:eV 12 (o0::o1::o2::o3::o4::o5::o6::o7::o8::o9::o10::o11::some d::E) S=some (d,S):=nr rfl
@[simp high] theorem ik{d:D}{o0 o1 o2 o3 o4 o5 o6 o7 o8 o9 o10 o11 o12:Option D}:eV 13 (o0::o1::o2::o3::o4::o5::o6::o7::o8::o9::o10::o11::o12::some d::E) S=some (d,S):=nr rfl
@[simp 20000] theorem fq{op:Op2}{d:D}:OR cf (o2 op) [f,eC d] E S=(f E S).bind λr=>(op (dr r.2 r.1) (dr r.2 d)).bind λw=>fin cf w r.2:=by
  rw[V6];cases f E S<;>rfl
@[simp high] theorem bV{i:Nat}{y:Ex}:Ad (By i f) y E S=(f E S).bind λr=>y (E.set i (some r.1)) r.2:=by
  rw[QL,Ur];cases f E S<;>rfl
@[simp high] theorem cB{y:Ex}:Ad (Df f) y E S=(f E S).bind λr=>y E r.2:=by
  rw[QL,Uc];cases f E S<;>rfl
end
section
theorem mulL{i j:Int}(h: -18446744073709551616<i)(g:i<18446744073709551616):Dp i j=true:=by
 unfold Dp
 rw[kq]
 exact .inl (mE (by lia))
theorem mulR{i j:Int}(h: -18446744073709551616<j)(g:j<18446744073709551616):Dp i j=true:=by
 unfold Dp
 rw[kq,kq]
 exact .inr (.inl (mE (by lia)))
theorem DM{n k:Nat}(h:n<2^k)(hk:k<=8000):n<GC:=jV h (ky (by decide) hk)
theorem Ef{n:Int}(h0:0<n)(h1:n<1152921504606846976):n.natAbs<GC:=DM (k:=60) (show n.natAbs<2^60 by lia) (by decide)
variable{S:Sto}
noncomputable def Pg(a b:Int):Int:=((pY a.natAbs b.natAbs:Nat):Int)
theorem Ln{c:Ev}{b:Ex}{k:Nat}{E:En}:Hn c b (k+1) E S=(c E S).bind λr=>match r.1 with
 | .bl true=>(b E r.2).bind λp=>match p.1 with
   | .nx=>Hn c b k p.2.1 p.2.2
   | .ret w=>Gc (.ret w,p.2)
 | .bl false=>Gc (.nx,E,r.2)
 |_=>none:=rfl
theorem Qj{c:Ev}{b:Ex}{k:Nat}{E E2:En}{S1 S2:Sto}(e1:c E S=Gc (.bl true,S1))(e2:b E S1=Gc (.nx,E2,S2)):Hn c b (k+1) E S=Hn c b k E2 S2:=by
 rw[Ln,e1]
 show(b E S1).bind _=_
 rw[e2]
 rfl
theorem Qu{c:Ev}{b:Ex}{k:Nat}{E:En}{S1:Sto}(e1:c E S=Gc (.bl false,S1)):Hn c b (k+1) E S=Gc (.nx,E,S1):=by
 rw[Ln,e1]
 rfl
theorem Q1:∀(k:Nat) (x y:Nat),y<k->Hn (eOp (o2 wNe) [eV 1,eC (.int 0)]) (Rm 0 1 (eV 1) (eOp (o2 Pf) [eV 0,eV 1])) k [Gc (.int x),Gc (.int y)] S=Gc (.nx,[Gc (.int (pY x y:Nat)),Gc (.int 0)],S)
 |0,x,y,h=>absurd h (uR _)
 |k+1,x,y,h=>by
  by_cases hy:y=0
  .subst hy
   rw[Qu (S1:=S) (by simp)]
   simp
  .have hy2:(((y:Nat):Int)==0)=false:=by simpa using hy
   have ih:=Q1 k y (x % y) (by have:=y8 x (oK hy);lia)
   rw[show((x % y:Nat):Int)=(x:Int) % (y:Int) by lia]at ih
   have hy4:0<y:=oK hy
   rw[Qj (S1:=S) (S2:=S) (E2:=[Gc (.int y),Gc (.int ((x:Int) % (y:Int)))]) (by simp[hy2]) (by simp[hy4]),ih]
   rw[qr x y,xn y x,qr]
theorem Za(a b:Int):CA [.int a,.int b] S=Gc (.int (Pg a b),S):=by
 have:=Q1 (S:=S) (b.natAbs+2) a.natAbs b.natAbs (by lia)
 simp[CA,FE,Om,RN,this,Pg]
theorem LV:∀(k:Nat) (x y:Nat),y<k->Hn (eOp (o2 wGt) [eV 1,eC (.int 0)]) (Rm 0 1 (eV 1) (eOp (o2 Pf) [eV 0,eV 1])) k [Gc (.int x),Gc (.int y)] S=Gc (.nx,[Gc (.int (pY x y:Nat)),Gc (.int 0)],S)
 |0,x,y,h=>absurd h (uR _)
 |k+1,x,y,h=>by
  by_cases hy:y=0
  .subst hy
   rw[Qu (S1:=S) (by simp)]
   simp
  .have ih:=LV k y (x % y) (by have:=y8 x (oK hy);lia)
   rw[show((x % y:Nat):Int)=(x:Int) % (y:Int) by lia]at ih
   have hy4:0<y:=oK hy
   rw[Qj (S1:=S) (S2:=S) (E2:=[Gc (.int y),Gc (.int ((x:Int) % (y:Int)))]) (by simp[hy4]) (by simp[hy4]),ih]
   rw[qr x y,xn y x,qr]
theorem TM(a b:Int)(ha:0<=a)(hb:0<=b):GB [.int a,.int b] S=Gc (.int (Pg a b),S):=by
 have:=LV (S:=S) (b.natAbs+2) a.natAbs b.natAbs (by lia)
 have e1:((a.natAbs:Nat):Int)=a:=by lia
 have e2:((b.natAbs:Nat):Int)=b:=by lia
 rw[e1,e2]at this
 simp[GB,Kb,Om,RN,this,Pg]
noncomputable def lowP(t b:Int):Int×Int:=(t / Pg t b,b / Pg t b)
theorem Qy{t b:Int}(h:0<b):0<Pg t b:=by
 unfold Pg
 have:0<pY t.natAbs b.natAbs:=Nat.gcd_pos_of_pos_right _ (by lia)
 lia
theorem Tc{t b:Int}(h:0<b):(Pg t b).natAbs<=b.natAbs:=by
 unfold Pg
 have:pY t.natAbs b.natAbs<=b.natAbs:=Nat.gcd_le_right _ (by lia)
 lia
noncomputable def amD(p:Int×Int):D:=.tup [.int p.1,.int p.2]
theorem Jn{t b:Int}(h:0<b)(hb:b.natAbs<GC):C8 [.int t,.int b] S=Gc (amD (lowP t b),S):=by
 have h1:=Qy (t:=t) h
 have h2:(Pg t b).natAbs<GC:=kz (Tc h) hb
 simp[C8,Mp,Za,h1,h2,amD,lowP]
theorem VF{t b:Int}:Pg (t.natAbs:Int) b=Pg t b:=by
 unfold Pg
 rw[lU]
theorem QA{t b:Int}(h:0<b)(hb:b.natAbs<GC):Bv [.int t,.int b] S=Gc (amD (lowP t b),S):=by
 have h1:=Qy (t:=t) h
 have h2:(Pg t b).natAbs<GC:=kz (Tc h) hb
 have h3:=TM (S:=S) (t.natAbs:Int) b (by lia) (by lia)
 rw[VF]at h3
 simp[Bv,M8,h3,h1,h2,amD,lowP]
noncomputable def aD(q:Rat):D:=.tup [.int q.num,.int q.den]
def Sz(k:Nat)(q:Rat):Prop:=q.num.natAbs<2^k/\q.den<2^k
theorem D3(q:Rat):(q.num:Rat) / (q.den:Rat)=q:=by
 rw[<-uH,Rat.mkRat_self]
theorem Im(q:Rat):(q.den:Rat)≠0:=by
 have:=q.den_nz
 exact_mod_cast this
theorem MI(t:Int)(n:Nat)(h:0<n):((t:Rat) / (n:Rat)).num=t / (pY t.natAbs n:Nat)/\((t:Rat) / (n:Rat)).den=n / pY t.natAbs n:=by
 have e:(t:Rat) / (n:Rat)=mkRat t n:=by rw[uH]
 rw[e,Rat.mkRat_def,dif_neg (by lia),Rat.normalize_eq]
 exact⟨rfl,rfl⟩
theorem JA{t b:Int}(h:0<b):amD (lowP t b)=aD ((t:Rat) / (b:Rat)):=by
 obtain⟨n,rfl⟩:∃n:Nat,b=n:=⟨b.natAbs,by lia⟩
 obtain⟨h1,h2⟩:=MI t n (by lia)
 unfold amD aD lowP Pg
 rw[show(((n:Nat):Int):Rat)=((n:Nat):Rat)from rfl,h1,h2]
 simp
theorem Mv{t b:Int}{k:Nat}(h:0<b)(ht:t.natAbs<2^k)(hb:b.natAbs<2^k):Sz k ((t:Rat) / (b:Rat)):=by
 obtain⟨n,rfl⟩:∃n:Nat,b=n:=⟨b.natAbs,by lia⟩
 obtain⟨h1,h2⟩:=MI t n (by lia)
 unfold Sz
 rw[show(((n:Nat):Int):Rat)=((n:Nat):Rat)from rfl,h1,h2]
 exact⟨kz (Int.natAbs_ediv_le_natAbs _ _) ht,kz (uS _ _) (by simpa using hb)⟩
theorem FT{a b j k:Nat}(ha:a<2^j)(hb:b<2^k):a*b<2^(j+k):=by
 rw[Nat.pow_add]
 exact Nat.mul_lt_mul'' ha hb
theorem G5{i j:Int}{k m:Nat}(hi:i.natAbs<2^k)(hj:j.natAbs<2^m)(h:k<=60000)(g:m<=60000):Dp i j=true:=by
 unfold Dp
 rw[kq,kq,jW]
 exact .inr (.inr ⟨mE (jV hi (ky (by decide) h)),mE (jV hj (ky (by decide) g))⟩)
theorem den_pos(q:Rat):0<(q.den:Int):=by have:=q.den_pos;lia
theorem XJ{x:Int}{n m:Nat}(h:x.natAbs<2^n)(g:n<=m):x.natAbs<2^m:=jV h (ky (by decide) g)
section
variable{p q:Rat}{j k:Nat}
theorem Dl(hp:Sz j p)(hq:Sz k q):(p.num*q.den+q.num*p.den).natAbs<2^(j+k+1)/\((p.den:Int)*q.den).natAbs<2^(j+k)/\(p.num*q.den-q.num*p.den).natAbs<2^(j+k+1):=by
 have a1:=FT hp.1 hq.2
 have a2:=FT hq.1 hp.2
 have a3:=FT hp.2 hq.2
 rw[tK k j]at a2
 have e:2^(j+k+1)=2^(j+k)+2^(j+k):=by rw[qs];lia
 refine⟨?_,?_,?_⟩
 .refine kz (tW _ _) ?_
  rw[mw,mw,lU,lU,e]
  lia
 .rw[mw,lU,lU];exact a3
 .refine kz (Int.natAbs_sub_le _ _) ?_
  rw[mw,mw,lU,lU,e]
  lia
theorem Nc:(((p.num*q.den+q.num*p.den:Int):Rat) / (((p.den:Int)*q.den:Int):Rat))=p+q:=by
 have h1:=D3 p;have h2:=D3 q
 have d1:=Im p;have d2:=Im q
 push_cast
 grind
theorem Qt:(((p.num*q.den-q.num*p.den:Int):Rat) / (((p.den:Int)*q.den:Int):Rat))=p-q:=by
 have h1:=D3 p;have h2:=D3 q
 have d1:=Im p;have d2:=Im q
 push_cast
 grind
theorem ML:(((p.num*q.num:Int):Rat) / (((p.den:Int)*q.den:Int):Rat))=p*q:=by
 have h1:=D3 p;have h2:=D3 q
 have d1:=Im p;have d2:=Im q
 push_cast
 grind
theorem Ys(hp:Sz j p)(hq:Sz k q):Sz (j+k+1) (p+q):=by
 rw[<-Nc]
 have:=Dl hp hq
 exact Mv (km (den_pos _) (den_pos _)) this.1 (XJ this.2.1 (by lia))
theorem ZK(hp:Sz j p)(hq:Sz k q):Sz (j+k+1) (p-q):=by
 rw[<-Qt]
 have:=Dl hp hq
 exact Mv (km (den_pos _) (den_pos _)) this.2.2 (XJ this.2.1 (by lia))
theorem Mz(hp:Sz j p)(hq:Sz k q):Sz (j+k) (p*q):=by
 rw[<-ML]
 have:=Dl hp hq
 exact Mv (km (den_pos _) (den_pos _)) (by rw[mw];exact FT hp.1 hq.1) this.2.1
end
section
variable{p q:Rat}{j k:Nat}
theorem NT(hp:Sz j p)(hq:Sz k q)(hj:j+k<=7990):Dp p.num q.den=true/\Dp q.num p.den=true/\Dp p.den q.den=true/\Dp p.num q.num=true:=by
 refine⟨G5 hp.1 (by simpa using hq.2) (by lia) (by lia),G5 hq.1 (by simpa using hp.2) (by lia) (by lia),G5 (by simpa using hp.2) (by simpa using hq.2) (by lia) (by lia),G5 hp.1 hq.1 (by lia) (by lia)⟩
theorem eL(hp:Sz j p)(hq:Sz k q)(hj:j+k<=7990):Jb [aD p,aD q] S=Gc ((aD (p+q)),S):=by
 obtain⟨m1,m2,m3,m4⟩:=NT hp hq (by lia)
 have b:=Dl hp hq
 have l:=Jn (S:=S) (t:=p.num*q.den+q.num*p.den) (b:=p.den*q.den) (km (den_pos _) (den_pos _)) (DM b.2.1 (by lia))
 rw[JA (km (den_pos _) (den_pos _)),Nc]at l
 simp only[aD]at l⊢
 simp[Jb,Qs,m1,m2,m3,l]
theorem eY(hp:Sz j p)(hq:Sz k q)(hj:j+k<=7990):Jl [aD p,aD q] S=Gc ((aD (p-q)),S):=by
 obtain⟨m1,m2,m3,m4⟩:=NT hp hq (by lia)
 have b:=Dl hp hq
 have l:=Jn (S:=S) (t:=p.num*q.den-q.num*p.den) (b:=p.den*q.den) (km (den_pos _) (den_pos _)) (DM b.2.1 (by lia))
 rw[JA (km (den_pos _) (den_pos _)),Qt]at l
 simp only[aD]at l⊢
 simp[Jl,Qf,m1,m2,m3,l]
theorem aT(hp:Sz j p)(hq:Sz k q)(hj:j+k<=7990):Hr [aD p,aD q] S=Gc ((aD (p*q)),S):=by
 obtain⟨m1,m2,m3,m4⟩:=NT hp hq (by lia)
 have b:=Dl hp hq
 have l:=Jn (S:=S) (t:=p.num*q.num) (b:=p.den*q.den) (km (den_pos _) (den_pos _)) (DM b.2.1 (by lia))
 rw[JA (km (den_pos _) (den_pos _)),ML]at l
 simp only[aD]at l⊢
 simp[Hr,Ou,m3,m4,l]
theorem Qk(hp:Sz j p)(hq:Sz k q)(hj:j+k<=7990):CJ [aD p,aD q] S=Gc ((aD (p+q)),S):=by
 obtain⟨m1,m2,m3,m4⟩:=NT hp hq (by lia)
 have b:=Dl hp hq
 have l:=QA (S:=S) (t:=p.num*q.den+q.num*p.den) (b:=p.den*q.den) (km (den_pos _) (den_pos _)) (DM b.2.1 (by lia))
 rw[JA (km (den_pos _) (den_pos _)),Nc]at l
 simp only[aD]at l⊢
 simp[CJ,NX,m1,m2,m3,l]
theorem J6(hp:Sz j p)(hq:Sz k q)(hj:j+k<=7990):A1 [aD p,aD q] S=Gc ((aD (p*q)),S):=by
 obtain⟨m1,m2,m3,m4⟩:=NT hp hq (by lia)
 have b:=Dl hp hq
 have l:=QA (S:=S) (t:=p.num*q.num) (b:=p.den*q.den) (km (den_pos _) (den_pos _)) (DM b.2.1 (by lia))
 rw[JA (km (den_pos _) (den_pos _)),ML]at l
 simp only[aD]at l⊢
 simp[A1,Lm,m3,m4,l]
theorem ZN:aD (-q)=.tup [.int (0-q.num),.int q.den]:=by
 unfold aD
 rw[show(-q).num=0-q.num by simp,show(-q).den=q.den by simp]
theorem Zs(hq:Sz k q):Sz k (-q):=by
 unfold Sz
 rw[show(-q).num= -q.num by simp,show(-q).den=q.den by simp,Int.natAbs_neg]
 exact hq
theorem WS(hp:Sz j p)(hq:Sz k q)(hj:j+k<=7990):Dj [aD p,aD q] S=Gc ((aD (p-q)),S):=by
 have l:=Qk (S:=S) hp (Zs hq) hj
 rw[ZN]at l
 rw[Rat.sub_eq_add_neg]
 simp only[aD]at l⊢
 simp at l
 simp[Dj,Mw,l]
end
theorem R9{t b:Int}(h:0<b)(hb:b.natAbs<GC):C8 [.int t,.int b] S=Gc ((aD (t / b)),S):=by
 rw[Jn h hb,JA h]
theorem V7{t b:Int}(h:0<b)(hb:b.natAbs<GC):Bv [.int t,.int b] S=Gc ((aD (t / b)),S):=by
 rw[QA h hb,JA h]
theorem IV{a b:Int}{k:Nat}(ha:a.natAbs<2^k)(hb:b.natAbs<2^k):(a+b).natAbs<2^(k+1):=by
 have e:2^(k+1)=2^k+2^k:=by rw[qs];lia
 have:=tW a b
 lia
theorem Jo{a b:Int}{j k:Nat}(ha:a.natAbs<2^j)(hb:b.natAbs<2^k):(a*b).natAbs<2^(j+k):=by
 rw[mw];exact FT ha hb
theorem SK{p q:Rat}{w m:Int}(h:0<w+m):((p.num*q.den*w+q.num*p.den*m:Int):Rat) / (((p.den:Int)*q.den*(w+m):Int):Rat)=(p*w+q*m) / (w+m):=by
 have h1:=D3 p;have h2:=D3 q
 have d1:=Im p;have d2:=Im q
 have d3:((w:Rat)+(m:Rat))≠0:=by
  intro e
  have:((w+m:Int):Rat)=0:=by push_cast;exact e
  have:=mz.mp this
  lia
 push_cast
 grind
section
variable{p q:Rat}{w m:Int}{j k n:Nat}
theorem VG(hp:Sz j p)(hq:Sz k q)(hw:w.natAbs<2^n)(hm:m.natAbs<2^n):(p.num*q.den*w+q.num*p.den*m).natAbs<2^(j+k+n+1)/\((p.den:Int)*q.den*(w+m)).natAbs<2^(j+k+(n+1)):=by
 have d1:((p.den:Int)).natAbs<2^j:=by simpa using hp.2
 have d2:((q.den:Int)).natAbs<2^k:=by simpa using hq.2
 refine⟨IV (Jo (Jo hp.1 d2) hw) ?_,Jo (Jo d1 d2) (IV hw hm)⟩
 have:=Jo (Jo hq.1 d1) hm
 rwa [tK k j]at this
theorem aH(hp:Sz j p)(hq:Sz k q)(hw:w.natAbs<2^n)(hm:m.natAbs<2^n)(h:0<w+m)(hj:j+k+n+1<=7990):Ho [aD p,.int w,aD q,.int m] S=Gc ((aD ((p*w+q*m) / (w+m))),S):=by
 obtain⟨m1,m2,m3,m4⟩:=NT hp hq (by lia)
 have d1:((p.den:Int)).natAbs<2^j:=by simpa using hp.2
 have d2:((q.den:Int)).natAbs<2^k:=by simpa using hq.2
 have b:=VG hp hq hw hm
 have m5:Dp (p.num*q.den) w=true:=G5 (Jo hp.1 d2) hw (by lia) (by lia)
 have m6:Dp (q.num*p.den) m=true:=G5 (Jo hq.1 d1) hm (by lia) (by lia)
 have m7:Dp ((p.den:Int)*q.den) (w+m)=true:=G5 (Jo d1 d2) (IV hw hm) (by lia) (by lia)
 have l:=R9 (S:=S) (t:=p.num*q.den*w+q.num*p.den*m) (b:=p.den*q.den*(w+m)) (km (km (den_pos _) (den_pos _)) h) (DM b.2 (by lia))
 rw[SK h]at l
 simp only[aD]at l⊢
 simp[Ho,PB,m1,m2,m3,m5,m6,m7,l]
end
end
section
variable{S:Sto}{p:Nat}
theorem WI{r:Wp D}(h:p<S.length):dr (S.set p (.lst r)) (.ref p)=.own r:=A7 (jj h)
def Pen(ds:Wp D):Prop:=∃a b c d:Int,ds=[.int a,.int b,.int c,.int d]/\0<=d/\d<1000000007
def CV(p:Nat)(S:Sto):Prop:=∃ds,S[p]?=Gc (.lst ds)/\Pen ds
structure Pn(p:Nat)(S S':Sto):Prop where
 same:DV [p] S S'
 pen:CV p S'
theorem Pn.trans{S S' S2:Sto}(h:Pn p S S')(g:Pn p S' S2):Pn p S S2:=⟨h.same.trans g.same,g.pen⟩
theorem Pn.get{S S':Sto}(h:Pn p S S'){n:Nat}{c:Cl}(e:S[n]?=Gc c)(ha:n≠p):S'[n]?=Gc c:=h.same.get e (by simpa using ha)
theorem Pn.refl(h:CV p S):Pn p S S:=⟨.refl,h⟩
theorem CV.lt(h:CV p S):p<S.length:=by obtain⟨ds,e,_⟩:=h;exact As e
theorem CV.app(h:CV p S)(T:Sto):CV p (S++T):=by obtain⟨ds,e,hp⟩:=h;exact⟨ds,by rw[jT (As e)];exact e,hp⟩
theorem Ai(h:CV p S){n:Int}(h0:0<n)(h1:n<1152921504606846976):∃r S',AJ [.ref p,.int n] S=Gc (.int r,S')/\0<=r/\r<n/\Pn p S S':=by
 obtain⟨ds,hp,a,b,c,d,rfl,hd0,hd1⟩:=h
 have hl:=As hp
 have hs:=Ef h0 h1
 have hr:=A7 hp
 have hc:=AX hp
 by_cases hb:b=1/\0<a
 .obtain⟨rfl,ha⟩:=hb
  refine⟨a % n,S.set p (.lst [.int (a / n),.int 1,.int c,.int d]),?_,mQ _ (by lia),nC _ h0,.set (by simp),_,jj hl,_,_,_,_,rfl,hd0,hd1⟩
  simp[AJ,IT,ha,h0,hs,hr,hc]
 .have m1:Dp (d+17) (69621+2*(c+1))=true:=mulL (by lia) (by lia)
  have m2:Dp 2 (c+1)=true:=mulL (by decide) (by decide)
  generalize ht:(d+17)*(69621+2*(c+1)) % 2147483647=t at*
  have t0:0<=t:=by rw[<-ht];exact mQ _ (by decide)
  have t1:t<2147483647:=by rw[<-ht];exact nC _ (by decide)
  have m3:Dp t t=true:=mulL (by lia) (by lia)
  have m4:Dp 40503 (c+1)=true:=mulL (by decide) (by decide)
  generalize hu:(t*t+40503*(c+1)+5) % 2147483629=u at*
  have u0:0<=u:=by rw[<-hu];exact mQ _ (by decide)
  have u1:u<2147483629:=by rw[<-hu];exact nC _ (by decide)
  have m5:Dp u 48271=true:=mulL (by lia) (by lia)
  have d32:(32:Int).natAbs<GC:=Ef (by decide) (by decide)
  have d32':(32:Nat)<GC:=d32
  refine⟨u*48271 % 2147483647 / 32 % n,S.set p (.lst [.int a,.int b,.int (c+1),.int d]),?_,mQ _ (by lia),nC _ h0,.set (by simp),_,jj hl,_,_,_,_,rfl,hd0,hd1⟩
  by_cases hb1:b=1
  .subst hb1
   have ha:¬0<a:=λz=>hb ⟨rfl,z⟩
   simp[AJ,IT,ha,h0,hs,hr,hc,WI,hl,m1,m2,m3,m4,m5,ht,hu,d32']
  .have hb2:(b==1)=false:=by simpa using hb1
   simp[AJ,IT,hb2,h0,hs,hr,hc,WI,hl,m1,m2,m3,m4,m5,ht,hu,d32']
theorem Z1(c:Int):∃p S',ID [.int c] S=Gc (.ref p,S')/\CV p S'/\DV [] S S'/\S.length<=p:=by
 refine⟨S.length,S++[.lst [.int c,.int (if(10:Int)^18<=c then 1 else 0),.int 0,.int (c % 1000000007)]],?_,⟨_,jz,_,_,_,_,rfl,mQ _ (by decide),nC _ (by decide)⟩,.app,ja _⟩
 simp[ID,PV]
theorem Ek{gs:Gd}{t:Tf}{c f:Ev}{acc:Wp D}{E:En}(h:gOk gs S):Ce gs t c f [] acc E S=Gc (acc,S):=by
 unfold Ce
 rw[kJ h]
theorem NG {gs : Gd} {t : Tf} {c f : Ev} {d : D} {ds acc : Wp D} {E : En} (h : gOk gs S) (hz : acc.length < sizeLine) : Ce gs t c f (d :: ds) acc E S = (t d E S).bind fun E1 => (c E1 S).bind fun r => match r.1 with
      | .bl true => (f E1 r.2).bind fun p => Ce gs t c f ds (acc ++ [p.1]) E1 p.2
      | .bl false => Ce gs t c f ds acc E1 r.2
      | _ => none := by
  rw [Ce, kJ h, kJ hz]
  all_goals rfl
theorem JH{gs:Gd}{t:Tf}{c f:Ev}{d:D}{ds acc:Wp D}{E E1:En}{S1:Sto}(h:gOk gs S)(hz:acc.length<sizeLine)(e1:t d E S=Gc E1)(e2:c E1 S=Gc (.bl true,S1)):Ce gs t c f (d::ds) acc E S=(f E1 S1).bind λp=>Ce gs t c f ds (acc++[p.1]) E1 p.2:=by
 rw[NG h hz,e1]
 show(c E1 S).bind _=_
 rw[e2]
 rfl
theorem JG{gs:Gd}{t:Tf}{c f:Ev}{d:D}{ds acc:Wp D}{E E1:En}{S1:Sto}(h:gOk gs S)(hz:acc.length<sizeLine)(e1:t d E S=Gc E1)(e2:c E1 S=Gc (.bl false,S1)):Ce gs t c f (d::ds) acc E S=Ce gs t c f ds acc E1 S1:=by
 rw[NG h hz,e1]
 show(c E1 S).bind _=_
 rw[e2]
 rfl
theorem OD{gs:Gd}{t:Tf}{f:Ev}{C:En}{m:Nat}{I:Sto->Prop}{R:D->D->Prop}(hg:∀S,I S->gOk gs S):∀{ds acc:Wp D} {os:En} {S:Sto},os.length=m->I S->acc.length+ds.length<=sizeLine->(∀d∈ds,∀os S,os.length=m->I S->∃us y S',us.length=m/\t d (C++os) S=Gc (C++us)/\f (C++us) S=Gc (y,S')/\I S'/\R d y)->∃ys S',Ce gs t E8 f ds acc (C++os) S=Gc (acc++ys,S')/\I S'/\ys.length=ds.length/\Paired R ds ys
 | [],acc,os,S,ho,hI,hz,h=>⟨[],S,by rw[Ek (hg S hI)];simp,hI,rfl,.nil⟩
 |d::ds,acc,os,S,ho,hI,hz,h=>by
  obtain⟨us,y,S1,hu,e1,e2,I1,r1⟩:=h d jr os S ho hI
  obtain⟨ys,S2,e3,I2,l2,r2⟩:=OD hg (ds:=ds) (acc:=acc++[y]) (os:=us) (S:=S1) hu I1 (by simp at hz ⊢; lia) λd' hd=>h d' (jf _ hd)
  refine⟨y::ys,S2,?_,I2,by simp[l2],.cons r1 r2⟩
  rw[JH (hg S hI) (by simp at hz;lia) e1 IE,e2,Bx,e3]
  simp
theorem comp_map{gs:Gd}{t:Tf}{f:Ev}{C:En}{m:Nat}{g:D->D}{S:Sto}(hg:gOk gs S):∀{ds acc:Wp D} {os:En},os.length=m->acc.length+ds.length<=sizeLine->(∀d∈ds,∀os,os.length=m->∃us,us.length=m/\t d (C++os) S=Gc (C++us)/\f (C++us) S=Gc (g d,S))->Ce gs t E8 f ds acc (C++os) S=Gc (acc++ds.map g,S)
 | [],acc,os,ho,hz,h=>by rw[Ek hg];simp
 |d::ds,acc,os,ho,hz,h=>by
  obtain⟨us,hu,e1,e2⟩:=h d jr os ho
  rw[JH hg (by simp at hz;lia) e1 IE,e2,Bx]
  rw[comp_map hg hu (by simp at hz ⊢; lia) λd' hd=>h d' (jf _ hd)]
  simp
theorem Hh{gs:Gd}{t:Tf}{b:Ex}{I:Wp D->En->Sto->Prop}(hg:∀ds E S,I ds E S->gOk gs S):∀{ds:Wp D} {E:En} {S:Sto},I ds E S->(∀d ds E S,I (d::ds) E S->∃E1 E2 S2,t d E S=Gc E1/\b E1 S=Gc (.nx,E2,S2)/\I ds E2 S2)->∃E' S',MW gs t b ds E S=Gc (.nx,E',S')/\I [] E' S'
 | [],E,S,hI,h=>⟨E,S,Nh (hg _ _ _ hI),hI⟩
 |d::ds,E,S,hI,h=>by
  obtain⟨E1,E2,S2,e1,e2,I2⟩:=h d ds E S hI
  obtain⟨E',S',e3,I3⟩:=Hh hg I2 h
  exact⟨E',S',by rw[Gp (hg _ _ _ hI),e1];simp[e2,e3],I3⟩
theorem pick{xs:Wp D}{r:Int}(h0:0<=r)(h1:r<xs.length):∃x,atI xs r=Gc x/\x∈xs:=⟨_,WE h0 h1,nZ _⟩
theorem KC{α β:Type}{P:β->Prop}:∀{xs:Wp α} {ys:Wp β},Paired (λ_ y=>P y) xs ys->∀y∈ys,P y
 |_,_,.nil,y,h=>by cases h
 |_,_,.cons r t,y,h=>by
  rcases jX.mp h with h|h
  .rw[h];exact r
  .exact KC t y h
theorem IP{lo:Int}{n:Nat}:(Mq lo n).length=n:=by simp[Mq]
end
def Ok(G B:Nat)(r:Rat):Prop:=∃z:Nat,r*(G:Rat)=(z:Rat)/\z<=B
theorem NM{n:Nat}(h:0<n):(n:Rat)≠0:=by
 have:n≠0:=by lia
 exact_mod_cast this
theorem Ok.sz{G B k:Nat}{r:Rat}(h:Ok G B r)(hG:0<G)(g:G<2^k)(b:B<2^k):Sz k r:=by
 obtain⟨z,e,hz⟩:=h
 have e2:r=((z:Int):Rat) / ((G:Int):Rat):=by
  have:=NM hG
  rw[show(((z:Nat):Int):Rat)=(z:Rat)from rfl,show(((G:Nat):Int):Rat)=(G:Rat)from rfl,<-e]
  grind
 rw[e2]
 exact Mv (by lia) (by simpa using kz hz b) (by simpa using g)
theorem Ok.up{G B t B':Nat}{r:Rat}(h:Ok G B r)(hB:B*t<=B'):Ok (G*t) B' r:=by
 obtain⟨z,e,hz⟩:=h
 refine⟨z*t,?_,jY (lH t hz) hB⟩
 push_cast
 rw[<-e]
 grind
theorem Ok.zero{G B:Nat}:Ok G B 0:=⟨0,by simp,l9 _⟩
theorem Ok.one{G B:Nat}(h:G<=B):Ok G B 1:=⟨G,by simp,h⟩
theorem Ok.mix{G B a b t:Nat}{r o:Rat}(hr:Ok G B r)(ho:Ok G B o)(ht:a+b=t)(h0:0<t):Ok (G*t) (B*t) ((r*(a:Rat)+o*(b:Rat)) / (t:Rat)):=by
 obtain⟨z,e1,h1⟩:=hr
 obtain⟨y,e2,h2⟩:=ho
 refine⟨z*a+y*b,?_,?_⟩
 .have:=NM h0
  push_cast
  rw[<-e1,<-e2]
  grind
 .rw[<-ht,Nat.mul_add]
  exact Nat.add_le_add (lH a h1) (lH b h2)
structure Tr where
 p:Nat
 k:Nat
 b:Nat
 ho:Wp Rat
 h:Int
 l:Int
structure Ld where
 k:Nat
 n:Int
 ow:Wp Rat
structure Stt where
 AF:Wp Ld
 hold:Wp Rat
 nums:Wp Int
inductive AS where
 |EB (p k:Nat) (n:Int)
 |JZ (a b:Nat)
 |swap (l:Nat) (g:Int) (k:Nat) (n:Int)
 |Dq (t:Int) (l:Nat) (g:Int) (k:Nat) (n:Int)
 |FJ (l:Nat) (n:Int)
 |thr (l:Nat) (n:Int) (ws:Wp Int)
 |Iq (p q:Nat) (s:Rat)
noncomputable def shD(rs:Wp Rat):D:=.tup (rs.map aD)
noncomputable def Tr.d(t:Tr):D:=.tup [.int t.p,.int t.k,.int t.b,shD t.ho,.int t.h,.int t.l]
noncomputable def Ld.d(l:Ld):D:=.tup [.int l.k,.int l.n,shD l.ow]
noncomputable def AS.d:AS->D
 | .EB p k n=>.tup [.str "bring",.int p,.int k,.int n]
 | .JZ a b=>.tup [.str "pool",.int a,.int b]
 | .swap l g k n=>.tup [.str "swap",.int l,.int g,.int k,.int n]
 | .Dq t l g k n=>.tup [.str "trade",.int t,.int l,.int g,.int k,.int n]
 | .FJ l n=>.tup [.str "spoil",.int l,.int n]
 | .thr l n ws=>.tup [.str "throw",.int l,.int n,.tup (ws.map .int)]
 | .Iq p q s=>.tup [.str "sell",.int p,.int q,aD s]
noncomputable def HZ(x:Rat)(os ss:Wp Rat):Wp Rat:=pZ (λs o=>s*(1-x)+o*x) ss os
noncomputable def G8(p q:Nat)(s:Rat)(ss:Wp Rat):Wp Rat:=(ss.set p (ss.getD p 0-ss.getD p 0*s)).set q (ss.getD q 0+ss.getD p 0*s)
noncomputable def CZ(n m:Int)(ss os:Wp Rat):Wp Rat:=pZ (λs o=>(s*n+o*m) / (n+m:Int)) ss os
noncomputable def ED(t:Tr)(ls:Wp Ld)(ws:Wp Int):Int:=(ls.map λl=>l.n*ws.getD l.k 0).sum+t.b*ws.getD t.k 0
noncomputable def JE(t:Tr)(ls:Wp Ld)(l:Nat)(n:Int)(ws:Wp Int):Rat:=((n*ws.getD ((ls[l]?.map (·.k)).getD 0) 0:Int):Rat) / (ED t ls ws:Rat)
noncomputable def AR(ls:Wp Ld)(l:Nat):Ld:=ls.getD l ⟨0,0,[]⟩
noncomputable def less(ls:Wp Ld)(l:Nat)(n:Int):Wp Ld:=ls.set l {AR ls l with n:=(AR ls l).n-n}
noncomputable def TJ(p i:Nat):Wp Rat:=(lJ p).map λj=>if j=i then 1 else 0
noncomputable def step(t:Tr)(s:Stt):AS->Stt
 | .EB p k n=>{s with AF:=s.AF++[⟨k,n,TJ t.p p⟩]}
 | .JZ a b=>{s with AF:=less (less s.AF a (AR s.AF a).n) b (AR s.AF b).n++[⟨(AR s.AF a).k,(AR s.AF a).n+(AR s.AF b).n,CZ (AR s.AF a).n (AR s.AF b).n (AR s.AF a).ow (AR s.AF b).ow⟩]}
 | .swap l g k n=>{s with AF:=less s.AF l g++[⟨k,n,(AR s.AF l).ow⟩]}
 | .Dq u l g k n=>{s with AF:=less s.AF l g++[⟨k,n,(AR s.AF l).ow⟩],nums:=s.nums++[u]}
 | .FJ l n=>{s with AF:=less s.AF l n}
 | .thr l n ws=>{s with AF:=(less s.AF l n).map λx=>{x with ow:=HZ (JE t s.AF l n ws) (AR s.AF l).ow x.ow},hold:=HZ (JE t s.AF l n ws) (AR s.AF l).ow s.hold}
 | .Iq p q x=>{s with AF:=s.AF.map λy=>{y with ow:=G8 p q x y.ow},hold:=G8 p q x s.hold}
def JY(t:Tr):Prop:=1<=t.p/\t.p<=4/\1<=t.k/\t.k<=5/\1<=t.b/\t.b<=20
def Can(t:Tr)(s:Stt):AS->Prop
 | .EB p k n=>p<t.p/\k<t.k/\1<=n/\n<2^131
 | .JZ a b=>a≠b/\a<s.AF.length/\b<s.AF.length/\0<(AR s.AF a).n/\0<(AR s.AF b).n/\(AR s.AF a).k=(AR s.AF b).k
 | .swap l g k n=>l<s.AF.length/\1<=g/\g<=(AR s.AF l).n/\k<t.k/\k≠(AR s.AF l).k/\1<=n/\n<2^131
 | .Dq u l g k n=>l<s.AF.length/\1<=g/\g<=(AR s.AF l).n/\k<t.k/\k≠(AR s.AF l).k/\1<=n/\n<2^131/\u∉s.nums/\0<=u/\u<=9
 | .FJ l n=>l<s.AF.length/\1<=n/\n<=(AR s.AF l).n
 | .thr l n ws=>l<s.AF.length/\1<=n/\n<=(AR s.AF l).n/\ws.length=t.k+1/\∀w∈ws,1<=w/\w<=99
 | .Iq p q x=>p≠q/\p<t.p/\q<t.p/\0<x.num/\x.num<=x.den/\x.den<=12
structure F7(t:Tr)(k:Nat)(s:Stt):Prop where
 len:s.AF.length<=4+k
 kind:∀l∈s.AF,l.k<t.k
 pcs:∀l∈s.AF,0<=l.n/\l.n<2^(131+k)
 own:∀l∈s.AF,l.ow.length=t.p
 hold:s.hold.length=t.p
 nm:s.nums.length<=k
 gb:∃G B:Nat,0<G/\G<=B/\B<2^(30+170*k)/\(∀l∈s.AF,∀r∈l.ow,Ok G B r)/\∀r∈s.hold,Ok G B r
theorem F7.sz{t:Tr}{k:Nat}{s:Stt}(h:F7 t k s):(∀l∈s.AF,∀r∈l.ow,Sz (30+170*k) r)/\∀r∈s.hold,Sz (30+170*k) r:=by
 obtain⟨G,B,g0,gb,b,h1,h2⟩:=h.gb
 exact⟨λl hl r hr=>(h1 l hl r hr).sz g0 (kz gb b) b,λr hr=>(h2 r hr).sz g0 (kz gb b) b⟩
theorem Az{ls:Wp Ld}{l:Nat}(h:l<ls.length):AR ls l∈ls:=by
 unfold AR
 rw[jy,jS h]
 exact nZ h
theorem EW{ls:Wp Ld}{l:Nat}(h:l<ls.length):ls[l]?=Gc (AR ls l):=by
 unfold AR
 rw[jy,jS h]
 rfl
theorem OC{ls:Wp Ld}{l:Nat}{n:Int}{x:Ld}(h:x∈less ls l n)(hl:l<ls.length):x∈ls\/x={AR ls l with n:=(AR ls l).n-n}:=by
 unfold less at h
 rcases mM h with h|h
 .exact .inl h
 .exact .inr h
theorem Dw{ls:Wp Ld}{l:Nat}{n:Int}:(less ls l n).length=ls.length:=by simp[less]
section
variable{S:Sto}{p:Nat}
theorem QE{P:Int->Prop}:∀{ys:Wp D},(∀y∈ys,∃i:Int,y=.int i/\P i)->∃ns:Wp Int,ys=ns.map D.int/\∀n∈ns,P n
 | [],_=>⟨[],rfl,λn h=>by cases h⟩
 |y::ys,h=>by
  obtain⟨i,rfl,hi⟩:=h y jr
  obtain⟨ns,rfl,hn⟩:=QE (P:=P) (ys:=ys) λz hz=>h z (jf _ hz)
  exact⟨i::ns,rfl,λn hn'=>by
   rcases jX.mp hn' with e|e
   .rw[e];exact hi
   .exact hn n e⟩
theorem O0{ns:Wp Int}(h:∀n∈ns,0<=n/\n<=8):0<=ns.sum/\ns.sum<=8*ns.length/\∀n∈ns,n<=ns.sum:=by
 induction ns with
 |nil=>simp
 |cons a l ih=>
  have h1:=h a jr
  obtain⟨i1,i2,i3⟩:=ih λn hn=>h n (jf _ hn)
  rw[nI,mB]
  refine⟨by lia,by push_cast;lia,λn hn=>?_⟩
  rcases jX.mp hn with e|e
  .lia
  .have:=i3 n e;lia
theorem Rq (h : CV p S) {n : Nat} (hn : n ≤ 20) : ∃ (ns : Wp Int) (S' : Sto), Ce [] (tNm 1) E8 (eOp (o2 wIx) [(JW [(eC (.int 0)), (eC (.int 1)), (AM AJ [(eV 0), (eC (.int 4))]), (AM AJ [(eV 0), (eC (.int 9))])]), (AM AJ [(eV 0), (eC (.int 4))])]) (Mq 0 n) [] [Gc (.ref p), none] S = Gc (ns.map D.int, S') /\ Pn p S S' /\ ns.length = n /\ ∀ i ∈ ns, 0 ≤ i /\ i ≤ 8 := by
  obtain ⟨ys, S', e, hI, l, r⟩ := OD (gs := []) (t := tNm 1) (f := eOp (o2 wIx) [(JW [(eC (.int 0)), (eC (.int 1)), (AM AJ [(eV 0), (eC (.int 4))]), (AM AJ [(eV 0), (eC (.int 9))])]), (AM AJ [(eV 0), (eC (.int 4))])]) (C := [Gc (.ref p)]) (m := 1) (I := Pn p S) (R := fun _ y => ∃ i : Int, y = .int i /\ 0 ≤ i /\ i ≤ 8)
    (fun _ _ => A5) (ds := Mq 0 n) (acc := []) (os := [none]) rfl (Pn.refl h) (by rw [IP]; simp; exact AU (by lia)) fun d _ os S0 ho I0 => by
      obtain ⟨o, rfl⟩ := UT ho
      obtain ⟨r1, S1, e1, a1, b1, p1⟩ := Ai I0.pen (n := 4) (by decide) (by decide)
      obtain ⟨r2, S2, e2, a2, b2, p2⟩ := Ai p1.pen (n := 9) (by decide) (by decide)
      obtain ⟨r3, S3, e3, a3, b3, p3⟩ := Ai p2.pen (n := 4) (by decide) (by decide)
      obtain ⟨x, ex, hx⟩ := pick (xs := [.int 0, .int 1, .int r1, .int r2]) (r := r3) a3 (by simpa using b3)
      refine ⟨[Gc d], x, S3, rfl, by simp, by simp [e1, e2, e3, ex], ((I0.trans p1).trans p2).trans p3, ?_⟩
      simp only [jX, jt, kr] at hx
      rcases hx with rfl | rfl | rfl | rfl
      · exact ⟨0, rfl, by decide, by decide⟩
      · exact ⟨1, rfl, by decide, by decide⟩
      · exact ⟨r1, rfl, by lia, by lia⟩
      · exact ⟨r2, rfl, by lia, by lia⟩
  obtain ⟨ns, rfl, hns⟩ := QE (KC r)
  exact ⟨ns, S', by simpa using e, hI, by simpa [IP] using l, hns⟩
noncomputable def Ik(ns:Wp Int):Wp Rat:=ns.map λ(n:Int)=>(n:Rat) / (ns.sum:Rat)
theorem Lp{ns:Wp Int}(h:∀n∈ns,0<=n/\n<=8)(hs:0<ns.sum):∀r∈Ik ns,Ok ns.sum.toNat ns.sum.toNat r:=by
 intro r hr
 obtain⟨n,hn,rfl⟩:=k6.mp hr
 have h1:=h n hn
 have h2:=(O0 h).2.2 n hn
 refine⟨n.toNat,?_,by lia⟩
 have e1:((ns.sum.toNat:Nat):Rat)=(ns.sum:Rat):=by
  have:((ns.sum.toNat:Nat):Int)=ns.sum:=by lia
  exact congrArg (λz:Int=>(z:Rat)) this
 have e2:((n.toNat:Nat):Rat)=(n:Rat):=by
  have:((n.toNat:Nat):Int)=n:=by lia
  exact congrArg (λz:Int=>(z:Rat)) this
 rw[e1,e2]
 have:(ns.sum:Rat)≠0:=by
  intro z
  have:=mz.mp z
  lia
 grind
theorem SI{s:Rat}:∀{ns:Wp Int},(ns.map λ(n:Int)=>(n:Rat) / s).sum=(ns.sum:Rat) / s
 | []=>by simp;grind
 |n::ns=>by
  rw[kY,nI,nI,SI (ns:=ns)]
  push_cast
  grind
theorem Oc{ns:Wp Int}(hs:0<ns.sum):(Ik ns).sum=1:=by
 unfold Ik
 rw[SI]
 have:(ns.sum:Rat)≠0:=by
  intro z
  have:=mz.mp z
  lia
 grind
theorem Qe{ns:Wp Int}{q:Nat}(hq:S[q]?=Gc (.lst (ns.map D.int)))(hl:ns.length<=20)(hn:∀n∈ns,0<=n/\n<=8)(hs:0<ns.sum):Ce [(q,ns.map D.int)] (tNm 1) E8 (AM Bv [eV 1,eOp (o1 VM) [eV 0]]) (ns.map D.int) [] [Gc (.ref q),none] S=Gc ((Ik ns).map aD,S):=by
 obtain⟨s1,s2,s3⟩:=O0 hn
 have:=comp_map (gs:=[(q,ns.map D.int)]) (t:=tNm 1) (f:=AM Bv [eV 1,eOp (o1 VM) [eV 0]]) (C:=[Gc (.ref q)]) (m:=1) (g:=λd=>match d with| .int n=>aD ((n:Rat) / (ns.sum:Rat))|d=>d) (S:=S) (λg hg=>by rw[kN.mp hg];exact AX hq) (ds:=ns.map D.int) (acc:=[]) (os:=[none]) rfl (by simp;exact AU (by lia)) λd hd os ho=>by
  obtain⟨o,rfl⟩:=UT ho
  obtain⟨i,hi,rfl⟩:=k6.mp hd
  have m:=V7 (S:=S) (t:=i) hs (Ef (by lia) (by lia))
  exact⟨[Gc (.int i)],rfl,by simp,by simp[A7 hq,Gk,m]⟩
 have e2:(ns.map D.int).map (λd=>match d with| .int n=>aD ((n:Rat) / (ns.sum:Rat))|d=>d)=(Ik ns).map aD:=by
  unfold Ik
  rw[k7,k7]
  rfl
 rw[e2]at this
 simpa using this
theorem Q2(h:CV p S){n:Nat}(h1:1<=n)(h2:n<=4):∃rs S',Dh [.ref p,.int n] S=Gc (shD rs,S')/\Pn p S S'/\(rs.length=n/\rs.sum=1)/\∃G:Nat,0<G/\G<=32/\∀r∈rs,Ok G G r:=by
 obtain⟨ns,S1,e1,p1,l1,i1⟩:=Rq (n:=n) h (by lia)
 obtain⟨s1,s2,s3⟩:=O0 i1
 have hq:(S1++[Cl.lst (ns.map D.int)])[S1.length]?=Gc (.lst (ns.map D.int)):=jz
 have pp:CV p (S1++[Cl.lst (ns.map D.int)]):=p1.pen.app _
 have hlt:=p1.pen.lt
 have r1:KO (n:Int)=true:=FK (by lia) (by lia)
 by_cases hz:ns.sum=0
 .obtain⟨r,S2,e2,a2,b2,p2⟩:=Ai pp (n:=n) (by lia) (by lia)
  have hq2:S2[S1.length]?=Gc (.lst (ns.map D.int)):=p2.get hq (by lia)
  have hn':∀x∈ns.set r.toNat 1,0<=x/\x<=8:=λx hx=>by
   rcases mM hx with hx|rfl
   .exact i1 x hx
   .exact⟨by decide,by decide⟩
  have hs':0<(ns.set r.toNat 1).sum:=by
   have:=(O0 hn').2.2 1 (List.mem_set (by lia) 1)
   lia
  have hq3:(S2.set S1.length (.lst ((ns.set r.toNat 1).map D.int)))[S1.length]?=Gc (.lst ((ns.set r.toNat 1).map D.int)):=jj (As hq2)
  have e3:=Qe hq3 (by simp;lia) hn' hs'
  have ix:ixN ns.length r=Gc r.toNat:=Qw a2 (by lia)
  refine⟨Ik (ns.set r.toNat 1),S2.set S1.length (.lst ((ns.set r.toNat 1).map D.int)),?_,⟨?_,?_⟩,⟨by simp[Ik,l1],Oc hs'⟩,_,(show 0<(ns.set r.toNat 1).sum.toNat by lia),?_,Lp hn' hs'⟩
  .have sq3:=Hg hq3
   rw[ng]at e3 sq3 hq3
   simp[Dh,JV,r1,e1,A7 hq,Gk,hz,e2,AX hq2,ix,sq3,e3,shD]
  .have g:DV [p] S (S1++[Cl.lst (ns.map D.int)]):=p1.same.trans .app
   refine⟨jY (g.trans p2.same).len (by simp),λm hm hmp=>?_⟩
   rw[jU (by have:=p1.same.len;lia)]
   exact(g.trans p2.same).keep m hm hmp
  .obtain⟨ds,ed,hd⟩:=p2.pen
   exact⟨ds,by rw[jU (by lia)];exact ed,hd⟩
  .have:=(O0 hn').2.1
   rw[lq]at this
   lia
 .have hz':(ns.sum==0)=false:=by simpa using hz
  have e3:=Qe hq (by lia) i1 (by lia)
  refine⟨Ik ns,S1++[Cl.lst (ns.map D.int)],?_,⟨p1.same.trans .app,pp⟩,⟨by simp[Ik,l1],Oc (by lia)⟩,_,(show 0<ns.sum.toNat by lia),by lia,Lp i1 (by lia)⟩
  have sq3:=Hg hq
  simp[Dh,JV,r1,e1,A7 hq,Gk,hz',sq3,e3,shD]
end
section
variable{S:Sto}{p:Nat}
theorem YN:(2:Nat)<GC:=Ef (n:=2) (by decide) (by decide)
theorem NC(h:CV p S):∃n S',BC [.ref p] S=Gc (.int n,S')/\Pn p S S'/\1<=n/\n<2^130:=by
 obtain⟨r1,S1,e1,a1,b1,p1⟩:=Ai h (n:=99) (by decide) (by decide)
 obtain⟨r2,S2,e2,a2,b2,p2⟩:=Ai p1.pen (n:=4) (by decide) (by decide)
 obtain⟨r3,S3,e3,a3,b3,p3⟩:=Ai p2.pen (n:=40) (by decide) (by decide)
 obtain⟨r4,S4,e4,a4,b4,p4⟩:=Ai p3.pen (n:=999) (by decide) (by decide)
 obtain⟨r5,S5,e5,a5,b5,p5⟩:=Ai p4.pen (n:=7) (by decide) (by decide)
 have pp:=(((p1.trans p2).trans p3).trans p4).trans p5
 have d2:=YN
 have go:∀g:Int,1<=g->g<2^130->∃n:Int,atI [D.int (1+r2),.int (1+r3),.int (1+r4),.int g] (r5 / 2)=Gc (.int n)/\1<=n/\n<2^130:=λg g1 g2=>by
  obtain⟨x,ex,hx⟩:=pick (xs:=[D.int (1+r2),.int (1+r3),.int (1+r4),.int g]) (r:=r5 / 2) (by lia) (by simp;lia)
  simp only[jX,jt,kr]at hx
  rcases hx with rfl|rfl|rfl|rfl
  .exact⟨_,ex,by lia,by lia⟩
  .exact⟨_,ex,by lia,by lia⟩
  .exact⟨_,ex,by lia,by lia⟩
  .exact⟨_,ex,g1,g2⟩
 first
  |(obtain⟨n,en,n1,n2⟩:=go (10^39+r1) (by lia) (by lia)
    exact⟨n,S5,by simp[BC,IC,e1,e2,e3,e4,e5,d2]at en ⊢; simp[en],pp,n1,n2⟩)
  |(obtain⟨n,en,n1,n2⟩:=go (10^30+r1) (by lia) (by lia)
    exact⟨n,S5,by simp[BC,IC,e1,e2,e3,e4,e5,d2]at en ⊢; simp[en],pp,n1,n2⟩)
theorem MT(h:CV p S):∃n S',BC [.ref p] S=Gc (.int n,S')/\Pn p S S'/\1<=n/\n<2^131:=by
 obtain⟨n,S',a,b,c,d⟩:=NC h
 exact⟨n,S',a,b,c,wU d (by decide)⟩
theorem Hj{r:Int}(h:0<=r):∃m:Nat,r=m:=⟨r.toNat,by lia⟩
def gL(t:Tr):Prop:=0<=t.h/\t.h<=9/\0<=t.l/\t.l<=9
theorem Ua(h:CV p S):∃t S',G4 [.ref p] S=Gc (Tr.d t,S')/\Pn p S S'/\JY t/\((t.ho.length=t.p/\t.ho.sum=1)/\gL t)/\∃G:Nat,0<G/\G<=32/\∀r∈t.ho,Ok G G r:=by
 obtain⟨r1,S1,e1,a1,b1,p1⟩:=Ai h (n:=4) (by decide) (by decide)
 obtain⟨r2,S2,e2,a2,b2,p2⟩:=Ai p1.pen (n:=5) (by decide) (by decide)
 obtain⟨r3,S3,e3,a3,b3,p3⟩:=Ai p2.pen (n:=3) (by decide) (by decide)
 obtain⟨r4,S4,e4,a4,b4,p4⟩:=Ai p3.pen (n:=20) (by decide) (by decide)
 obtain⟨r5,S5,e5,a5,b5,p5⟩:=Ai p4.pen (n:=2) (by decide) (by decide)
 obtain⟨m1,rfl⟩:=Hj a1
 obtain⟨m2,rfl⟩:=Hj a2
 obtain⟨b,eb,hb1,hb2⟩:∃b:Nat,atI [D.int (1+r3),.int (1+r4)] r5=Gc (.int b)/\1<=b/\b<=20:=by
  obtain⟨x,ex,hx⟩:=pick (xs:=[D.int (1+r3),.int (1+r4)]) (r:=r5) a5 (by simpa using b5)
  obtain⟨m3,rfl⟩:=Hj a3
  obtain⟨m4,rfl⟩:=Hj a4
  simp only[jX,jt,kr]at hx
  rcases hx with rfl|rfl
  .exact⟨1+m3,by rw[ex];simp,by lia,by lia⟩
  .exact⟨1+m4,by rw[ex];simp,by lia,by lia⟩
 obtain⟨rs,S6,e6,p6,l6,G,g0,g1,g2⟩:=Q2 p5.pen (n:=1+m1) (by lia) (by lia)
 obtain⟨r7,S7,e7,a7,b7,p7⟩:=Ai p6.pen (n:=10) (by decide) (by decide)
 obtain⟨r8,S8,e8,a8,b8,p8⟩:=Ai p7.pen (n:=10) (by decide) (by decide)
 rw[show((1+m1:Nat):Int)=1+(m1:Int) by lia]at e6
 refine⟨⟨1+m1,1+m2,b,rs,r7,r8⟩,S8,?_,((((((p1.trans p2).trans p3).trans p4).trans p5).trans p6).trans p7).trans p8,⟨by simp,by simp;lia,by simp,by simp;lia,hb1,hb2⟩,⟨l6,a7,by show r7<=9;lia,a8,by show r8<=9;lia⟩,G,g0,g1,g2⟩
 simp[G4,LZ,e1,e2,e3,e4,e5,eb,e6,e7,e8,Tr.d]
theorem U6(h:CV p S):∃x S',FZ [.ref p] S=Gc (aD x,S')/\Pn p S S'/\0<x.num/\x.num<=x.den/\x.den<=12:=by
 obtain⟨r1,S1,e1,a1,b1,p1⟩:=Ai h (n:=12) (by decide) (by decide)
 obtain⟨r2,S2,e2,a2,b2,p2⟩:=Ai p1.pen (n:=1+r1) (by lia) (by lia)
 have m:=V7 (S:=S2) (t:=1+r2) (b:=1+r1) (by lia) (Ef (by lia) (by lia))
 obtain⟨m1,rfl⟩:=Hj a1
 obtain⟨m2,rfl⟩:=Hj a2
 have rp:=MI (1+(m2:Int)) (1+m1) (by lia)
 have eb:(((1+(m1:Int):Int)):Rat)=(((1+m1:Nat)):Rat):=by
  have:(1+(m1:Int))=((1+m1:Nat):Int):=by lia
  rw[this];rfl
 have en:(1+(m2:Int)).natAbs=1+m2:=by lia
 have gp:0<pY (1+m2) (1+m1):=Nat.gcd_pos_of_pos_left _ (by lia)
 obtain⟨q,hq⟩:=Nat.gcd_dvd_left (1+m2) (1+m1)
 obtain⟨q',hq'⟩:=Nat.gcd_dvd_right (1+m2) (1+m1)
 refine⟨((1+(m2:Int):Int):Rat) / ((1+(m1:Int):Int):Rat),S2,?_,p1.trans p2,?_,?_,?_⟩
 .simp[FZ,LR,e1,e2,m]
 .rw[eb,rp.1,en]
  generalize pY (1+m2) (1+m1)=g at*
  have:(1+(m2:Int))=((g*q:Nat):Int):=by lia
  rw[this,qx,qa _ (by lia)]
  have:q≠0:=λz=>by subst z;lia
  lia
 .rw[eb,rp.1,rp.2,en]
  generalize pY (1+m2) (1+m1)=g at*
  have t1:(1+(m2:Int))=((g*q:Nat):Int):=by lia
  rw[t1,qx,qa _ (by lia),hq',Nat.mul_div_cancel_left _ gp]
  have:q<=q':=by
   have:g*q<=g*q':=by lia
   exact Nat.le_of_mul_le_mul_left this gp
  lia
 .rw[eb,rp.2]
  exact jY (uS _ _) (by lia)
theorem Ug (h : CV p S) {n : Nat} (hn : n ≤ 6) : ∃ (ws : Wp Int) (S' : Sto), Di [.ref p, .int n] S = Gc (.tup (ws.map .int), S') /\ Pn p S S' /\ ws.length = n /\ ∀ w ∈ ws, 1 ≤ w /\ w ≤ 99 := by
  obtain ⟨ys, S', e, hI, l, r⟩ := OD (gs := []) (t := tNm 1) (f := (eOp (o2 C4) [(eC (.int 1)), (eOp (o2 wIx) [(JW [(AM AJ [(eV 0), (eC (.int 3))]), (AM AJ [(eV 0), (eC (.int 99))])]), (AM AJ [(eV 0), (eC (.int 2))])])])) (C := [Gc (.ref p)]) (m := 1) (I := Pn p S) (R := fun _ y => ∃ i : Int, y = .int i /\ 1 ≤ i /\ i ≤ 99)
    (fun _ _ => A5) (ds := Mq 0 n) (acc := []) (os := [none]) rfl (Pn.refl h) (by rw [IP]; simp; exact AU (by lia)) fun d _ os S0 ho I0 => by
      obtain ⟨o, rfl⟩ := UT ho
      obtain ⟨r1, S1, e1, a1, b1, p1⟩ := Ai I0.pen (n := 3) (by decide) (by decide)
      obtain ⟨r2, S2, e2, a2, b2, p2⟩ := Ai p1.pen (n := 99) (by decide) (by decide)
      obtain ⟨r3, S3, e3, a3, b3, p3⟩ := Ai p2.pen (n := 2) (by decide) (by decide)
      obtain ⟨x, ex, hx⟩ := pick (xs := [.int r1, .int r2]) (r := r3) a3 (by simpa using b3)
      simp only [jX, jt, kr] at hx
      rcases hx with rfl | rfl
      · exact ⟨[Gc d], .int (1 + r1), S3, rfl, by simp, by simp [e1, e2, e3, ex], ((I0.trans p1).trans p2).trans p3, _, rfl, by lia, by lia⟩
      · exact ⟨[Gc d], .int (1 + r2), S3, rfl, by simp, by simp [e1, e2, e3, ex], ((I0.trans p1).trans p2).trans p3, _, rfl, by lia, by lia⟩
  obtain ⟨ns, rfl, hns⟩ := QE (KC r)
  have r1 : KO (n : Int) = true := FK (by lia) (by lia)
  have e' : Ce [] (tNm 1) E8 (eOp (o2 C4) [(eC (.int 1)), (eOp (o2 wIx) [(JW [(AM AJ [(eV 0), (eC (.int 3))]), (AM AJ [(eV 0), (eC (.int 99))])]), (AM AJ [(eV 0), (eC (.int 2))])])]) (Mq 0 n) [] [Gc (.ref p), none] S = Gc (ns.map D.int, S') := by simpa using e
  exact ⟨ns, S', by simp [Di, Kt, r1, e'], hI, by simpa [IP] using l, hns⟩
def HI(t:Tr)(ls:Wp Ld):Prop:=(∀l∈ls,l.k<t.k/\1<=l.n/\l.n<2^131/\l.ow.length=t.p/\l.ow.sum=1)/\∃G:Nat,0<G/\G<=32^ls.length/\∀l∈ls,∀r∈l.ow,Ok G G r
theorem HI.snoc{t:Tr}{ls:Wp Ld}{l:Ld}(h:HI t ls)(h1:l.k<t.k/\1<=l.n/\l.n<2^131/\l.ow.length=t.p/\l.ow.sum=1){g:Nat}(g0:0<g)(g1:g<=32)(g2:∀r∈l.ow,Ok g g r):HI t (ls++[l]):=by
 obtain⟨ha,G,G0,G1,G2⟩:=h
 refine⟨λx hx=>?_,G*g,qR G0 g0,?_,λx hx r hr=>?_⟩
 .rcases kB.mp hx with hx|hx
  .exact ha x hx
  .rw[kN.mp hx];exact h1
 .rw[kn,qz,qs]
  exact rP G1 g1
 .rcases kB.mp hx with hx|hx
  .exact(G2 x hx r hr).up (ja _)
  .rw[kN.mp hx]at hr
   have:=(g2 r hr).up (t:=G) (B':=G*g) (by rw[m9];exact ja _)
   rwa [m9 g G]at this
end
section
variable{S:Sto}{p:Nat}
theorem HI.nil{t:Tr}:HI t []:=⟨λl hl=>(nomatch hl),1,by decide,by simp,λl hl=>(nomatch hl)⟩
theorem Vv(h:CV p S){t:Tr}(ht:JY t):∃(ls:Wp Ld) (S':Sto),G6 [.ref p,t.d] S=Gc (.tup (ls.map Ld.d),S')/\Pn p S S'/\HI t ls/\ls.length<=4:=by
 obtain⟨t1,t2,t3,t4,t5,t6⟩:=ht
 have hlt:=h.lt
 have hq:(S++[Cl.lst []])[S.length]?=Gc (.lst []):=jz
 obtain⟨r1,S1,e1,a1,b1,p1⟩:=Ai (h.app [Cl.lst []]) (n:=5) (by decide) (by decide)
 obtain⟨r2,S2,e2,a2,b2,p2⟩:=Ai p1.pen (n:=3) (by decide) (by decide)
 obtain⟨n,en,hn⟩:∃n:Nat,atI [D.int 0,.int 1,.int r1] r2=Gc (.int n)/\n<=4:=by
  obtain⟨x,ex,hx⟩:=pick (xs:=[D.int 0,.int 1,.int r1]) (r:=r2) a2 (by simpa using b2)
  simp only[jX,jt,kr]at hx
  rcases hx with rfl|rfl|rfl
  .exact⟨0,ex,by decide⟩
  .exact⟨1,ex,by decide⟩
  .exact⟨r1.toNat,by rw[ex,kU a1],by lia⟩
 have q2:S2[S.length]?=Gc (.lst []):=(p1.trans p2).get hq (by lia)
 have rn:KO (n:Int)=true:=FK (by lia) (by lia)
 obtain⟨E',S',ef,ls,o,rfl,f1,f2,f3,f4,f5⟩:=Hh (gs:=[]) (t:=tNm 3) (b:=Df (Pe P9 (eV 2) [CS [AM AJ [eV 0,eOp (o2 wIx) [eV 1,eC (.int 1)]],AM BC [eV 0],AM Dh [eV 0,eOp (o2 wIx) [eV 1,eC (.int 0)]]]]))
  (I:=λds E S'=>∃(ls:Wp Ld) (o:jO D),E=[Gc (.ref p),Gc t.d,Gc (.ref S.length),o]/\S'[S.length]?=Gc (.lst (ls.map Ld.d))/\CV p S'/\DV [p] S S'/\HI t ls/\ls.length+ds.length<=4)
  (λ_ _ _ _=>A5) (ds:=Mq 0 n) (E:=[Gc (.ref p),Gc t.d,Gc (.ref S.length),none]) (S:=S2)
  ⟨[],none,rfl,q2,p2.pen,DV.app.trans (p1.trans p2).same,HI.nil,by simp[IP];exact hn⟩ (by
    rintro d ds E S0 ⟨ls,o,rfl,i1,i2,i3,i4,i5⟩
    obtain⟨x1,T1,g1,c1,d1,k1⟩:=Ai i2 (n:=t.k) (by lia) (by lia)
    obtain⟨x2,T2,g2,k2,c2,d2⟩:=MT k1.pen
    obtain⟨rs,T3,g3,k3,l3,G,G0,G1,G2⟩:=Q2 k2.pen (n:=t.p) t1 t2
    obtain⟨m1,rfl⟩:=Hj c1
    have kk:=(k1.trans k2).trans k3
    have j1:T3[S.length]?=Gc (.lst (ls.map Ld.d)):=kk.get i1 (by lia)
    have hz:ls.length<sizeLine:=jV (show ls.length<5 by lia) (AU (by decide))
    refine⟨[Gc (.ref p),Gc t.d,Gc (.ref S.length),Gc d],[Gc (.ref p),Gc t.d,Gc (.ref S.length),Gc d],T3.set S.length (.lst ((ls++[Ld.mk m1 x2 rs]).map Ld.d)),by simp,?_,ls++[Ld.mk m1 x2 rs],Gc d,rfl,jj (As j1),?_,?_,i4.snoc (l:=Ld.mk m1 x2 rs) ⟨show m1<t.k by lia,c2,d2,l3⟩ G0 G1 G2,by simp at i5 ⊢; lia⟩
    .have e3:atI [D.int t.p,.int t.k,.int t.b,shD t.ho,.int t.h,.int t.l] 1=Gc (.int t.k):=by simp
     simp[Tr.d,g1,g2,g3,AX i1,AX j1,hz,Ld.d]
    .obtain⟨ds',ed,hd⟩:=kk.pen
     exact⟨ds',by rw[jU (by lia)];exact ed,hd⟩
    .refine⟨jY (i3.trans kk.same).len (by simp),λm hm hmp=>?_⟩
     rw[jU (by lia)]
     exact(i3.trans kk.same).keep m hm hmp)
 refine⟨ls,S',?_,⟨f3,f2⟩,f4,by simpa using f5⟩
 simp[G6,LU,e1,e2,en,rn,ef,A7 f1]
noncomputable def CK(x:Ld):Cl:=.lst [.int x.k,.int x.n,shD x.ow]
structure SAt(S:Sto)(s l m:Nat)(as:Wp Nat)(st:Stt):Prop where
 root:S[s]?=Gc (.lst [.ref l,shD st.hold,.ref m])
 lo:S[l]?=Gc (.lst (as.map .ref))
 nu:S[m]?=Gc (.lst (st.nums.map .int))
 ld:∀(i a:Nat) (x:Ld),as[i]?=Gc a->st.AF[i]?=Gc x->S[a]?=Gc (CK x)
 len:as.length=st.AF.length
 nd:(s::l::m::as).Nodup
theorem WN:∀{ls:Wp Ld} {acc:Wp D} {o:jO D} {S:Sto},acc.length+ls.length<=100->Ce [] (tNm 0) E8 (ae (o1 PR) [eV 0]) (ls.map Ld.d) acc [o] S=Gc (acc++(uK S.length ls.length).map D.ref,S++ls.map CK)
 | [],acc,o,S,h=>by rw[mS,Ek A5];simp
 |x::ls,acc,o,S,h=>by
  rw[kY,JH (E1:=[Gc x.d]) A5 (jV (show acc.length<101 by simp at h;lia) (AU (by decide))) (by simp) IE]
  have:ae (o1 PR) [eV 0] [Gc x.d] S=Gc (.ref S.length,S++[CK x]):=by simp[Ld.d,CK]
  rw[this,Bx,WN (by simp at h ⊢; lia)]
  simp[List.range'_succ]
theorem getElem?_at{α:Type}{xs:Wp α}{x:α}{n:Nat}(h:n=xs.length):(xs++[x])[n]?=Gc x:=by subst h;exact jz
theorem QS{t:Tr}{ls:Wp Ld}{x:D}(hl:ls.length<=20):∃s l m as S',Fi [.tup [t.d,.tup (ls.map Ld.d),x]] S=Gc (.ref s,S')/\SAt S' s l m as ⟨ls,t.ho,[]⟩/\DV [] S S'/\(∀n∈s::l::m::as,S.length<=n):=by
 have e:=WN (ls:=ls) (acc:=[]) (o:=none) (S:=S) (by simp;lia)
 refine⟨S.length+ls.length+2,S.length+ls.length,S.length+ls.length+1,uK S.length ls.length,S++ls.map CK++[.lst ((uK S.length ls.length).map D.ref)]++[.lst []]++[.lst [.ref (S.length+ls.length),shD t.ho,.ref (S.length+ls.length+1)]],?_,⟨?_,?_,?_,?_,?_,?_⟩,?_,?_⟩
 .simp[Fi,MN,Tr.d,e,shD]
  lia
 .exact getElem?_at (by simp;lia)
 .rw[jT (by simp),jT (by simp)]
  exact getElem?_at (by simp)
 .rw[jT (by simp;lia)]
  exact getElem?_at (by simp;lia)
 .intro i a y ha hy
  have hi:i<ls.length:=(jb.mp hy).1
  have:a=S.length+i:=by
   rw[List.getElem?_range' hi]at ha
   simp at ha;lia
  subst this
  rw[jT (by simp;lia),jT (by simp;lia),jT (by simp;lia),kS (by lia)]
  have hy':ls[i]?=Gc y:=hy
  simp[hy']
 .simp
 .rw[lh,lh,lh]
  refine⟨?_,?_,?_,List.nodup_range'⟩
  .simp only[jX,om];lia
  .simp only[jX,om];lia
  .simp only[om];lia
 .rw[oZ,oZ,oZ]
  exact .app
 .intro n hn
  simp only[jX,om]at hn
  lia
end
section
variable{S:Sto}{p:Nat}
@[simp] theorem iP{rs:List Rat}{S:Sto}:sqD S (shD rs)=some (rs.map aD,[]):=nr rfl
@[simp] theorem cy{S:Sto}{r:List D}:dr (S++[.lst r]) (.ref S.length)=.own r:=A7 List.getElem?_concat_length
@[simp] theorem Yf{S:Sto}{r:List D}:E7 (S++[.lst r]) S.length=some r:=AX List.getElem?_concat_length
theorem set_same{S:Sto}{q:Nat}{c:Cl}(h:S[q]?=Gc c):S.set q c=S:=by
 apply qS
 intro i
 by_cases e:q=i
 .subst e;rw[jj (As h),h]
 .rw[jU e]
theorem P6{gs:Gd}{t:Tf}{b:Ex}{C:En}{m q:Nat}{h:D->D}{I:Sto->Prop}(hg:∀S,I S->gOk gs S)(hI:∀S c,I S->I (S.set q c)):∀{ds acc:Wp D} {os:En} {S:Sto},os.length=m->I S->S[q]?=Gc (.lst acc)->acc.length+ds.length<=1000->(∀d∈ds,∀os S acc,os.length=m->I S->S[q]?=Gc (.lst acc)->acc.length<sizeLine->∃us us',t d (C++os) S=Gc (C++us)/\b (C++us) S=Gc (.nx,C++us',S.set q (.lst (acc++[h d])))/\us'.length=m)->∃os',os'.length=m/\MW gs t b ds (C++os) S=Gc (.nx,C++os',S.set q (.lst (acc++ds.map h)))
 | [],acc,os,S,ho,hS,hq,hz,H=>⟨os,ho,by
     rw[Nh (hg S hS)]
     have:S.set q (.lst (acc++List.map h []))=S:=by
      rw[mS,mP]
      exact set_same hq
     rw[this]⟩
 |d::ds,acc,os,S,ho,hS,hq,hz,H=>by
  have hl:=As hq
  obtain⟨us,us',e1,e2,hu⟩:=H d jr os S acc ho hS hq (jV (show acc.length<1001 by simp at hz;lia) (jY (by decide) (show 1001<=sizeLine by decide)))
  obtain⟨os',ho',e3⟩:=P6 hg hI (ds:=ds) (acc:=acc++[h d]) (os:=us') (S:=S.set q (.lst (acc++[h d]))) hu (hI S _ hS) (jj hl) (by simp at hz ⊢; lia) λd' hd=>H d' (jf _ hd)
  refine⟨os',ho',?_⟩
  rw[Gp (hg S hS),e1,Bx,e2,Bx,Wm,e3,List.set_set]
  simp
noncomputable def un:D->Rat
 | .tup [.int n,.int d]=>(n:Rat) / (d:Rat)
 |_=>0
theorem Wy(r:Rat):un (aD r)=r:=D3 r
noncomputable def P0(f:Rat->Rat->Rat):D->D
 | .tup [a,b]=>aD (f (un a) (un b))
 |d=>d
theorem OM{f:Rat->Rat->Rat}:∀{ss os:Wp Rat},(NS (ss.map aD) (os.map aD)).map (P0 f)=(pZ f ss os).map aD
 | [],os=>by simp[NS]
 |s::ss,[]=>by simp[NS]
 |s::ss,o::os=>by
  have ih:=OM (f:=f) (ss:=ss) (os:=os)
  unfold NS at ih⊢
  simp only[kY,List.zip_cons_cons,List.zipWith_cons_cons]at ih⊢
  rw[ih]
  simp[P0,Wy]
theorem UZ{ss os:Wp Rat}{d:D}(h:d∈NS (ss.map aD) (os.map aD)):∃s∈ss,∃o∈os,d=.tup [aD s,aD o]:=by
 unfold NS at h
 obtain⟨⟨a,b⟩,h1,rfl⟩:=k6.mp h
 have h2:=nE h1
 obtain⟨s,hs,rfl⟩:=k6.mp h2.1
 obtain⟨o,ho,rfl⟩:=k6.mp h2.2
 exact⟨s,hs,o,ho,rfl⟩
theorem aA:aD 1=.tup [.int 1,.int 1]:=rfl
theorem Y2(n:Int):aD (n:Rat)=.tup [.int n,.int 1]:=by
 unfold aD
 simp
theorem WZ{n:Int}{k:Nat}(h:n.natAbs<2^k)(hk:1<=k):Sz k (n:Rat):=by
 unfold Sz
 have:1<2^k:=qH (by lia)
 simp[h,this]
theorem WQ{k:Nat}(hk:1<=k):Sz k (1:Rat):=by
 have:1<2^k:=qH (by lia)
 exact⟨by simpa using this,by simpa using this⟩
theorem QK{x:Rat}{ss os:Wp Rat}{j i:Nat}(hs:∀r∈ss,Sz j r)(ho:∀r∈os,Sz j r)(hx:Sz i x)(hj:2*j+2*i<=7900)(hl:ss.length<=10):∃S',EI [shD ss,aD x,shD os] S=Gc (shD (HZ x os ss),S')/\DV [] S S':=by
 have hq:(S++[Cl.lst []])[S.length]?=Gc (.lst []):=jz
 obtain⟨os',ho',e⟩:=P6 (gs:=[]) (t:=tTp [tNm 4,tNm 5]) (b:=Df (Pe P9 (eV 3) [AM CJ [AM A1 [eV 4,AM Dj [CS [eC (.int 1),eC (.int 1)],eV 1]],AM A1 [eV 5,eV 1]]])) (C:=[Gc (shD ss),Gc (aD x),Gc (shD os),Gc (.ref S.length)]) (m:=2) (q:=S.length) (h:=P0 λs o=>s*(1-x)+o*x) (I:=λ_=>sJ) (λ_ _=>A5) (λ_ _ _=>trivial)
  (ds:=NS (ss.map aD) (os.map aD)) (acc:=[]) (os:=[none,none]) (S:=S++[Cl.lst []]) rfl trivial hq (by simp[LG];lia) (by
    intro d hd os0 S0 acc h0 _ hq0 hz
    obtain⟨o1,o2,rfl⟩:=bE h0
    obtain⟨s,hs',o,ho',rfl⟩:=UZ hd
    have l1:=WS (S:=S0) (WQ (k:=1) (by decide)) hx (by lia)
    have s1:=(ZK (WQ (k:=1) (by decide)) hx)
    have l2:=J6 (S:=S0) (hs s hs') s1 (by lia)
    have l3:=J6 (S:=S0) (ho o ho') hx (by lia)
    have l4:=Qk (S:=S0) (Mz (hs s hs') s1) (Mz (ho o ho') hx) (by lia)
    rw[aA]at l1
    refine⟨[Gc (aD s),Gc (aD o)],[Gc (aD s),Gc (aD o)],by simp,?_,rfl⟩
    simp[l1,l2,l3,l4,AX hq0,hz,P0,Wy])
 rw[OM]at e
 refine⟨(S++[Cl.lst []]).set S.length (.lst ((HZ x os ss).map aD)),?_,?_⟩
 .have e':MW [] (tTp [tNm 4,tNm 5]) (Df (Pe P9 (eV 3) [AM CJ [AM A1 [eV 4,AM Dj [CS [eC (.int 1),eC (.int 1)],eV 1]],AM A1 [eV 5,eV 1]]])) (NS (ss.map aD) (os.map aD)) [Gc (shD ss),Gc (aD x),Gc (shD os),Gc (.ref S.length),none,none] (S++[Cl.lst []])=Gc (.nx,[Gc (shD ss),Gc (aD x),Gc (shD os),Gc (.ref S.length)]++os',(S++[Cl.lst []]).set S.length (.lst ((HZ x os ss).map aD))):=by simpa[HZ]using e
  simp[EI,L4,e']
  rfl
 .refine⟨by simp,λn hn _=>?_⟩
  rw[jU (by lia),jT hn]
end
section
variable{S:Sto}{p:Nat}
theorem getD_get{α:Type}{xs:Wp α}{n:Nat}{d:α}(h:n<xs.length):xs[n]?=Gc (xs.getD n d):=by
 rw[jy,jS h]
 rfl
theorem getD_mem{α:Type}{xs:Wp α}{n:Nat}{d:α}(h:n<xs.length):xs.getD n d∈xs:=jw (getD_get h)
theorem Uh{ss:Wp Rat}{n:Nat}(h:n<ss.length):atI (ss.map aD) (n:Int)=Gc (aD (ss.getD n 0)):=De (by rw[jq,getD_get h];rfl)
theorem WC{ss:Wp Rat}{n:Nat}(h:n<ss.length):ixN (ss.map aD).length (n:Int)=Gc n:=OG (by simpa using h)
theorem R8{p q:Nat}{x:Rat}{ss:Wp Rat}{j i:Nat}(hs:∀r∈ss,Sz j r)(hx:Sz i x)(hj:2*j+i<=7900)(hp:p<ss.length)(hq:q<ss.length)(hpq:p≠q):∃S',FW [shD ss,(AS.Iq p q x).d] S=Gc (shD (G8 p q x ss),S')/\DV [] S S':=by
 have sp:=hs _ (getD_mem (d:=0) hp)
 have sq:=hs _ (getD_mem (d:=0) hq)
 have l1:∀S,A1 [aD (ss.getD p 0),aD x] S=Gc (aD (ss.getD p 0*x),S):=λS=>J6 sp hx (by lia)
 have s1:=Mz sp hx
 have l2:∀S,Dj [aD (ss.getD p 0),aD (ss.getD p 0*x)] S=Gc (aD (ss.getD p 0-ss.getD p 0*x),S):=λS=>WS sp s1 (by lia)
 have l3:∀S,CJ [aD (ss.getD q 0),aD (ss.getD p 0*x)] S=Gc (aD (ss.getD q 0+ss.getD p 0*x),S):=λS=>Qk sq s1 (by lia)
 have a1:=Uh hp
 have i1:=WC hp
 have i2:ixN (((ss.map aD).set p (aD (ss.getD p 0-ss.getD p 0*x))).length) (q:Int)=Gc q:=OG (by simpa using hq)
 have a2:atI ((ss.map aD).set p (aD (ss.getD p 0-ss.getD p 0*x))) (q:Int)=Gc (aD (ss.getD q 0)):=De (by
  rw[jU hpq,jq,getD_get hq];rfl)
 refine⟨S++[.lst ((G8 p q x ss).map aD)],?_,.app⟩
 simp only[lq,kF]at i1 i2
 have em:(G8 p q x ss).map aD=((ss.map aD).set p (aD (ss.getD p 0-ss.getD p 0*x))).set q (aD (ss.getD q 0+ss.getD p 0*x)):=by rw[G8,ng,ng]
 unfold shD
 rw[em]
 generalize aD (ss.getD p 0-ss.getD p 0*x)=d1 at*
 generalize aD (ss.getD q 0+ss.getD p 0*x)=d2 at*
 generalize aD (ss.getD p 0*x)=d3 at*
 generalize aD (ss.getD p 0)=d4 at*
 generalize aD (ss.getD q 0)=d5 at*
 simp[FW,NO,AS.d,a1,l1,l2,l3,i1,i2,a2]
theorem Su{x y:Ld}{a b:Nat}{j i:Nat}(ha:S[a]?=Gc (CK x))(hb:S[b]?=Gc (CK y))(hs:∀r∈x.ow,Sz j r)(ho:∀r∈y.ow,Sz j r)(hx:x.n.natAbs<2^i)(hy:y.n.natAbs<2^i)(h0:0<x.n+y.n)(h1:1<=i)(hj:2*j+4*i<=7900)(hl:x.ow.length<=10):∃S',GI [.ref a,.ref b] S=Gc (shD (CZ x.n y.n x.ow y.ow),S')/\DV [] S S':=by
 have la:=As ha
 have lb:=As hb
 have hq:(S++[Cl.lst []])[S.length]?=Gc (.lst []):=jz
 have ha':(S++[Cl.lst []])[a]?=Gc (CK x):=by rw[jT la];exact ha
 have hb':(S++[Cl.lst []])[b]?=Gc (CK y):=by rw[jT lb];exact hb
 obtain⟨os',ho',e⟩:=P6 (gs:=[]) (t:=tTp [tNm 3,tNm 4]) (b:=Ad (By 5 (AM CJ [AM A1 [CS [eOp (o2 wIx) [eV 0,eC (.int 1)],eC (.int 1)],eV 3],AM A1 [CS [eOp (o2 wIx) [eV 1,eC (.int 1)],eC (.int 1)],eV 4]]))
  (Df (Pe P9 (eV 2) [AM A1 [eV 5,AM Bv [eC (.int 1),eOp (o2 C4) [eOp (o2 wIx) [eV 0,eC (.int 1)],eOp (o2 wIx) [eV 1,eC (.int 1)]]]]]))) (C:=[Gc (.ref a),Gc (.ref b),Gc (.ref S.length)]) (m:=3) (q:=S.length) (h:=P0 λs o=>(s*x.n+o*y.n) / (x.n+y.n:Int)) (I:=λS'=>S'[a]?=Gc (CK x)/\S'[b]?=Gc (CK y)) (λ_ _=>A5) (λS' c h=>⟨by rw[jU (by lia)];exact h.1,by rw[jU (by lia)];exact h.2⟩)
  (ds:=NS (x.ow.map aD) (y.ow.map aD)) (acc:=[]) (os:=[none,none,none]) (S:=S++[Cl.lst []]) rfl ⟨ha',hb'⟩ hq (by simp[LG];lia) (by
    intro d hd os0 S0 acc h0' hI hq0 hz
    obtain⟨o1,o2,o3,rfl⟩:=dD h0'
    obtain⟨s,hs',o,ho',rfl⟩:=UZ hd
    have d1:=A7 hI.1
    have d2:=A7 hI.2
    have z1:=WZ hx h1
    have z2:=WZ hy h1
    have l1:=J6 (S:=S0) z1 (hs s hs') (by lia)
    have l2:=J6 (S:=S0) z2 (ho o ho') (by lia)
    have s1:=Mz z1 (hs s hs')
    have s2:=Mz z2 (ho o ho')
    have l3:=Qk (S:=S0) s1 s2 (by lia)
    have b1:=IV hx hy
    have l4:=V7 (S:=S0) (t:=1) h0 (DM b1 (by lia))
    have s4:Sz (i+1) (((1:Int):Rat) / ((x.n+y.n:Int):Rat)):=Mv h0 (show(1:Int).natAbs<2^(i+1)from qH (by lia)) b1
    have l5:=J6 (S:=S0) (Ys s1 s2) s4 (by lia)
    rw[Y2]at l1 l2
    refine⟨[Gc (aD s),Gc (aD o),o3],[Gc (aD s),Gc (aD o),Gc (aD (x.n*s+y.n*o))],by simp,?_,rfl⟩
    have ev:(((x.n:Rat)*s+(y.n:Rat)*o)*(((1:Int):Rat) / ((x.n+y.n:Int):Rat)))=(s*x.n+o*y.n) / (x.n+y.n:Int):=by
     push_cast
     grind
    rw[ev]at l5
    have lf:(P0 λs o=>(s*x.n+o*y.n) / (x.n+y.n:Int)) (.tup [aD s,aD o])=aD ((s*x.n+o*y.n) / (x.n+y.n:Int)):=by simp only[P0,Wy]
    rw[lf]
    generalize aD ((s*x.n+o*y.n) / (x.n+y.n:Int))=e5 at*
    generalize aD (((1:Int):Rat) / ((x.n+y.n:Int):Rat))=e4 at*
    generalize aD (x.n*s+y.n*o)=e3 at*
    simp[d1,d2,CK,l1,l2,l3,l4,l5,AX hq0,hz])
 rw[OM]at e
 refine⟨(S++[Cl.lst []]).set S.length (.lst ((CZ x.n y.n x.ow y.ow).map aD)),?_,?_⟩
 .have e':=e
  simp only[lV,kh]at e'
  have d1:=A7 ha'
  have d2:=A7 hb'
  change MW _ _ _ _ _ _=Gc (_,_,List.set _ _ (Cl.lst (List.map aD (CZ x.n y.n x.ow y.ow))))at e'
  generalize CZ x.n y.n x.ow y.ow=rs at*
  simp[GI,Kq,d1,d2,e',shD]
 .refine⟨by simp,λn hn _=>?_⟩
  rw[jU (by lia),jT hn]
end
section
variable{S:Sto}{p:Nat}
theorem GA{α:Type}{gs:Gd}{t:Tf}{f:Ev}{C:En}{m:Nat}{e g:α->D}{S:Sto}(hg:gOk gs S):∀{xs:Wp α} {acc:Wp D} {os:En},os.length=m->acc.length+xs.length<=sizeLine->(∀x∈xs,∀os,os.length=m->∃us,us.length=m/\t (e x) (C++os) S=Gc (C++us)/\f (C++us) S=Gc (g x,S))->Ce gs t E8 f (xs.map e) acc (C++os) S=Gc (acc++xs.map g,S)
 | [],acc,os,ho,hz,h=>by rw[mS,Ek hg];simp
 |x::xs,acc,os,ho,hz,h=>by
  obtain⟨us,hu,e1,e2⟩:=h x jr os ho
  rw[kY,JH hg (by simp at hz;lia) e1 IE,e2,Bx]
  rw[GA hg hu (by simp at hz ⊢; lia) λx' hx=>h x' (jf _ hx)]
  simp
theorem F3{α:Type}{gs:Gd}{t:Tf}{c f:Ev}{C:En}{m:Nat}{e g:α->D}{b:α->kG}{S:Sto}(hg:gOk gs S):∀{xs:Wp α} {acc:Wp D} {os:En},os.length=m->acc.length+xs.length<=sizeLine->(∀x∈xs,∀os,os.length=m->∃us,us.length=m/\t (e x) (C++os) S=Gc (C++us)/\c (C++us) S=Gc (.bl (b x),S)/\f (C++us) S=Gc (g x,S))->Ce gs t c f (xs.map e) acc (C++os) S=Gc (acc++(xs.filter b).map g,S)
 | [],acc,os,ho,hz,h=>by rw[mS,Ek hg];simp
 |x::xs,acc,os,ho,hz,h=>by
  obtain⟨us,hu,e1,e2,e3⟩:=h x jr os ho
  cases hb:b x with
  |true=>
   rw[hb]at e2
   rw[kY,JH hg (by simp at hz;lia) e1 e2,e3,Bx,F3 hg hu (by simp at hz ⊢; lia) λd' hd=>h d' (jf _ hd)]
   simp[hb]
  |false=>
   rw[hb]at e2
   rw[kY,JG hg (by simp at hz;lia) e1 e2,F3 hg hu (by simp at hz ⊢; lia) λd' hd=>h d' (jf _ hd)]
   simp[hb]
theorem V4{as:Wp Nat}{ls:Wp Ld}(h:as.length=ls.length):as.map D.ref=(as.zip ls).map λz=>D.ref z.1:=by
 have:as=(as.zip ls).map Prod.fst:=(List.map_fst_zip (by lia)).symm
 conv=>lhs;rw[this]
 rw[k7];rfl
theorem Wx{β:Type}{as:Wp Nat}{ls:Wp Ld}(h:as.length=ls.length)(g:Ld->β):ls.map g=(as.zip ls).map λz=>g z.2:=by
 have:ls=(as.zip ls).map Prod.snd:=(List.map_snd_zip (by lia)).symm
 conv=>lhs;rw[this]
 rw[k7];rfl
section
variable{s l m:Nat}{as:Wp Nat}{st:Stt}
theorem SAt.gn(h:SAt S s l m as st){z:Nat×Ld}(hz:z∈as.zip st.AF):S[z.1]?=Gc (CK z.2):=by
 obtain⟨i,hi⟩:=nN.mp hz
 have:=qJ.mp hi
 exact h.ld i z.1 z.2 this.1 this.2
theorem SAt.at(h:SAt S s l m as st){i:Nat}(hi:i<st.AF.length):∃a,as[i]?=Gc a/\S[a]?=Gc (CK (AR st.AF i))/\atI (as.map D.ref) (i:Int)=Gc (.ref a):=by
 have h1:i<as.length:=by rw[h.len];exact hi
 refine⟨as[i],jS h1,h.ld i _ _ (jS h1) (EW hi),De (by rw[jq,jS h1];rfl)⟩
theorem SAt.guard(h:SAt S s l m as st):gOk [(l,as.map D.ref)] S:=by
 intro g hg
 simp only[jX,jt,kr]at hg
 subst hg
 exact AX h.lo
end
theorem SO{M:Int}(hM:0<=M):∀{xs:Wp Int},(∀x∈xs,0<=x/\x<=M)->0<=xs.sum/\xs.sum<=xs.length*M
 | [],_=>by simp
 |x::xs,h=>by
  have h1:=h x jr
  have h2:=SO hM λy hy=>h y (jf _ hy)
  simp only[nI,mB]
  refine⟨by lia,?_⟩
  have:((xs.length+1:Nat):Int)*M=xs.length*M+M:=by push_cast;grind
  lia
theorem NB:∀{xs:Wp Int} {y:Int},(∀x∈xs,0<=x)->y∈xs->y<=xs.sum
 |x::xs,y,h,hy=>by
  have h1:=h x jr
  have h2:0<=xs.sum:=by
   clear hy
   induction xs with
   |nil=>simp
   |cons z zs ih=>
    have:=h z (by simp)
    have:=ih λw hw=>h w (by simp at hw ⊢; rcases hw with hw|hw<;>simp[hw])
    simp only[nI];lia
  simp only[nI]
  rcases jX.mp hy with e|e
  .lia
  .have:=NB (λz hz=>h z (jf _ hz)) e
   lia
section
variable{t:Tr}{k:Nat}{st:Stt}{ws:Wp Int}{n:Int}{l:Nat}
theorem Lz{i:Nat}(hw:∀w∈ws,1<=w/\w<=99)(hi:i<ws.length):1<=ws.getD i 0/\ws.getD i 0<=99:=hw _ (getD_mem hi)
theorem Qh{i:Nat}(hi:i<ws.length):atI (ws.map D.int) (i:Int)=Gc (.int (ws.getD i 0)):=De (by rw[jq,getD_get hi];rfl)
theorem Nk(hi:ws.length=k+1):atI (ws.map D.int) (-1:Int)=Gc (.int (ws.getD k 0)):=by
 have ix:ixN (ws.map D.int).length (-1)=Gc k:=by
  rw[kF,hi]
  unfold ixN
  simp
  lia
 unfold atI
 rw[ix]
 show(ws.map D.int)[k]?=_
 rw[jq,getD_get (d:=(0:Int)) (by lia)]
 rfl
theorem J1(ht:JY t)(h:F7 t k st)(hk:k<=20)(hl:ws.length=t.k+1)(hw:∀w∈ws,1<=w/\w<=99):0<ED t st.AF ws/\ED t st.AF ws<2^(145+k):=by
 obtain⟨t1,t2,t3,t4,t5,t6⟩:=ht
 have hP:(0:Int)<=2^(131+k):=Int.le_of_lt (xp (by decide))
 have hs:=SO (M:=2^(131+k)*99) (by lia) (xs:=st.AF.map λl=>l.n*ws.getD l.k 0) (by
  intro x hx
  obtain⟨y,hy,rfl⟩:=k6.mp hx
  have h1:=h.pcs y hy
  have h2:=Lz hw (i:=y.k) (by have:=h.kind y hy;lia)
  refine⟨uy h1.1 (by lia),uz (by lia) h2.2 (by lia) hP⟩)
 have hb:=Lz hw (i:=t.k) (by lia)
 have hlen:=h.len
 rw[kF]at hs
 have h3:(st.AF.length:Int)*(2^(131+k)*99)<=24*(2^(131+k)*99):=pG (by lia) (by lia)
 have h4:(1:Int)<=t.b*ws.getD t.k 0:=by
  have:0<(t.b:Int)*ws.getD t.k 0:=km (by lia) (by lia)
  lia
 have h5:t.b*ws.getD t.k 0<=20*99:=uz (by lia) hb.2 (by lia) (by decide)
 have h6:(2:Int)^(145+k)=2^(131+k)*16384:=by rw[show 145+k=(131+k)+14 by lia,Int.pow_add];rfl
 have h7:(1:Int)<=2^(131+k):=by have:(0:Int)<2^(131+k):=xp (by decide);lia
 have h7':(2:Int)^11<=2^(131+k):=by
  have:(2^11:Nat)<=2^(131+k):=ky (by decide) (by lia)
  exact_mod_cast this
 unfold ED
 rw[h6]
 generalize (2:Int)^(131+k)=P at*
 lia
theorem TC(ht:JY t)(h:F7 t k st)(hl:ws.length=t.k+1)(hw:∀w∈ws,1<=w/\w<=99)(hi:l<st.AF.length)(h1:1<=n)(h2:n<=(AR st.AF l).n):0<n*ws.getD (AR st.AF l).k 0/\n*ws.getD (AR st.AF l).k 0<ED t st.AF ws:=by
 obtain⟨t1,t2,t3,t4,t5,t6⟩:=ht
 have hw1:=Lz hw (i:=(AR st.AF l).k) (by have:=h.kind _ (Az hi);lia)
 have hb:=Lz hw (i:=t.k) (by lia)
 have h4:(1:Int)<=t.b*ws.getD t.k 0:=by
  have:0<(t.b:Int)*ws.getD t.k 0:=km (by lia) (by lia)
  lia
 have h5:=NB (xs:=st.AF.map λl=>l.n*ws.getD l.k 0) (y:=(AR st.AF l).n*ws.getD (AR st.AF l).k 0) (by
  intro x hx
  obtain⟨y,hy,rfl⟩:=k6.mp hx
  have h1:=h.pcs y hy
  have h2:=Lz hw (i:=y.k) (by have:=h.kind y hy;lia)
  exact uy h1.1 (by lia)) (k6.mpr ⟨_,Az hi,rfl⟩)
 have h6:n*ws.getD (AR st.AF l).k 0<=(AR st.AF l).n*ws.getD (AR st.AF l).k 0:=pG h2 (by lia)
 refine⟨km (by lia) (by lia),?_⟩
 unfold ED
 lia
theorem LH(hi:l<st.AF.length):JE t st.AF l n ws=((n*ws.getD (AR st.AF l).k 0:Int):Rat) / (ED t st.AF ws:Rat):=by
 unfold JE
 rw[EW hi]
 rfl
theorem GP{x:Int}{j:Nat}(h0:0<=x)(h1:x<2^j):x.natAbs<2^j:=by
 have:((x.natAbs:Nat):Int)<((2^j:Nat):Int):=by
  rw[Int.natAbs_of_nonneg h0];push_cast;exact h1
 exact_mod_cast this
theorem SE(ht:JY t)(h:F7 t k st)(hk:k<=20)(hl:ws.length=t.k+1)(hw:∀w∈ws,1<=w/\w<=99)(hi:l<st.AF.length)(h1:1<=n)(h2:n<=(AR st.AF l).n):Sz (145+k) (JE t st.AF l n ws):=by
 have a:=J1 ht h hk hl hw
 have b:=TC ht h hl hw hi h1 h2
 rw[LH hi]
 exact Mv a.1 (GP (by lia) (by lia)) (GP (by lia) a.2)
theorem YY{s r m:Nat}{as:Wp Nat}(hS:SAt S s r m as st)(ht:JY t)(h:F7 t k st)(hk:k<=20)(hl:ws.length=t.k+1)(hw:∀w∈ws,1<=w/\w<=99)(hi:l<st.AF.length)(h1:1<=n)(h2:n<=(AR st.AF l).n):IL [t.d,.ref r,(AS.thr l n ws).d] S=Gc (aD (JE t st.AF l n ws),S):=by
 have a:=J1 ht h hk hl hw
 obtain⟨x,x1,x2,x3⟩:=hS.at hi
 have hlen:=h.len
 have e:=GA (gs:=[(r,as.map D.ref)]) (t:=tTp [tNm 1,tNm 2,tNm 3]) (f:=eOp (o2 CW) [eV 2,eOp (o2 wIx) [eV 0,eV 1]]) (C:=[Gc (.tup (ws.map D.int))]) (m:=3) (e:=λz:Nat×Ld=>D.ref z.1) (g:=λz=>D.int (z.2.n*ws.getD z.2.k 0)) hS.guard (xs:=as.zip st.AF) (acc:=[]) (os:=[none,none,none]) rfl (jY (show _<=24 by simp;lia) (AU (by decide))) (by
  intro z hz os ho
  obtain⟨q1,q2,q3,rfl⟩:=dD ho
  have c1:=hS.gn hz
  have hm:z.2∈st.AF:=(nE (a:=z.1) (b:=z.2) hz).2
  have hk:=h.kind _ hm
  have w1:=Qh (ws:=ws) (i:=z.2.k) (by lia)
  have w2:=Lz hw (i:=z.2.k) (by lia)
  have m1:Dp z.2.n (ws.getD z.2.k 0)=true:=mulR (by lia) (by lia)
  generalize ws.getD z.2.k 0=wz at*
  refine⟨[Gc (.int z.2.k),Gc (.int z.2.n),Gc (shD z.2.ow)],rfl,?_,?_⟩
  .simp[AX c1,CK]
  .simp[w1,m1])
 rw[<-V4 hS.len,<-Wx hS.len (λx=>D.int (x.n*ws.getD x.k 0))]at e
 have e':=e
 simp only[lV,kh]at e'
 rw[LH hi]
 have es:K2 (st.AF.map λx=>D.int (x.n*ws.getD x.k 0))=Gc (st.AF.map λx=>x.n*ws.getD x.k 0):=by
  have:=Gk (st.AF.map λx=>x.n*ws.getD x.k 0)
  rwa [k7]at this
 have w1:=Qh (ws:=ws) (i:=(AR st.AF l).k) (by have:=h.kind _ (Az hi);lia)
 have w3:=Lz hw (i:=(AR st.AF l).k) (by have:=h.kind _ (Az hi);lia)
 have w2:=Nk hl
 have w4:=Lz hw (i:=t.k) (by lia)
 have m1:Dp n (ws.getD (AR st.AF l).k 0)=true:=mulR (by lia) (by lia)
 have m2:Dp (t.b:Int) (ws.getD t.k 0)=true:=mulR (by lia) (by lia)
 have l1:=V7 (S:=S) (t:=n*ws.getD (AR st.AF l).k 0) a.1 (DM (GP (by lia) a.2) (by lia))
 have e2:ED t st.AF ws=(st.AF.map λx=>x.n*ws.getD x.k 0).sum+t.b*ws.getD t.k 0:=rfl
 rw[e2]at l1⊢
 generalize aD (((n*ws.getD (AR st.AF l).k 0:Int):Rat) / (((st.AF.map λx=>x.n*ws.getD x.k 0).sum+t.b*ws.getD t.k 0:Int):Rat))=R at*
 generalize (st.AF.map λx=>x.n*ws.getD x.k 0)=es' at*
 generalize (st.AF.map λx=>D.int (x.n*ws.getD x.k 0))=es2 at*
 generalize ws.getD (AR st.AF l).k 0=wa at*
 generalize ws.getD t.k 0=wb at*
 have dx:=A7 x2
 have dl:=A7 hS.lo
 simp[IL,Mt,AS.d,Tr.d,Hg hS.lo,e',es,w2,m2,dl,x3,dx,CK,w1,m1,l1]
theorem TL{G B:Nat}(ht:JY t)(h:F7 t k st)(hk:k<=20)(hl:ws.length=t.k+1)(hw:∀w∈ws,1<=w/\w<=99)(hi:l<st.AF.length)(h1:1<=n)(h2:n<=(AR st.AF l).n){os ss:Wp Rat}(ho:∀r∈os,Ok G B r)(hs:∀r∈ss,Ok G B r):∀r∈HZ (JE t st.AF l n ws) os ss,Ok (G*(ED t st.AF ws).toNat) (B*(ED t st.AF ws).toNat) r:=by
 have a:=J1 ht h hk hl hw
 have b:=TC ht h hl hw hi h1 h2
 intro r hr
 unfold HZ at hr
 rw[nN]at hr
 obtain⟨i,hi'⟩:=hr
 rw[pN]at hi'
 obtain⟨x,y,hx,hy,rfl⟩:=hi'
 rw[LH hi]
 generalize n*ws.getD (AR st.AF l).k 0=c at*
 generalize ED t st.AF ws=W at*
 have:=Ok.mix (a:=(W-c).toNat) (b:=c.toNat) (t:=W.toNat) (hs x (jw hx)) (ho y (jw hy)) (by lia) (by lia)
 have e1:(((W-c).toNat:Nat):Rat)=(W:Rat)-(c:Rat):=by
  have:(((W-c).toNat:Nat):Int)=W-c:=kU (by lia)
  have:((((W-c).toNat:Nat):Int):Rat)=((W-c:Int):Rat):=by rw[this]
  push_cast at this
  exact this
 have e2:((c.toNat:Nat):Rat)=(c:Rat):=by
  have:((c.toNat:Nat):Int)=c:=kU (by lia)
  have:(((c.toNat:Nat):Int):Rat)=(c:Rat):=by rw[this]
  exact this
 have e3:((W.toNat:Nat):Rat)=(W:Rat):=by
  have:((W.toNat:Nat):Int)=W:=kU (by lia)
  have:(((W.toNat:Nat):Int):Rat)=(W:Rat):=by rw[this]
  exact this
 rw[e1,e2,e3]at this
 have ne:(W:Rat)≠0:=by
  intro z
  have:=mz.mp z
  lia
 have ev:(x*((W:Rat)-(c:Rat))+y*(c:Rat)) / (W:Rat)=x*(1-(c:Rat) / (W:Rat))+y*((c:Rat) / (W:Rat)):=by grind
 rw[ev]at this
 exact this
end
end
section
variable{S:Sto}
theorem Wn{x y:Str}(h:nM x=true)(g:nM y=true):Qa (.str x) (.str y)=true:=by
 unfold Qa
 show(nM x && nM y && _)=true
 rw[h,g]
 rfl
theorem Wj(c:Char):c.toNat<1114112:=by
 have h:c.toNat.isValidChar:=c.valid
 rcases h with h|h
 .exact wK h (by decide)
 .exact h.2
theorem QX{x:lx}:nM (lD x)=true:=by
 unfold nM lD
 simp
 intro c hc
 rw[cpsOfBytes_string]at hc
 obtain⟨ch,_,rfl⟩:=k6.mp hc
 exact Wj ch
theorem Oy:∀{a b:Wp Char},a.map zB=b.map zB->a=b
 | [],[],_=>rfl
 |x::a,y::b,h=>by
  rw[kY,kY]at h
  injection h with h1 h2
  rw[Char.toNat_inj.mp h1,Oy h2]
 | [],_::_,h=>nomatch h
 |_::_,[],h=>nomatch h
theorem XX{x y:lx}(h:lD x=lD y):x=y:=by
 rw[qt,qt]at h
 injection h with h
 exact String.toList_inj.mp (Oy (by simpa using h))
@[simp] theorem i0(x y:String):Qa (.str (Str.ofString x)) (.str (Str.ofString y))=true:=Wn QX QX
@[simp] theorem jL(x y:String):deq (.str (Str.ofString x)) (.str (Str.ofString y))=decide (x=y):=by
  show(lD x==lD y)=_
  rw[uT,nB,kQ]
  exact⟨XX,λz=>by rw[z]⟩
@[simp] theorem WW:wIn false (.val (.str "bring")) (.val (.tup [.str "swap",.str "trade"]))=some (.val (.bl false)):=nr rfl
@[simp] theorem U1:wIn false (.val (.str "bring")) (.val (.tup [.str "spoil",.str "throw"]))=some (.val (.bl false)):=nr rfl
@[simp] theorem fF:wIn false (.val (.str "pool")) (.val B2)=some (.val (.bl true)):=nr rfl
@[simp] theorem Wr:wIn false (.val (.str "swap")) (.val (.tup [.str "swap",.str "trade"]))=some (.val (.bl true)):=nr rfl
@[simp] theorem fV:wIn false (.val (.str "swap")) (.val B2)=some (.val (.bl true)):=nr rfl
@[simp] theorem WD:wIn false (.val (.str "trade")) (.val (.tup [.str "swap",.str "trade"]))=some (.val (.bl true)):=nr rfl
@[simp] theorem cU:wIn false (.val (.str "trade")) (.val B2)=some (.val (.bl true)):=nr rfl
@[simp] theorem WB:wIn false (.val (.str "spoil")) (.val (.tup [.str "swap",.str "trade"]))=some (.val (.bl false)):=nr rfl
@[simp] theorem Vg:wIn false (.val (.str "spoil")) (.val (.tup [.str "spoil",.str "throw"]))=some (.val (.bl true)):=nr rfl
@[simp] theorem dY:wIn false (.val (.str "spoil")) (.val B2)=some (.val (.bl false)):=nr rfl
@[simp] theorem Wd:wIn false (.val (.str "throw")) (.val (.tup [.str "swap",.str "trade"]))=some (.val (.bl false)):=nr rfl
@[simp] theorem U8:wIn false (.val (.str "throw")) (.val (.tup [.str "spoil",.str "throw"]))=some (.val (.bl true)):=nr rfl
@[simp] theorem eF:wIn false (.val (.str "throw")) (.val B2)=some (.val (.bl false)):=nr rfl
@[simp] theorem Xl:wIn false (.val (.str "sell")) (.val (.tup [.str "swap",.str "trade"]))=some (.val (.bl false)):=nr rfl
@[simp] theorem Wb:wIn false (.val (.str "sell")) (.val (.tup [.str "spoil",.str "throw"]))=some (.val (.bl false)):=nr rfl
@[simp] theorem fK:wIn false (.val (.str "sell")) (.val B2)=some (.val (.bl false)):=nr rfl
@[simp] theorem aL:dr S B2=.val B2:=nr rfl
section
variable{a b c d e f:D}{r:Wp D}
@[simp] theorem bC:Kh [a,b,c,d,e] (some (-4)) none=[b,c,d,e]:=nr rfl
@[simp] theorem cM:Kh [a,b,c,d,e,f] (some (-4)) none=[c,d,e,f]:=nr rfl
@[simp] theorem dM:Kh [a,b,c,d] (some 1) none=[b,c,d]:=nr rfl
@[simp] theorem bU:Kh [a,b,c,d,e] (some 1) (some 2)=[b]:=nr rfl
@[simp] theorem bp:Kh [a,b,c,d,e,f] (some 1) (some 2)=[b]:=nr rfl
@[simp] theorem az{ds zs:List D}:b9 S ds [.tup zs]=if ds.length+zs.length<=sizeLine then some (.non,ds++zs)else none:=nr rfl
end
end
section
variable{S S':Sto}{s l m:Nat}{as:Wp Nat}{st:Stt}
theorem SAt.same(h:SAt S s l m as st)(g:DV A S S')(hA:∀n∈A,n∉s::l::m::as):SAt S' s l m as st where
 root:=g.get h.root λz=>hA _ z (by simp)
 lo:=g.get h.lo λz=>hA _ z (by simp)
 nu:=g.get h.nu λz=>hA _ z (by simp)
 ld:=λi a x ha hx=>g.get (h.ld i a x ha hx) λz=>hA _ z (by simp[jw ha])
 len:=h.len
 nd:=h.nd
theorem SAt.Sn(h:SAt S s l m as st)(g:DV [] S S'):SAt S' s l m as st:=h.same g λ_ z=>(nomatch z)
theorem SAt.ne(h:SAt S s l m as st):s≠l/\s≠m/\l≠m/\s∉as/\l∉as/\m∉as/\as.Nodup:=by
 have:=h.nd
 simp only[lh,jX,sR]at this
 obtain⟨⟨a,b,c⟩,⟨d,e⟩,f,g⟩:=this
 exact⟨a,b,d,c,e,f,g⟩
theorem SAt.Pj(h:SAt S s l m as st){i a:Nat}{y:Ld}(ha:as[i]?=Gc a):SAt (S.set a (CK y)) s l m as {st with AF:=st.AF.set i y}:=by
 obtain⟨n1,n2,n3,n4,n5,n6,n7⟩:=h.ne
 have ma:=jw ha
 have q1:a≠s:=λe=>n4 (e▸ma)
 have q2:a≠l:=λe=>n5 (e▸ma)
 have q3:a≠m:=λe=>n6 (e▸ma)
 have hi:i<as.length:=(jb.mp ha).1
 have hi':i<st.AF.length:=by rw[<-h.len];exact hi
 refine⟨by rw[jU q1];exact h.root,by rw[jU q2];exact h.lo,by rw[jU q3];exact h.nu,?_,by simp[h.len],h.nd⟩
 intro j b x hb hx
 by_cases e:i=j
 .subst e
  rw[ha]at hb
  cases hb
  have hx':(st.AF.set i y)[i]?=Gc x:=hx
  rw[jj hi']at hx'
  cases hx'
  have hl:a<S.length:=As (h.ld i a _ ha (jS hi'))
  exact jj hl
 .have hx':(st.AF.set i y)[j]?=Gc x:=hx
  rw[jU e]at hx'
  have:a≠b:=by
   intro z
   subst z
   exact e ((qP hi n7).mp (ha.trans hb.symm))
  rw[jU this]
  exact h.ld j b x hb hx'
theorem SAt.lts(h:SAt S s l m as st):∀n∈s::l::m::as,n<S.length:=by
 intro n hn
 simp only[jX]at hn
 rcases hn with rfl|rfl|rfl|hn
 .exact As h.root
 .exact As h.lo
 .exact As h.nu
 .obtain⟨i,hi⟩:=nN.mp hn
  have:i<st.AF.length:=by rw[<-h.len];exact(jb.mp hi).1
  exact As (h.ld i n _ hi (jS this))
theorem SAt.app(h:SAt S s l m as st)(y:Ld):SAt ((S++[CK y]).set l (.lst (as.map D.ref++[.ref S.length]))) s l m (as++[S.length]) {st with AF:=st.AF++[y]}:=by
 obtain⟨n1,n2,n3,n4,n5,n6,n7⟩:=h.ne
 have lt:=h.lts
 have ls:=lt s (by simp);have ll:=lt l (by simp);have lm:=lt m (by simp)
 have la:∀a∈as,a<S.length:=λa ha=>lt a (by simp[ha])
 refine⟨?_,?_,?_,?_,by simp[h.len],?_⟩
 .rw[jU (kZ n1),jT ls];exact h.root
 .rw[jj (by simp;lia)];simp
 .rw[jU n3,jT lm];exact h.nu
 .intro i a x ha hx
  by_cases e:i<as.length
  .rw[jT e]at ha
   have hx':(st.AF++[y])[i]?=Gc x:=hx
   rw[jT (by rw[<-h.len];exact e)]at hx'
   have ma:=jw ha
   rw[jU (show l≠a by rintro rfl;exact n5 ma),jT (la a ma)]
   exact h.ld i a x ha hx'
  .have hx':(st.AF++[y])[i]?=Gc x:=hx
   have:i=as.length:=by
    have:=(jb.mp ha).1
    simp at this;lia
   subst this
   rw[jz]at ha
   cases ha
   rw[h.len,jz]at hx'
   cases hx'
   rw[jU (by lia),jz]
 .have:(s::l::m::(as++[S.length]))=(s::l::m::as)++[S.length]:=by simp
  rw[this,qQ]
  refine⟨h.nd,by simp,?_⟩
  intro a ha b hb e
  simp only[jX,jt,kr]at hb
  have:=lt a ha
  lia
theorem SAt.hold(h:SAt S s l m as st)(rs:Wp Rat):SAt (S.set s (.lst [.ref l,shD rs,.ref m])) s l m as {st with hold:=rs}:=by
 obtain⟨n1,n2,n3,n4,n5,n6,n7⟩:=h.ne
 refine⟨jj (h.lts s (by simp)),by rw[jU n1];exact h.lo,by rw[jU n2];exact h.nu,?_,h.len,h.nd⟩
 intro i a x ha hx
 rw[jU (show s≠a by rintro rfl;exact n4 (jw ha))]
 exact h.ld i a x ha hx
theorem SAt.nums(h:SAt S s l m as st)(us:Wp Int):SAt (S.set m (.lst (us.map D.int))) s l m as {st with nums:=us}:=by
 obtain⟨n1,n2,n3,n4,n5,n6,n7⟩:=h.ne
 refine⟨by rw[jU (kZ n2)];exact h.root,by rw[jU (kZ n3)];exact h.lo,jj (h.lts m (by simp)),?_,h.len,h.nd⟩
 intro i a x ha hx
 rw[jU (show m≠a by rintro rfl;exact n6 (jw ha))]
 exact h.ld i a x ha hx
theorem Pb{f:Ld->Ld}{body:Ex}{C:En}{i8:Nat}{o0:jO D}(h:SAt S s l m as st)(hi:C.length=i8)(hb:∀(S':Sto) (a:Nat) (x:Ld),x∈st.AF->S'[a]?=Gc (CK x)->∃S2,body (C++[Gc (.ref a)]) S'=Gc (.nx,C++[Gc (.ref a)],S2.set a (CK (f x)))/\DV [] S' S2):∃o S',MW [(l,as.map D.ref)] (tNm i8) body (as.map D.ref) (C++[o0]) S=Gc (.nx,C++[o],S')/\SAt S' s l m as {st with AF:=st.AF.map f}/\DV as S S':=by
 obtain⟨E',S',e,i,o,i1,i2,rfl,i3,i4⟩:=Hh (gs:=[(l,as.map D.ref)]) (t:=tNm i8) (b:=body)
  (I:=λds E S'=>∃(i:Nat) (o:jO D),ds=(as.drop i).map D.ref/\i<=as.length/\E=C++[o]/\SAt S' s l m as {st with AF:=(st.AF.take i).map f++st.AF.drop i}/\DV as S S')
  (λds E S' hI=>by obtain⟨i,o,_,_,_,h1,_⟩:=hI;exact h1.guard) (ds:=as.map D.ref) (E:=C++[o0]) (S:=S)
  ⟨0,o0,by simp,l9 _,rfl,by simpa using h,.refl⟩ (by
    rintro d ds E S1 ⟨i,o,i1,i2,rfl,i3,i4⟩
    have hlt:i<as.length:=by
     rcases mW i as.length with w|w
     .exact w
     .rw[lM w]at i1;cases i1
    rw[kW hlt,kY]at i1
    injection i1 with e1 e2
    subst e1 e2
    have hl2:i<st.AF.length:=by rw[<-h.len];exact hlt
    have ha:=jS hlt
    have hx:((st.AF.take i).map f++st.AF.drop i)[i]?=Gc st.AF[i]:=by
     rw[kS (by simp;lia)]
     simp[pS (pU hl2)]
    obtain⟨S2,e3,g3⟩:=hb S1 as[i] st.AF[i] (nZ hl2) (i3.ld i _ _ ha hx)
    have k:=(i3.Sn g3).Pj (y:=f st.AF[i]) ha
    refine⟨C++[Gc (.ref as[i])],C++[Gc (.ref as[i])],S2.set as[i] (CK (f st.AF[i])),?_,e3,i+1,Gc (.ref as[i]),rfl,hlt,rfl,?_,?_⟩
    .rw[W5]
     congr 1
     subst hi
     rw[q0 _ _ (ja _)]
     simp
    .have:((st.AF.take i).map f++st.AF.drop i).set i (f st.AF[i])=(st.AF.take (i+1)).map f++st.AF.drop (i+1):=by
      rw[q0 _ _ (by simp;lia)]
      have e0:i-((st.AF.take i).map f).length=0:=by simp;lia
      rw[e0,kW hl2,List.set_cons_zero,List.take_succ_eq_append_getElem hl2,nG]
      simp
     rw[<-this]
     exact k
    .exact(i4.trans (g3.mono λ_ z=>(nomatch z))).trans (.set (nZ hlt)))
 refine⟨o,S',e,?_,i4⟩
 have hz:i=as.length:=by
  have:=congrArg qM i1
  simp at this
  lia
 have:(st.AF.take i).map f++st.AF.drop i=st.AF.map f:=by
  rw[hz,h.len];simp
 rw[this]at i3
 exact i3
end
section
variable{S S':Sto}{s l m:Nat}{as:Wp Nat}{st:Stt}{t:Tr}{k:Nat}
theorem Xj{i:Nat}{n:Int}{j:Nat}(hi:i<st.AF.length)(h:∀x∈st.AF,∀r∈x.ow,Sz j r):∀x∈less st.AF i n,∀r∈x.ow,Sz j r:=by
 intro x hx
 rcases OC hx hi with h1|h1
 .exact h x h1
 .rw[h1];exact h (AR st.AF i) (Az hi)
theorem US{i:Nat}{n:Int}{j:Nat}(hi:i<st.AF.length)(h:∀x∈st.AF,x.ow.length=j):∀x∈less st.AF i n,x.ow.length=j:=by
 intro x hx
 rcases OC hx hi with h1|h1
 .exact h x h1
 .rw[h1];exact h (AR st.AF i) (Az hi)
theorem VN(hS:SAt S s l m as st)(ht:JY t)(h:F7 t k st)(hk:k<=16){i:Nat}{n:Int}{ws:Wp Int}(hc:Can t st (.thr i n ws)):∃S',FV [t.d,.ref s,(AS.thr i n ws).d] S=Gc (.non,S')/\SAt S' s l m as (step t st (.thr i n ws))/\DV (s::l::m::as) S S':=by
 obtain⟨hi,h1,h2,hl,hw⟩:=hc
 have cO:=YY hS ht h (by lia) hl hw hi h1 h2
 have cz:=SE ht h (by lia) hl hw hi h1 h2
 have sz:=h.sz
 obtain⟨a,a1,a2,a3⟩:=hS.at hi
 have hS1:=hS.Pj (y:=⟨(AR st.AF i).k,(AR st.AF i).n-n,(AR st.AF i).ow⟩) a1
 have o1:=sz.1 _ (Az hi)
 have tp:=ht.2.1
 have hdef:step t st (.thr i n ws)={st with AF:=(less st.AF i n).map λx=>{x with ow:=HZ (JE t st.AF i n ws) (AR st.AF i).ow x.ow},hold:=HZ (JE t st.AF i n ws) (AR st.AF i).ow st.hold}:=rfl
 rw[hdef]
 generalize hX:JE t st.AF i n ws=X at*
 obtain⟨o,S2,f1,f2,f3⟩:=Pb (f:=λx=>{x with ow:=HZ X (AR st.AF i).ow x.ow}) (body:=NN (AM EI [eOp (o2 wIx) [eV 8,eC (.int 2)],eV 6,eV 7]) (eV 8) (eC (.int 2))) (C:=[Gc t.d,Gc (.ref s),Gc (AS.thr i n ws).d,Gc (.ref l),Gc (shD st.hold),Gc (.ref m),Gc (aD X),Gc (shD (AR st.AF i).ow)]) (i8:=8) (o0:=none) hS1 rfl (by
  intro S' b x hx hb
  obtain⟨S2,e2,g2⟩:=QK (S:=S') (x:=X) (ss:=x.ow) (os:=(AR st.AF i).ow) (j:=30+170*k) (i:=145+k) (Xj (n:=n) hi sz.1 x hx) o1 cz (by lia) (by rw[US (n:=n) hi h.own x hx];lia)
  have hb2:=g2.get hb (by simp)
  refine⟨S2,?_,g2⟩
  simp[A7 hb,CK,e2,AX hb2])
 obtain⟨S3,e3,g3⟩:=QK (S:=S2) (x:=X) (ss:=st.hold) (os:=(AR st.AF i).ow) (j:=30+170*k) (i:=145+k) sz.2 o1 cz (by lia) (by rw[h.hold];lia)
 have f4:=(f2.Sn g3)
 have rt:=f4.root
 refine⟨S3.set s (.lst [.ref l,shD (HZ X (AR st.AF i).ow st.hold),.ref m]),?_,f4.hold _,?_⟩
 .have f1':=f1
  simp only[lV,kh]at f1'
  have rt':E7 S3 s=Gc [.ref l,shD st.hold,.ref m]:=AX rt
  have r0:=AX hS.root
  have lo:=A7 hS.lo
  have xx:=A7 a2
  have c2:=AX a2
  have sq1:=Hg hS1.lo
  simp only[CK]at f1' sq1 c2 xx
  simp only[AS.d]at f1' cO⊢
  simp[FV,J7,r0,cO,lo,a3,xx,c2,sq1,f1',e3,rt']
 .have q1:DV (s::l::m::as) S (S.set a (CK ⟨(AR st.AF i).k,(AR st.AF i).n-n,(AR st.AF i).ow⟩)):=.set (by simp[jw a1])
  exact((q1.trans (f3.mono λn hn=>by simp[hn])).trans (g3.mono λ_ z=>(nomatch z))).trans (.set (by simp))
theorem TZ(hS:SAt S s l m as st)(ht:JY t)(h:F7 t k st)(hk:k<=16){p q:Nat}{x:Rat}(hc:Can t st (.Iq p q x)):∃S',FV [t.d,.ref s,(AS.Iq p q x).d] S=Gc (.non,S')/\SAt S' s l m as (step t st (.Iq p q x))/\DV (s::l::m::as) S S':=by
 obtain⟨hpq,hp,hq,x1,x2,x3⟩:=hc
 have sz:=h.sz
 have hx:Sz 4 x:=by
  refine⟨?_,by lia⟩
  show x.num.natAbs<16
  lia
 have hdef:step t st (.Iq p q x)={st with AF:=st.AF.map λy=>{y with ow:=G8 p q x y.ow},hold:=G8 p q x st.hold}:=rfl
 rw[hdef]
 obtain⟨o,S2,f1,f2,f3⟩:=Pb (f:=λy=>{y with ow:=G8 p q x y.ow}) (body:=NN (AM FW [eOp (o2 wIx) [eV 8,eC (.int 2)],eV 2]) (eV 8) (eC (.int 2))) (C:=[Gc t.d,Gc (.ref s),Gc (AS.Iq p q x).d,Gc (.ref l),Gc (shD st.hold),Gc (.ref m),none,none]) (i8:=8) (o0:=none) hS rfl (by
  intro S' b y hy hb
  obtain⟨S2,e2,g2⟩:=R8 (S:=S') (p:=p) (q:=q) (x:=x) (ss:=y.ow) (j:=30+170*k) (i:=4) (sz.1 y hy) hx (by lia) (by rw[h.own y hy];exact hp) (by rw[h.own y hy];exact hq) hpq
  have hb2:=g2.get hb (by simp)
  refine⟨S2,?_,g2⟩
  simp[A7 hb,CK,e2,AX hb2])
 obtain⟨S3,e3,g3⟩:=R8 (S:=S2) (p:=p) (q:=q) (x:=x) (ss:=st.hold) (j:=30+170*k) (i:=4) sz.2 hx (by lia) (by rw[h.hold];exact hp) (by rw[h.hold];exact hq) hpq
 have f4:=(f2.Sn g3)
 have rt:=f4.root
 refine⟨S3.set s (.lst [.ref l,shD (G8 p q x st.hold),.ref m]),?_,f4.hold _,?_⟩
 .have f1':=f1
  simp only[lV,kh]at f1'
  have rt':E7 S3 s=Gc [.ref l,shD st.hold,.ref m]:=AX rt
  have r0:=AX hS.root
  have sq1:=Hg hS.lo
  simp only[AS.d]at f1' e3⊢
  simp[FV,J7,r0,sq1,f1',e3,rt']
 .exact((f3.mono λn hn=>by simp[hn]).trans (g3.mono λ_ z=>(nomatch z))).trans (.set (by simp))
end
section
variable{S S':Sto}{s l m:Nat}{as:Wp Nat}{st:Stt}{t:Tr}{k:Nat}
theorem P1{ls:Wp Ld}{l:Nat}{n:Int}:less ls l n=ls.set l ⟨(AR ls l).k,(AR ls l).n-n,(AR ls l).ow⟩:=rfl
theorem RB{P p:Nat}{cond:Int}{C:En}{dd:D}{f:Ev}(hP:P<=50)(hf:∀(i:Nat),f [Gc dd,Gc (.int i)] S=Gc (aD (if i=p then 1 else 0),S)):Ce [] (tNm 1) E8 f (Mq 0 P) [] [Gc dd,none] S=Gc ((TJ P p).map aD,S):=by
 have:=GA (gs:=[]) (t:=tNm 1) (f:=f) (C:=[Gc dd]) (m:=1) (e:=λi:Nat=>D.int (0+(i:Int))) (g:=λi=>aD (if i=p then 1 else 0)) (S:=S) A5 (xs:=lJ P) (acc:=[]) (os:=[none]) rfl (jY (show _<=50 by simp;lia) (AU (by decide))) (by
  intro i _ os ho
  obtain⟨o,rfl⟩:=UT ho
  refine⟨[Gc (.int i)],rfl,by simp,hf i⟩)
 simp only[lV,kh]at this
 rw[TJ,k7]
 exact this
theorem V0(hS:SAt S s l m as st)(ht:JY t)(h:F7 t k st)(hk:k<=16){p kd:Nat}{n:Int}(hc:Can t st (.EB p kd n)):∃S' as',Bf [t.d,.ref s,(AS.EB p kd n).d] S=Gc (.non,S')/\SAt S' s l m as' (step t st (.EB p kd n))/\DV (s::l::m::as) S S'/\∀n∈as',n∈as\/S.length<=n:=by
 have tp:=ht.2.1
 have e:=RB (S:=S) (P:=t.p) (p:=p) (cond:=0) (C:=[]) (dd:=(AS.EB p kd n).d) (f:=CS [eOp (o1 WJ) [eOp (o2 wEq) [eV 1,eOp (o2 wIx) [eV 0,eC (.int 1)]]],eC (.int 1)]) (by lia) (by
  intro i
  by_cases hi:i=p
  .subst hi;simp[AS.d];rfl
  .have:((i:Int)==(p:Int))=false:=by simp;lia
   simp[AS.d,this,hi];rfl)
 have rn:KO (t.p:Int)=true:=FK (by lia) (by lia)
 have hz:as.length<sizeLine:=jV (show as.length<50 by rw[hS.len];have:=h.len;lia) (AU (by decide))
 refine⟨_,_,?_,hS.app ⟨kd,n,TJ t.p p⟩,?_,?_⟩
 .have r0:=AX hS.root
  have c0:=AX hS.lo
  have c1:E7 (S++[CK ⟨kd,n,TJ t.p p⟩]) l=Gc (as.map D.ref):=AX (by rw[jT (As hS.lo)];exact hS.lo)
  simp only[CK]at c1⊢
  simp only[AS.d]at e⊢
  simp[Bf,GH,r0,Tr.d,rn,e,c0,shD]at c1⊢
  simp[c1,hz]
 .exact DV.app.trans (.set (by simp))
 .intro n hn
  rcases kB.mp hn with w|w
  .exact .inl w
  .simp at w;exact .inr (by lia)
theorem Uy(hS:SAt S s l m as st)(ht:JY t)(h:F7 t k st)(hk:k<=16){i:Nat}{n:Int}(hc:Can t st (.FJ i n)):∃S' as',Bf [t.d,.ref s,(AS.FJ i n).d] S=Gc (.non,S')/\SAt S' s l m as' (step t st (.FJ i n))/\DV (s::l::m::as) S S'/\∀n∈as',n∈as\/S.length<=n:=by
 obtain⟨hi,h1,h2⟩:=hc
 obtain⟨a,a1,a2,a3⟩:=hS.at hi
 refine⟨_,as,?_,hS.Pj (y:=⟨(AR st.AF i).k,(AR st.AF i).n-n,(AR st.AF i).ow⟩) a1,.set (by simp[jw a1]),λn hn=>.inl hn⟩
 have r0:=AX hS.root
 have lo:=A7 hS.lo
 have xx:=A7 a2
 have c2:=AX a2
 simp only[CK]at c2 xx⊢
 simp[Bf,GH,AS.d,r0,lo,a3,xx,c2]
theorem Zg(hS:SAt S s l m as st)(ht:JY t)(h:F7 t k st)(hk:k<=16){i:Nat}{n:Int}{ws:Wp Int}(hc:Can t st (.thr i n ws)):∃S' as',Bf [t.d,.ref s,(AS.thr i n ws).d] S=Gc (.non,S')/\SAt S' s l m as' (step t st (.thr i n ws))/\DV (s::l::m::as) S S'/\∀n∈as',n∈as\/S.length<=n:=by
 obtain⟨S',e,g1,g2⟩:=VN hS ht h hk hc
 refine⟨S',as,?_,g1,g2,λn hn=>.inl hn⟩
 have r0:=AX hS.root
 simp only[AS.d]at e⊢
 simp[Bf,GH,r0,e]
theorem YF(hS:SAt S s l m as st)(ht:JY t)(h:F7 t k st)(hk:k<=16){p q:Nat}{x:Rat}(hc:Can t st (.Iq p q x)):∃S' as',Bf [t.d,.ref s,(AS.Iq p q x).d] S=Gc (.non,S')/\SAt S' s l m as' (step t st (.Iq p q x))/\DV (s::l::m::as) S S'/\∀n∈as',n∈as\/S.length<=n:=by
 obtain⟨S',e,g1,g2⟩:=TZ hS ht h hk hc
 refine⟨S',as,?_,g1,g2,λn hn=>.inl hn⟩
 have r0:=AX hS.root
 simp only[AS.d]at e⊢
 simp[Bf,GH,r0,e]
theorem YC(hS:SAt S s l m as st)(ht:JY t)(h:F7 t k st)(hk:k<=16){i kd:Nat}{g n:Int}(hc:Can t st (.swap i g kd n)):∃S' as',Bf [t.d,.ref s,(AS.swap i g kd n).d] S=Gc (.non,S')/\SAt S' s l m as' (step t st (.swap i g kd n))/\DV (s::l::m::as) S S'/\∀n∈as',n∈as\/S.length<=n:=by
 obtain⟨hi,h1,h2,h3,h4,h5,h6⟩:=hc
 obtain⟨a,a1,a2,a3⟩:=hS.at hi
 have hS1:=hS.Pj (y:=⟨(AR st.AF i).k,(AR st.AF i).n-g,(AR st.AF i).ow⟩) a1
 have hS2:=hS1.app ⟨kd,n,(AR st.AF i).ow⟩
 have hz:as.length<sizeLine:=jV (show as.length<50 by rw[hS.len];have:=h.len;lia) (AU (by decide))
 have hz2:st.nums.length<=sizeLine:=jY (show _<=20 by have:=h.nm;lia) (AU (by decide))
 refine⟨_,_,?_,hS2,?_,?_⟩
 .have r0:=AX hS.root
  have lo:=A7 hS.lo
  have xx:=A7 a2
  have c2:=AX a2
  have lo1:=A7 hS1.lo
  have co1:=AX hS1.lo
  have x1:=A7 (jj (a:=CK ⟨(AR st.AF i).k,(AR st.AF i).n-g,(AR st.AF i).ow⟩) (As a2))
  have c4:E7 ((S.set a (CK ⟨(AR st.AF i).k,(AR st.AF i).n-g,(AR st.AF i).ow⟩))++[CK ⟨kd,n,(AR st.AF i).ow⟩]) l=Gc (as.map D.ref):=AX (by rw[jT (As hS1.lo)];exact hS1.lo)
  have nu:=hS2.nu
  have c5:=AX nu
  have st5:∀{T:Sto},T[m]?=Gc (.lst (st.nums.map D.int))->T.set m (.lst (st.nums.map D.int))=T:=λh=>set_same h
  have st6:=st5 nu
  simp only[CK]at c2 xx lo1 co1 x1 c4 c5 st6⊢
  have hz':(as.map D.ref).length<sizeLine:=by simpa using hz
  generalize (as.map D.ref)=refs at*
  simp[Bf,GH,AS.d,r0,lo,a3,xx,c2,lo1,x1,co1]at c4 c5 st6⊢
  simp[c4,hz',c5,hz2,st6]
 .exact((DV.set (by simp[jw a1])).trans .app).trans (.set (by simp))
 .intro n hn
  rcases kB.mp hn with w|w
  .exact .inl w
  .simp at w;exact .inr (by lia)
theorem Vm(hS:SAt S s l m as st)(ht:JY t)(h:F7 t k st)(hk:k<=16){i kd:Nat}{u g n:Int}(hc:Can t st (.Dq u i g kd n)):∃S' as',Bf [t.d,.ref s,(AS.Dq u i g kd n).d] S=Gc (.non,S')/\SAt S' s l m as' (step t st (.Dq u i g kd n))/\DV (s::l::m::as) S S'/\∀n∈as',n∈as\/S.length<=n:=by
 obtain⟨hi,h1,h2,h3,h4,h5,h6,h7,h8⟩:=hc
 obtain⟨a,a1,a2,a3⟩:=hS.at hi
 have hS1:=hS.Pj (y:=⟨(AR st.AF i).k,(AR st.AF i).n-g,(AR st.AF i).ow⟩) a1
 have hS2:=hS1.app ⟨kd,n,(AR st.AF i).ow⟩
 have hz:as.length<sizeLine:=jV (show as.length<50 by rw[hS.len];have:=h.len;lia) (AU (by decide))
 have hz2:st.nums.length+1<=sizeLine:=jY (show _<=20 by have:=h.nm;lia) (AU (by decide))
 refine⟨_,_,?_,hS2.nums (st.nums++[u]),?_,?_⟩
 .have r0:=AX hS.root
  have lo:=A7 hS.lo
  have xx:=A7 a2
  have c2:=AX a2
  have lo1:=A7 hS1.lo
  have co1:=AX hS1.lo
  have x1:=A7 (jj (a:=CK ⟨(AR st.AF i).k,(AR st.AF i).n-g,(AR st.AF i).ow⟩) (As a2))
  have c4:E7 ((S.set a (CK ⟨(AR st.AF i).k,(AR st.AF i).n-g,(AR st.AF i).ow⟩))++[CK ⟨kd,n,(AR st.AF i).ow⟩]) l=Gc (as.map D.ref):=AX (by rw[jT (As hS1.lo)];exact hS1.lo)
  have nu:=hS2.nu
  have c5:=AX nu
  simp only[CK]at c2 xx lo1 co1 x1 c4 c5⊢
  have hz':(as.map D.ref).length<sizeLine:=by simpa using hz
  generalize (as.map D.ref)=refs at*
  simp[Bf,GH,AS.d,r0,lo,a3,xx,c2,lo1,x1,co1]at c4 c5⊢
  simp[c4,hz',c5,hz2]
 .exact(((DV.set (by simp[jw a1])).trans .app).trans (.set (by simp))).trans (.set (by simp))
 .intro n hn
  rcases kB.mp hn with w|w
  .exact .inl w
  .simp at w;exact .inr (by lia)
theorem Wl(hS:SAt S s l m as st)(ht:JY t)(h:F7 t k st)(hk:k<=16){i j:Nat}(hc:Can t st (.JZ i j)):∃S' as',Bf [t.d,.ref s,(AS.JZ i j).d] S=Gc (.non,S')/\SAt S' s l m as' (step t st (.JZ i j))/\DV (s::l::m::as) S S'/\∀n∈as',n∈as\/S.length<=n:=by
 obtain⟨hij,hi,hj,h1,h2,h3⟩:=hc
 obtain⟨a,a1,a2,a3⟩:=hS.at hi
 obtain⟨b,b1,b2,b3⟩:=hS.at hj
 have sz:=h.sz
 have pi:=h.pcs _ (Az hi)
 have pj:=h.pcs _ (Az hj)
 obtain⟨S1,e1,g1⟩:=Su (S:=S) (x:=AR st.AF i) (y:=AR st.AF j) (j:=30+170*k) (i:=131+k) a2 b2 (sz.1 _ (Az hi)) (sz.1 _ (Az hj)) (GP pi.1 pi.2) (GP pj.1 pj.2) (by lia) (by lia) (by lia) (by rw[h.own _ (Az hi)];have:=ht.2.1;lia)
 have hS1:=hS.Sn g1
 have hab:a≠b:=by
  rintro rfl
  exact hij ((qP (jb.mp a1).1 hS.ne.2.2.2.2.2.2).mp (a1.trans b1.symm))
 have hS2:=hS1.app ⟨(AR st.AF i).k,(AR st.AF i).n+(AR st.AF j).n,CZ (AR st.AF i).n (AR st.AF j).n (AR st.AF i).ow (AR st.AF j).ow⟩
 have ai:i<as.length:=(jb.mp a1).1
 have bj:j<as.length:=(jb.mp b1).1
 have a1':(as++[S1.length])[i]?=Gc a:=by rw[jT ai];exact a1
 have b1':(as++[S1.length])[j]?=Gc b:=by rw[jT bj];exact b1
 have hS3:=hS2.Pj (y:=⟨(AR st.AF i).k,0,(AR st.AF i).ow⟩) a1'
 have hS4:=hS3.Pj (y:=⟨(AR st.AF j).k,0,(AR st.AF j).ow⟩) b1'
 have hz:as.length<sizeLine:=jV (show as.length<50 by rw[hS.len];have:=h.len;lia) (AU (by decide))
 have est:step t st (.JZ i j)={st with AF:=((st.AF++[Ld.mk (AR st.AF i).k ((AR st.AF i).n+(AR st.AF j).n) (CZ (AR st.AF i).n (AR st.AF j).n (AR st.AF i).ow (AR st.AF j).ow)]).set i ⟨(AR st.AF i).k,0,(AR st.AF i).ow⟩).set j ⟨(AR st.AF j).k,0,(AR st.AF j).ow⟩}:=by
  have e0:AR (less st.AF i (AR st.AF i).n) j=AR st.AF j:=by
   unfold AR less
   rw[jy,jU hij,<-jy]
  have e1:less st.AF i (AR st.AF i).n=st.AF.set i ⟨(AR st.AF i).k,0,(AR st.AF i).ow⟩:=by
   unfold less
   rw[wW]
  have e2:less (less st.AF i (AR st.AF i).n) j (AR st.AF j).n=(st.AF.set i ⟨(AR st.AF i).k,0,(AR st.AF i).ow⟩).set j ⟨(AR st.AF j).k,0,(AR st.AF j).ow⟩:=by
   rw[P1 (ls:=less st.AF i (AR st.AF i).n),e0,wW,e1]
  show{st with AF:=less (less st.AF i (AR st.AF i).n) j (AR st.AF j).n++_}=_
  rw[e2,rQ _ _ hi,rQ _ _ (by simpa using hj)]
 refine⟨_,_,?_,est▸hS4,?_,?_⟩
 .have r0:=AX hS.root
  have lo:=A7 hS.lo
  have c0:=AX hS.lo
  have xa:=A7 a2
  have xb:=A7 b2
  have c1:=AX hS1.lo
  have c4:E7 (S1++[CK ⟨(AR st.AF i).k,(AR st.AF i).n+(AR st.AF j).n,CZ (AR st.AF i).n (AR st.AF j).n (AR st.AF i).ow (AR st.AF j).ow⟩]) l=Gc (as.map D.ref):=AX (by rw[jT (As hS1.lo)];exact hS1.lo)
  have c5:=AX (hS2.ld i a (AR st.AF i) a1' (by show(st.AF++_)[i]?=_;rw[jT hi];exact EW hi))
  have c6:=AX (hS3.ld j b (AR st.AF j) b1' (by show((st.AF++_).set i _)[j]?=_;rw[jU hij,jT hj];exact EW hj))
  simp only[CK]at xa xb c4 c5 c6⊢
  have hz':(as.map D.ref).length<sizeLine:=by simpa using hz
  generalize (as.map D.ref)=refs at*
  generalize CZ (AR st.AF i).n (AR st.AF j).n (AR st.AF i).ow (AR st.AF j).ow=pr at*
  simp[Bf,GH,AS.d,r0,lo,a3,b3,xa,xb,c0,e1]at c4 c5 c6⊢
  simp[c4,hz',c5,c6]
 .exact(((g1.mono λ_ z=>(nomatch z)).trans .app).trans (.set (by simp))).trans ((DV.set (by simp[jw a1])).trans (.set (by simp[jw b1])))
 .intro n hn
  rcases kB.mp hn with w|w
  .exact .inl w
  .simp at w;subst w;exact .inr g1.len
theorem aY(hS:SAt S s l m as st)(ht:JY t)(h:F7 t k st)(hk:k<=16){d:AS}(hc:Can t st d):∃S' as',Bf [t.d,.ref s,d.d] S=Gc (.non,S')/\SAt S' s l m as' (step t st d)/\DV (s::l::m::as) S S'/\∀n∈as',n∈as\/S.length<=n:=by
 cases d with
 |EB=>exact V0 hS ht h hk hc
 |JZ=>exact Wl hS ht h hk hc
 |swap=>exact YC hS ht h hk hc
 |Dq=>exact Vm hS ht h hk hc
 |FJ=>exact Uy hS ht h hk hc
 |thr=>exact Zg hS ht h hk hc
 |Iq=>exact YF hS ht h hk hc
end
section
variable{st:Stt}{t:Tr}{k:Nat}
theorem Lw{a b:Nat}(h:a<=b):2^a<=2^b:=ky (by decide) h
theorem Lk{a b:Nat}(h:a<=b):(2:Int)^a<=2^b:=by
 have:=Lw h
 exact_mod_cast this
theorem Ji{c:Int}(h:0<=c):((c.toNat:Nat):Rat)=(c:Rat):=by
 have:((c.toNat:Nat):Int)=c:=kU h
 have:(((c.toNat:Nat):Int):Rat)=(c:Rat):=by rw[this]
 exact this
theorem TH{B T k j:Nat}(hB:B<2^(30+170*k))(hT:T<2^j)(hj:j<=170):B*T<2^(30+170*(k+1)):=by
 have:=FT hB hT
 exact jV this (Lw (by lia))
theorem aW{G B P p:Nat}(h:G<=B):∀r∈TJ P p,Ok G B r:=by
 intro r hr
 obtain⟨i,_,rfl⟩:=k6.mp hr
 split
 .exact Ok.one h
 .exact Ok.zero
theorem Th{G B:Nat}{n m:Int}{ss os:Wp Rat}(hn:0<n)(hm:0<m)(hs:∀r∈ss,Ok G B r)(ho:∀r∈os,Ok G B r):∀r∈CZ n m ss os,Ok (G*(n+m).toNat) (B*(n+m).toNat) r:=by
 intro r hr
 unfold CZ at hr
 rw[nN]at hr
 obtain⟨i,hi'⟩:=hr
 rw[pN]at hi'
 obtain⟨x,y,hx,hy,rfl⟩:=hi'
 have:=Ok.mix (a:=n.toNat) (b:=m.toNat) (t:=(n+m).toNat) (hs x (jw hx)) (ho y (jw hy)) (by lia) (by lia)
 rwa [Ji (by lia),Ji (by lia),Ji (by lia)]at this
theorem SW{G B p q:Nat}{x:Rat}{ss:Wp Rat}(hp:p<ss.length)(hq:q<ss.length)(x1:0<x.num)(x2:x.num<=x.den)(hs:∀r∈ss,Ok G B r):∀r∈G8 p q x ss,Ok (G*x.den) (2*B*x.den) r:=by
 have dp:=x.den_pos
 have hsp:=hs _ (getD_mem (d:=0) hp)
 have hsq:=hs _ (getD_mem (d:=0) hq)
 have xs:=D3 x
 have ex:(x.num:Rat)=((x.num.toNat:Nat):Rat):=(Ji (by lia)).symm
 have nz:=Im x
 intro r hr
 unfold G8 at hr
 rcases mM hr with hr|hr
 .rcases mM hr with hr|hr
  .exact(hs r hr).up (by rw[qb];lia)
  .rw[hr]
   obtain⟨z,e,hz⟩:=Ok.mix (a:=x.den-x.num.toNat) (b:=x.num.toNat) (t:=x.den) hsp (Ok.zero (G:=G) (B:=B)) (by lia) dp
   refine⟨z,?_,jY hz (by rw[qb];lia)⟩
   rw[<-e]
   have e2:((x.den-x.num.toNat:Nat):Rat)=(x.den:Rat)-(x.num:Rat):=by
    have:(((x.den-x.num.toNat:Nat):Int):Rat)=((x.den-x.num:Int):Rat):=by
     congr 1;lia
    push_cast at this
    exact this
   rw[e2]
   generalize ss.getD p 0=sp at*
   congr 1
   grind
 .rw[hr]
  obtain⟨z,e1,hz⟩:=hsp
  obtain⟨y,e2,hy⟩:=hsq
  refine⟨y*x.den+z*x.num.toNat,?_,?_⟩
  .generalize ss.getD p 0=sp at*
   generalize ss.getD q 0=sq at*
   push_cast
   rw[<-ex,<-e1,<-e2]
   grind
  .have h1:y*x.den<=B*x.den:=lH _ hy
   have h2:z*x.num.toNat<=B*x.den:=rP hz (by lia)
   rw[qb];lia
theorem JQ{f:Rat->Rat->Rat}{a b:Wp Rat}{n:Nat}(h:a.length=n)(g:b.length=n):(pZ f a b).length=n:=by rw[List.length_zipWith,h,g];lia
theorem IU{P:Ld->Prop}{i:Nat}{n:Int}(hi:i<st.AF.length)(h:∀x∈st.AF,P x)(g:P ⟨(AR st.AF i).k,(AR st.AF i).n-n,(AR st.AF i).ow⟩):∀x∈less st.AF i n,P x:=by
 intro x hx
 rcases OC hx hi with h1|h1
 .exact h x h1
 .rw[h1];exact g
theorem Nl{P:Ld->Prop}{ls:Wp Ld}{y:Ld}(h:∀x∈ls,P x)(g:P y):∀x∈ls++[y],P x:=by
 intro x hx
 rcases kB.mp hx with w|w
 .exact h x w
 .simp at w;rw[w];exact g
structure LOk(t:Tr)(k G B:Nat)(x:Ld):Prop where
 kd:x.k<t.k
 n0:0<=x.n
 n1:x.n<2^(131+k)
 own:x.ow.length=t.p
 ok:∀r∈x.ow,Ok G B r
theorem LOk.up{G B T B':Nat}{x:Ld}(h:LOk t k G B x)(hT:B*T<=B'):LOk t (k+1) (G*T) B' x:=⟨h.kd,h.n0,qI h.n1 (Lk (by lia)),h.own,λr hr=>(h.ok r hr).up hT⟩
theorem LOk.up1{G B:Nat}{x:Ld}(h:LOk t k G B x):LOk t (k+1) G B x:=⟨h.kd,h.n0,qI h.n1 (Lk (by lia)),h.own,h.ok⟩
theorem LOk.less{G B:Nat}{x:Ld}{n:Int}(h:LOk t k G B x)(h0:0<=n)(h1:n<=x.n):LOk t k G B ⟨x.k,x.n-n,x.ow⟩:=⟨h.kd,show 0<=x.n-n by lia,show x.n-n<_ by have:=h.n1;lia,h.own,h.ok⟩
theorem F7.of{G B:Nat}(h1:st.AF.length<=4+k)(h2:∀x∈st.AF,LOk t k G B x)(h3:st.hold.length=t.p)(h4:st.nums.length<=k)(g0:0<G)(g1:G<=B)(g2:B<2^(30+170*k))(h5:∀r∈st.hold,Ok G B r):F7 t k st:=⟨h1,λx hx=>(h2 x hx).kd,λx hx=>⟨(h2 x hx).n0,(h2 x hx).n1⟩,λx hx=>(h2 x hx).own,h3,h4,G,B,g0,g1,g2,λx hx=>(h2 x hx).ok,h5⟩
theorem bS{n:Int}(h:n<2^131):n<2^(131+k):=qI h (Lk (by lia))
theorem Vi(ht:JY t)(h:F7 t k st)(hk:k<=16){d:AS}(hc:Can t st d):F7 t (k+1) (step t st d):=by
 obtain⟨G,B,g0,g1,g2,hl,hh⟩:=h.gb
 have L:∀x∈st.AF,LOk t k G B x:=λx hx=>⟨h.kind x hx,(h.pcs x hx).1,(h.pcs x hx).2,h.own x hx,hl x hx⟩
 have g2':B<2^(30+170*(k+1)):=jV g2 (Lw (by lia))
 have hlen:=h.len
 have hnm:=h.nm
 cases d with
 |EB p kd n=>
  obtain⟨h1,h2,h3,h4⟩:=hc
  refine F7.of (G:=G) (B:=B) (by simp[step];lia) (Nl (λx hx=>(L x hx).up1) ⟨h2,by show 0<=n;lia,bS h4,by simp[TJ],aW g1⟩) h.hold (mX hnm) g0 g1 g2' hh
 |JZ i j=>
  obtain⟨hij,hi,hj,h1,h2,h3⟩:=hc
  have li:=L _ (Az hi)
  have lj:=L _ (Az hj)
  have tl:((AR st.AF i).n+(AR st.AF j).n).toNat<2^(132+k):=by
   have a:=li.n1;have b:=lj.n1
   have e:(2:Int)^(132+k)=2^(131+k)*2:=by rw[show 132+k=(131+k)+1 by lia,wX]
   have:(((AR st.AF i).n+(AR st.AF j).n).toNat:Int)<((2^(132+k):Nat):Int):=by
    rw[kU (by lia)]
    push_cast
    rw[e];lia
   exact_mod_cast this
  have t0:0<((AR st.AF i).n+(AR st.AF j).n).toNat:=by lia
  refine F7.of (G:=G*((AR st.AF i).n+(AR st.AF j).n).toNat) (B:=B*((AR st.AF i).n+(AR st.AF j).n).toNat) (by simp[step,Dw];lia) (Nl ?_ ⟨li.kd,by show 0<=(AR st.AF i).n+(AR st.AF j).n;lia,?_,?_,Th h1 h2 li.ok lj.ok⟩) h.hold (mX hnm) (qR g0 t0) (lH _ g1) (TH g2 tl (by lia)) (λr hr=>(hh r hr).up (ja _))
  .have e0:AR (less st.AF i (AR st.AF i).n) j=AR st.AF j:=by
    unfold AR less
    rw[jy,jU hij,<-jy]
   have A:=IU (P:=LOk t (k+1) (G*((AR st.AF i).n+(AR st.AF j).n).toNat) (B*((AR st.AF i).n+(AR st.AF j).n).toNat)) (n:=(AR st.AF i).n) hi (λx hx=>(L x hx).up (ja _)) ((li.up (ja _)).less (by lia) (xr _))
   have A2:=IU (st:={st with AF:=less st.AF i (AR st.AF i).n}) (i:=j) (n:=(AR st.AF j).n) (by simpa[Dw]using hj) A (by
    show LOk _ _ _ _ ⟨(AR (less st.AF i (AR st.AF i).n) j).k,(AR (less st.AF i (AR st.AF i).n) j).n-_,(AR (less st.AF i (AR st.AF i).n) j).ow⟩
    rw[e0]
    exact(lj.up (ja _)).less (by lia) (xr _))
   exact A2
  .show(AR st.AF i).n+(AR st.AF j).n<2^(131+(k+1))
   have a:=li.n1;have b:=lj.n1
   rw[show 131+(k+1)=(131+k)+1 by lia,wX];lia
  .exact JQ li.own lj.own
 |swap i g kd n=>
  obtain⟨hi,h1,h2,h3,h4,h5,h6⟩:=hc
  have li:=L _ (Az hi)
  refine F7.of (G:=G) (B:=B) (by simp[step,Dw];lia) (Nl (IU hi (λx hx=>(L x hx).up1) (li.up1.less (by lia) h2)) ⟨h3,by show 0<=n;lia,bS h6,li.own,li.ok⟩) h.hold (mX hnm) g0 g1 g2' hh
 |Dq u i g kd n=>
  obtain⟨hi,h1,h2,h3,h4,h5,h6,h7⟩:=hc
  have li:=L _ (Az hi)
  refine F7.of (G:=G) (B:=B) (by simp[step,Dw];lia) (Nl (IU hi (λx hx=>(L x hx).up1) (li.up1.less (by lia) h2)) ⟨h3,by show 0<=n;lia,bS h6,li.own,li.ok⟩) h.hold (by simp[step];lia) g0 g1 g2' hh
 |FJ i n=>
  obtain⟨hi,h1,h2⟩:=hc
  have li:=L _ (Az hi)
  refine F7.of (G:=G) (B:=B) (by simp[step,Dw];lia) (IU hi (λx hx=>(L x hx).up1) (li.up1.less (by lia) h2)) h.hold (mX hnm) g0 g1 g2' hh
 |thr i n ws=>
  obtain⟨hi,h1,h2,h3,h4⟩:=hc
  have li:=L _ (Az hi)
  have W:=J1 ht h (by lia) h3 h4
  have wl:(ED t st.AF ws).toNat<2^(145+k):=by
   have:((ED t st.AF ws).toNat:Int)<((2^(145+k):Nat):Int):=by
    rw[kU (by lia)];push_cast;exact W.2
   exact_mod_cast this
  have bo:=λ{ss:Wp Rat} (hs:∀r∈ss,Ok G B r)=>TL ht h (by lia) h3 h4 hi h1 h2 li.ok hs
  refine F7.of (G:=G*(ED t st.AF ws).toNat) (B:=B*(ED t st.AF ws).toNat) (by simp[step,Dw];lia) ?_ (JQ h.hold li.own) (mX hnm) (qR g0 (by lia)) (lH _ g1) (TH g2 wl (by lia)) (bo hh)
  intro x hx
  obtain⟨y,hy,rfl⟩:=k6.mp hx
  have ly:=IU (P:=LOk t k G B) hi L (li.less (n:=n) (by lia) h2) y hy
  exact⟨ly.kd,ly.n0,ly.up1.n1,JQ ly.own li.own,bo ly.ok⟩
 |Iq p q x=>
  obtain⟨h1,h2,h3,h4,h5,h6⟩:=hc
  have dp:=x.den_pos
  refine F7.of (G:=G*x.den) (B:=2*B*x.den) (by simp[step];lia) ?_ (by simp[step,G8,h.hold]) (mX hnm) (qR g0 dp) (lH _ (by lia)) ?_ (SW (by rw[h.hold];exact h2) (by rw[h.hold];exact h3) h4 h5 hh)
  .intro y hy
   obtain⟨z,hz,rfl⟩:=k6.mp hy
   have lz:=L z hz
   exact⟨lz.kd,lz.n0,lz.up1.n1,by simp[G8,lz.own],SW (by rw[lz.own];exact h2) (by rw[lz.own];exact h3) h4 h5 lz.ok⟩
  .have:=TH (B:=B) (T:=2*x.den) (j:=5) g2 (by lia) (by lia)
   rw[show 2*B*x.den=B*(2*x.den) by rw[<-qb,m9 2 B]]
   exact this
end
theorem Q3{α:Type}{f:α->D}:∀{xs:Wp α},(∀x∈xs,(f x).lay=true)->D.QQ (xs.map f)=true
 | [],_=>rfl
 |x::xs,h=>by
  show((f x).lay && D.QQ (xs.map f))=true
  rw[h x jr,Q3 λy hy=>h y (jf _ hy)]
  rfl
theorem V2{ds:Wp D}(h:D.QQ ds=true):Qa (.lst ds) (.lst [])=true:=by
 unfold Qa
 show(D.QQ ds && true && _)=true
 rw[h]
 simp only[Bool.true_and,kQ]
 exact jY (t9 _ _) (by decide)
noncomputable def Gw(is:Wp Nat):Wp D:=is.map λ(i:Nat)=>D.int i
theorem MC{is:Wp Nat}:Qa (.lst (Gw is)) (.lst [])=true:=V2 (Q3 λ_ _=>rfl)
theorem U4{d:D}{ds:Wp D}:deq (.lst (d::ds)) (.lst [])=false:=rfl
theorem XC:deq (.lst []) (.lst [])=true:=rfl
theorem N9{is:Wp Nat}:deq (.lst (Gw is)) (.lst [])=is.isEmpty:=by
 cases is with
 |nil=>exact XC
 |cons i is=>exact U4
theorem J0{ds:Wp D}:MV 0 ds=(lJ ds.length).map λ(i:Nat)=>D.tup [.int i,ds.getD i .non]:=by
 apply qS
 intro i
 rw[IM,jq]
 by_cases h:i<ds.length
 .rw[jS h,List.getElem?_range h]
  simp[jS h]
 .rw[rA (by lia),rA (by simp;lia)]
  rfl
theorem J3{is:Wp Nat}:(Gw is).length=is.length:=by simp[Gw]
theorem MH{is:Wp Nat}{r:Int}(h0:0<=r)(h1:r<is.length):∃i∈is,atI (Gw is) r=Gc (.int (i:Nat)):=by
 have h2:r.toNat<is.length:=by lia
 refine⟨is[r.toNat],nZ h2,?_⟩
 have:=WE (xs:=Gw is) h0 (by rw[J3];exact h1)
 rw[this]
 simp[Gw]
theorem SY{x K:Int}(h0:0<=x)(h1:x<2*K):x % K=if x<K then x else x-K:=by
 split
 .exact tZ h0 (by assumption)
 .have:x % K=(x-K) % K:=by rw[Int.sub_emod_right]
  rw[this]
  exact tZ (by lia) (by lia)
section
variable{S:Sto}{p s l m:Nat}{as:Wp Nat}{st:Stt}{t:Tr}{k:Nat}
noncomputable def CQ(st:Stt):Wp Nat:=(lJ st.AF.length).filter λi=>decide (0<(AR st.AF i).n)
theorem YO(hS:SAt S s l m as st)(hl:st.AF.length<=50):Ce [(l,as.map D.ref)] (tTp [tNm 0,tNm 1]) (eOp (o2 wGt) [eOp (o2 wIx) [eV 1,eC (.int 1)],eC (.int 0)]) (eV 0) (MV 0 (as.map D.ref)) [] [none,none] S=Gc (Gw (CQ st),S):=by
 have:=F3 (gs:=[(l,as.map D.ref)]) (t:=tTp [tNm 0,tNm 1]) (c:=eOp (o2 wGt) [eOp (o2 wIx) [eV 1,eC (.int 1)],eC (.int 0)]) (f:=eV 0) (C:=[]) (m:=2) (e:=λi:Nat=>D.tup [.int i,(as.map D.ref).getD i .non]) (g:=λi:Nat=>D.int i) (b:=λi=>decide (0<(AR st.AF i).n)) (S:=S) hS.guard (xs:=lJ st.AF.length) (acc:=[]) (os:=[none,none]) rfl (jY (show _<=50 by simp;lia) (AU (by decide))) (by
  intro i hi os ho
  obtain⟨o1,o2,rfl⟩:=bE ho
  obtain⟨a,a1,a2,a3⟩:=hS.at (pf.mp hi)
  have e:(as.map D.ref).getD i .non=.ref a:=by simp[a1]
  rw[e]
  refine⟨[Gc (.int i),Gc (.ref a)],rfl,by simp,?_,by simp⟩
  simp[A7 a2,CK])
 rw[J0,kF,hS.len]
 exact this
theorem LC{i:Nat}(h:i∈CQ st):i<st.AF.length/\0<(AR st.AF i).n:=by
 unfold CQ at h
 rw[oE]at h
 exact⟨pf.mp h.1,by simpa using h.2⟩
noncomputable def FH(st:Stt)(j:Nat):Wp Nat:=(CQ st).filter λi=> !(i==j) && ((AR st.AF i).k==(AR st.AF j).k)
theorem ON:(CQ st).length<=st.AF.length:=by
 unfold CQ
 exact jY (ou _ _) (by simp)
theorem Vf{a b:Nat}:((a:Int)==(b:Int))=(a==b):=by
 by_cases h:a=b
 .subst h;simp
 .have:((a:Int)==(b:Int))=false:=by simp;lia
  rw[this];simp[h]
theorem X1(hS:SAt S s l m as st)(hl:st.AF.length<=50){j:Nat}(hj:j∈CQ st):Ce [] (tNm 2) (Jr (eOp (o2 wNe) [eV 2,eV 1]) (eOp (o2 wEq) [eOp (o2 wIx) [eOp (o2 wIx) [eV 0,eV 2],eC (.int 0)],eOp (o2 wIx) [eOp (o2 wIx) [eV 0,eV 1],eC (.int 0)]])) (eV 2) (Gw (CQ st)) [] [Gc (.ref l),Gc (.int j),none] S=Gc (Gw (FH st j),S):=by
 have fl:=ON (st:=st)
 exact F3 (gs:=[]) (t:=tNm 2) (f:=eV 2) (C:=[Gc (.ref l),Gc (.int j)]) (m:=1) (e:=λi:Nat=>D.int i) (g:=λi:Nat=>D.int i) (b:=λi=> !(i==j) && ((AR st.AF i).k==(AR st.AF j).k)) (S:=S) A5 (xs:=CQ st) (acc:=[]) (os:=[none]) rfl (jY (show _<=50 by simp;lia) (AU (by decide))) (by
  intro i hi os ho
  obtain⟨o1,rfl⟩:=UT ho
  obtain⟨a,a1,a2,a3⟩:=hS.at (LC hi).1
  obtain⟨b,b1,b2,b3⟩:=hS.at (LC hj).1
  refine⟨[Gc (.int i)],rfl,by simp,?_,by simp⟩
  by_cases e:i=j
  .subst e
   simp
  .have e':((i:Int)==(j:Int))=false:=by simp;lia
   have e2:(i==j)=false:=by simp[e]
   simp[e',e2,A7 hS.lo,a3,b3,A7 a2,A7 b2,CK,Vf])
theorem VI{i j:Nat}(h:i∈FH st j):i∈CQ st/\i≠j/\(AR st.AF i).k=(AR st.AF j).k:=by
 unfold FH at h
 rw[oE]at h
 simp at h
 exact⟨h.1,h.2.1,h.2.2⟩
noncomputable def FY(st:Stt):Wp Nat:=(lJ 10).filter λi=> !(st.nums.any λu=>u==(i:Int))
theorem LD{us:Wp Int}{i:Int}:inD (.int i) (us.map D.int)=us.any λu=>u==i:=by
 unfold inD
 rw[List.any_map]
 rfl
@[simp] theorem c8{b:Bool}{w:Wv}{r:List D}:wIn b w (.own r)=if(JD (fz w) && r.all JD)=true then some (.val (.bl (if b then !inD (fz w) r else inD (fz w) r)))else none:=nr rfl
@[simp] theorem dP{b:Bool}{w:Wv}{r:List D}:wIn b w (.val (.lst r))=if(JD (fz w) && r.all JD)=true then some (.val (.bl (if b then !inD (fz w) r else inD (fz w) r)))else none:=nr rfl
theorem Js{us:Wp Int}:(us.map D.int).all JD=true:=by
 rw[List.all_map,List.all_eq_true]
 intro x _;rfl
@[simp] theorem fN{i:Int}:JD (.int i)=true:=nr rfl
theorem XH(hS:SAt S s l m as st):Ce [] (tNm 1) (eOp (o2 (wIn true)) [eV 1,eV 0]) (eV 1) (Mq 0 10) [] [Gc (.ref m),none] S=Gc (Gw (FY st),S):=by
 exact F3 (gs:=[]) (t:=tNm 1) (f:=eV 1) (C:=[Gc (.ref m)]) (m:=1) (e:=λi:Nat=>D.int (0+(i:Int))) (g:=λi:Nat=>D.int i) (b:=λi=> !(st.nums.any λu=>u==(i:Int))) (S:=S) A5 (xs:=lJ 10) (acc:=[]) (os:=[none]) rfl (jY (show _<=50 by simp) (AU (by decide))) (by
  intro i hi os ho
  obtain⟨o1,rfl⟩:=UT ho
  refine⟨[Gc (.int i)],rfl,by simp,?_,by simp⟩
  have nu:=A7 hS.nu
  have fi:=Js (us:=st.nums)
  have ii:=LD (us:=st.nums) (i:=(i:Int))
  generalize st.nums.map D.int=ud at*
  generalize (st.nums.any λu=>u==(i:Int))=bb at*
  simp[nu,fi,ii])
theorem U9{i:Nat}(h:i∈FY st):(i:Int)∉st.nums/\i<=9:=by
 unfold FY at h
 rw[oE]at h
 have h1:=pf.mp h.1
 refine⟨?_,by lia⟩
 intro z
 have h2:=h.2
 have:(st.nums.any λu=>u==(i:Int))=true:=List.any_eq_true.mpr ⟨_,z,by simp⟩
 rw[this]at h2
 cases h2
theorem V5:(FY st).length<=10:=by
 unfold FY
 exact jY (ou _ _) (by simp)
theorem Vs{j:Nat}:(FH st j).length<=st.AF.length:=by
 unfold FH
 exact jY (ou _ _) ON
end
section
variable{S:Sto}{p s l m:Nat}{as:Wp Nat}{st:Stt}{t:Tr}{k:Nat}
def SS:Ex:=(Ad (xIf (Jr (eOp (o2 wEq) [eV 7,eC (.int 7)]) (eOp (o2 wNe) [eV 12,JW []])) (Ba (CS [eC (.str "trade"),eOp (o2 wIx) [eV 12,AM AJ [eV 0,eOp (o1 Ha) [eV 12]]],eV 8,eV 9,eV 11,AM BC [eV 0]])) EC)
    (Ba (CS [eC (.str "swap"),eV 8,eV 9,eV 11,AM BC [eV 0]])))
def Ru:Ex:=(Ad (xIf (eOp (o2 wEq) [eV 7,eC (.int 8)]) (Ba (CS [eC (.str "spoil"),eV 8,eV 9])) EC)
    (Ad (xIf (Jr (eOp (o2 wEq) [eV 7,eC (.int 9)]) (eOp (o2 wGt) [eOp (o2 wIx) [eV 1,eC (.int 0)],eC (.int 1)])) (Ad (By 13 (AM AJ [eV 0,eOp (o2 wIx) [eV 1,eC (.int 0)]]))
    (Ba (CS [eC (.str "sell"),eV 13,eOp (o2 Pf) [eOp (o2 C4) [eOp (o2 C4) [eV 13,eC (.int 1)],AM AJ [eV 0,eOp (o2 Qn) [eOp (o2 wIx) [eV 1,eC (.int 0)],eC (.int 1)]]],eOp (o2 wIx) [eV 1,eC (.int 0)]],AM FZ [eV 0]]))) EC)
    (Ba (CS [eC (.str "throw"),eV 8,eV 9,AM Di [eV 0,eOp (o2 C4) [eOp (o2 wIx) [eV 1,eC (.int 1)],eC (.int 1)]]]))))
def PD:Ex:=(Ad (xIf (Jr (eOp (o2 wLt) [eV 7,eC (.int 8)]) (eOp (o2 wGt) [eOp (o2 wIx) [eV 1,eC (.int 1)],eC (.int 1)])) (Ad (By 11 (eOp (o2 Pf) [eOp (o2 C4) [eOp (o2 C4) [eOp (o2 wIx) [eOp (o2 wIx) [eV 3,eV 8],eC (.int 0)],eC (.int 1)],AM AJ [eV 0,eOp (o2 Qn) [eOp (o2 wIx) [eV 1,eC (.int 1)],eC (.int 1)]]],eOp (o2 wIx) [eV 1,eC (.int 1)]]))
    (Ad (By 12 (F8 [5] 1 (QF [eC (.int 10)]) (tNm 1) (eOp (o2 (wIn true)) [eV 1,eV 0]) (eV 1)))
    SS)) EC) Ru)
def Ud:Ex:=(xIf (eOp (o2 wLt) [eV 7,eC (.int 5)]) (Ad (By 10 (F8 [3,8] 1 (Mu (eV 6)) (tNm 2) (Jr (eOp (o2 wNe) [eV 2,eV 1]) (eOp (o2 wEq) [eOp (o2 wIx) [eOp (o2 wIx) [eV 0,eV 2],eC (.int 0)],eOp (o2 wIx) [eOp (o2 wIx) [eV 0,eV 1],eC (.int 0)]])) (eV 2)))
    (xIf (eOp (o2 wNe) [eV 10,JW []]) (Ba (CS [eC (.str "pool"),eV 8,eOp (o2 wIx) [eV 10,AM AJ [eV 0,eOp (o1 Ha) [eV 10]]]])) EC)) EC)
def Sm:AS->Prop
 | .Dq _ _ g _ n=>g<=2000/\n<2^130
 |_=>sJ
def VV:Ex:=(Ad (xIf (eOr (eOp (o2 wLt) [eV 7,eC (.int 2)]) (eOp (o2 wEq) [eV 6,JW []])) (Ba (CS [eC (.str "bring"),AM AJ [eV 0,eOp (o2 wIx) [eV 1,eC (.int 0)]],AM AJ [eV 0,eOp (o2 wIx) [eV 1,eC (.int 1)]],AM BC [eV 0]])) EC)
    (Ad (By 8 (eOp (o2 wIx) [eV 6,AM AJ [eV 0,eOp (o1 Ha) [eV 6]]]))
    (Ad (By 9 (eOp (o2 C4) [eC (.int 1),AM AJ [eV 0,eOp (o2 Ya) [eOp (o2 wIx) [eOp (o2 wIx) [eV 3,eV 8],eC (.int 1)],eC (.int 2000)]]]))
    (Ad Ud PD))))
theorem Uz:Mn=(Ad (Ml (tTp [tNm 3,tNm 4,tNm 5]) (eV 2)) (Ad (By 6 (F8 [] 2 (Yg (eV 3)) (tTp [tNm 0,tNm 1]) (eOp (o2 wGt) [eOp (o2 wIx) [eV 1,eC (.int 1)],eC (.int 0)]) (eV 0))) (Ad (By 7 (AM AJ [eV 0,eC (.int 12)])) VV))):=rfl
theorem VZ(hp:CV p S)(hS:SAt S s l m as st)(hps:p∉s::l::m::as)(ht:JY t)(h:F7 t k st)(hk:k<=16):∃d S',ET [.ref p,t.d,.ref s] S=Gc (AS.d d,S')/\Pn p S S'/\Can t st d/\Sm d:=by
 obtain⟨t1,t2,t3,t4,t5,t6⟩:=ht
 have hlen:=h.len
 have st':∀{S':Sto},Pn p S S'->SAt S' s l m as st:=λg=>hS.same g.same (by simpa using hps)
 have r0:=AX hS.root
 have cf:=YO hS (by lia)
 have fl:=ON (st:=st)
 have sq:=Hg hS.lo
 obtain⟨way,S1,e1,a1,b1,p1⟩:=Ai hp (n:=12) (by decide) (by decide)
 have okF:=MC (is:=CQ st)
 have dqF:=N9 (is:=CQ st)
 have pr0:ET [.ref p,t.d,.ref s] S=(VV [Gc (.ref p),Gc t.d,Gc (.ref s),Gc (.ref l),Gc (shD st.hold),Gc (.ref m),Gc (.lst (Gw (CQ st))),Gc (.int way),none,none,none,none,none,none] S1).map λr=>(flD r.1,r.2.2):=by
  simp[ET,Uz,r0,sq,cf,e1]
 by_cases hb:way<2\/(CQ st).isEmpty=true
 .obtain⟨x2,S2,e2,a2,b2,p2⟩:=Ai p1.pen (n:=t.p) (by lia) (by lia)
  obtain⟨x3,S3,e3,a3,b3,p3⟩:=Ai p2.pen (n:=t.k) (by lia) (by lia)
  obtain⟨x4,S4,e4,p4,a4,b4⟩:=MT p3.pen
  obtain⟨x2,rfl⟩:=Hj a2
  obtain⟨x3,rfl⟩:=Hj a3
  refine⟨.EB x2 x3 x4,S4,?_,((p1.trans p2).trans p3).trans p4,⟨by lia,by lia,a4,b4⟩,trivial⟩
  rw[pr0]
  have ho:∀(x y:Ex),xIf (eOr (eOp (o2 wLt) [eV 7,eC (.int 2)]) (eOp (o2 wEq) [eV 6,JW []])) x y [Gc (.ref p),Gc t.d,Gc (.ref s),Gc (.ref l),Gc (shD st.hold),Gc (.ref m),Gc (.lst (Gw (CQ st))),Gc (.int way),none,none,none,none,none,none] S1=x [Gc (.ref p),Gc t.d,Gc (.ref s),Gc (.ref l),Gc (shD st.hold),Gc (.ref m),Gc (.lst (Gw (CQ st))),Gc (.int way),none,none,none,none,none,none] S1:=by
   intro x y
   by_cases hw:way<2
   .simp[hw]
   .simp[hw,okF,dqF,hb.resolve_left hw]
  simp[VV,-TY,ho]
  simp[Tr.d,e2,e3,e4,AS.d]
 .have hw2:¬way<2:=λz=>hb (.inl z)
  have hf:(CQ st).isEmpty=false:=by
   cases z:(CQ st).isEmpty with
   |true=>exact absurd (.inr z) hb
   |false=>rfl
  have hfl:0<(CQ st).length:=by
   cases z:CQ st with
   |nil=>rw[z]at hf;cases hf
   |cons a b=>simp
  obtain⟨rl,S2,e2,a2,b2,p2⟩:=Ai p1.pen (n:=(CQ st).length) (by lia) (by lia)
  obtain⟨i,mi,ei⟩:=MH a2 b2
  have fi:=LC mi
  have hS1:=st' p1
  have hS2:=st' (p1.trans p2)
  obtain⟨a,x1,x2,x3⟩:=hS2.at fi.1
  have n1:=fi.2
  obtain⟨rs,S3,e3,a3,b3,p3⟩:=Ai p2.pen (n:=if 2000<(AR st.AF i).n then 2000 else(AR st.AF i).n) (by split<;>lia) (by split<;>lia)
  have hsome:1<=1+rs/\1+rs<=(AR st.AF i).n:=by split at b3<;>lia
  have p23:=(p1.trans p2).trans p3
  have hS3:=st' p23
  have lo2:=A7 hS2.lo
  have lo3:=A7 hS3.lo
  have x2':=A7 x2
  have x4:S3[a]?=Gc (CK (AR st.AF i)):=hS3.ld i a _ x1 (EW fi.1)
  have x4':=A7 x4
  have kd:=h.kind _ (Az fi.1)
  have nl:=J3 (is:=CQ st)
  have cs:=X1 hS3 (by lia) mi
  have okS:=MC (is:=FH st i)
  have dqS:=N9 (is:=FH st i)
  have sl:=Vs (st:=st) (j:=i)
  have nls:=J3 (is:=FH st i)
  have pre:ET [.ref p,t.d,.ref s] S=((Ud [Gc (.ref p),Gc t.d,Gc (.ref s),Gc (.ref l),Gc (shD st.hold),Gc (.ref m),Gc (.lst (Gw (CQ st))),Gc (.int way),Gc (.int i),Gc (.int (1+rs)),none,none,none,none] S3).bind (Yb PD)).map λr=>(flD r.1,r.2.2):=by
   rw[pr0]
   simp[VV,hw2,okF,dqF,hf,nl,e2,ei,lo2,x3,x2',e3]
  have tail:∀o10,(way<5->(FH st i).isEmpty=true)->∃d S',(PD [Gc (.ref p),Gc t.d,Gc (.ref s),Gc (.ref l),Gc (shD st.hold),Gc (.ref m),Gc (.lst (Gw (CQ st))),Gc (.int way),Gc (.int i),Gc (.int (1+rs)),o10,none,none,none] S3).map (λr=>(flD r.1,r.2.2))=Gc (AS.d d,S')/\Pn p S S'/\Can t st d/\Sm d:=by
   intro o10 _
   generalize hE:([Gc (.ref p),Gc t.d,Gc (.ref s),Gc (.ref l),Gc (shD st.hold),Gc (.ref m),Gc (.lst (Gw (CQ st))),Gc (.int way),Gc (.int i),Gc (.int (1+rs)),o10,none,none,none]:En)=E
   clear pre cs okS dqS
   by_cases hsw:way<8/\1<t.k
   .obtain⟨hw8,hk1⟩:=hsw
    have hk1':(1:Int)<t.k:=by lia
    obtain⟨rk,S4,e4,a4,b4,p4⟩:=Ai p3.pen (n:=(t.k:Int)-1) (by lia) (by lia)
    have hS4:=st' (p23.trans p4)
    have hmod:=SY (x:=((AR st.AF i).k:Int)+1+rk) (K:=t.k) (by lia) (by lia)
    obtain⟨kd2,ekd⟩:∃q:Nat,((AR st.AF i).k+1+rk) % (t.k:Int)=(q:Int):=⟨_,(kU (mQ _ (by lia))).symm⟩
    have hkd:kd2<t.k/\kd2≠(AR st.AF i).k:=by
     rw[ekd]at hmod
     split at hmod<;>lia
    have kp:0<t.k:=by lia
    have cl:=XH hS4
    have okL:=MC (is:=FY st)
    have dqL:=N9 (is:=FY st)
    have ll:=V5 (st:=st)
    have nll:=J3 (is:=FY st)
    have rt:KO 10=true:=FK (by decide) (by decide)
    have mid:PD E S3=(SS [Gc (.ref p),Gc t.d,Gc (.ref s),Gc (.ref l),Gc (shD st.hold),Gc (.ref m),Gc (.lst (Gw (CQ st))),Gc (.int way),Gc (.int i),Gc (.int (1+rs)),o10,Gc (.int kd2),Gc (.lst (Gw (FY st))),none] S4).bind (Yb Ru):=by
     subst hE
     simp[PD,Tr.d,x3,hw8,hk1',lo3,x4',e4,kp,ekd,rt,cl]
    rw[mid]
    clear mid hE
    by_cases htr:way=7/\(FY st).isEmpty=false
    .obtain⟨hw7,hle⟩:=htr
     have hll:0<(FY st).length:=by
      cases z:FY st with
      |nil=>rw[z]at hle;cases hle
      |cons a b=>simp
     obtain⟨ru,S5,e5,a5,b5,p5⟩:=Ai p4.pen (n:=(FY st).length) (by lia) (by lia)
     obtain⟨u,mu,eu⟩:=MH a5 b5
     obtain⟨x6,S6,e6,p6,a6,b6⟩:=NC p5.pen
     have fu:=U9 mu
     refine⟨.Dq u i (1+rs) kd2 x6,S6,?_,((p23.trans p4).trans p5).trans p6,⟨fi.1,hsome.1,hsome.2,hkd.1,hkd.2,a6,wU b6 (by decide),fu.1,by lia,by lia⟩,by split at b3<;>lia,b6⟩
     subst hw7
     simp[SS,okL,dqL,hle,nll,e5,eu,e6,AS.d]
    .obtain⟨x6,S6,e6,p6,a6,b6⟩:=MT p4.pen
     refine⟨.swap i (1+rs) kd2 x6,S6,?_,(p23.trans p4).trans p6,⟨fi.1,hsome.1,hsome.2,hkd.1,hkd.2,a6,b6⟩,trivial⟩
     by_cases h7:way=7
     .subst h7
      have hle:(FY st).isEmpty=true:=by
       cases z:(FY st).isEmpty with
       |true=>rfl
       |false=>exact absurd ⟨rfl,z⟩ htr
      simp[SS,okL,dqL,hle,e6,AS.d]
     .have h7':(way==7)=false:=by simpa using h7
      simp[SS,h7',e6,AS.d]
   .have sw:PD E S3=Ru E S3:=by
     subst hE
     by_cases w8:way<8
     .have hk1:¬(1:Int)<t.k:=by lia
      simp[PD,Tr.d,w8,hk1]
     .simp[PD,w8]
    rw[sw]
    clear sw
    by_cases h8:way=8
    .subst h8
     refine⟨.FJ i (1+rs),S3,?_,p23,⟨fi.1,hsome.1,hsome.2⟩,trivial⟩
     subst hE
     simp[Ru,AS.d]
    .have h8':(way==8)=false:=by simpa using h8
     by_cases h9:way=9/\1<t.p
     .obtain⟨h9,hP⟩:=h9
      subst h9
      have hP':(1:Int)<t.p:=by lia
      obtain⟨rp,S4,e4,a4,b4,p4⟩:=Ai p3.pen (n:=t.p) (by lia) (by lia)
      obtain⟨rq,S5,e5,a5,b5,p5⟩:=Ai p4.pen (n:=(t.p:Int)-1) (by lia) (by lia)
      obtain⟨sh,S6,e6,p6,a6,b6,c6⟩:=U6 p5.pen
      have hmod:=SY (x:=rp+1+rq) (K:=t.p) (by lia) (by lia)
      obtain⟨q,eq⟩:∃q:Nat,(rp+1+rq) % (t.p:Int)=(q:Int):=⟨_,(kU (mQ _ (by lia))).symm⟩
      obtain⟨rp,rfl⟩:=Hj a4
      have hq:q<t.p/\q≠rp:=by
       rw[eq]at hmod
       split at hmod<;>lia
      have pp:0<t.p:=by lia
      refine⟨.Iq rp q sh,S6,?_,((p23.trans p4).trans p5).trans p6,⟨λz=>hq.2 z.symm,by lia,hq.1,a6,b6,c6⟩,trivial⟩
      subst hE
      simp[Ru,Tr.d,hP',e4,e5,pp,eq,e6,AS.d]
     .have s9:∀(x y:Ex) (T:Sto),xIf (Jr (eOp (o2 wEq) [eV 7,eC (.int 9)]) (eOp (o2 wGt) [eOp (o2 wIx) [eV 1,eC (.int 0)],eC (.int 1)])) x y E T=y E T:=by
       intro x y T
       subst hE
       by_cases z:way=9
       .have hP:¬(1:Int)<t.p:=by have:¬1<t.p:=λw=>h9 ⟨z,w⟩;lia
        subst z
        simp[Tr.d,hP]
       .have z':(way==9)=false:=by simpa using z
        simp[z']
      obtain⟨ws,S4,e4,p4,a4,b4⟩:=Ug p3.pen (n:=t.k+1) (by lia)
      have e4':Di [.ref p,.int ((t.k:Int)+1)] S3=Gc (.tup (ws.map .int),S4):=e4
      refine⟨.thr i (1+rs) ws,S4,?_,p23.trans p4,⟨fi.1,hsome.1,hsome.2,a4,b4⟩,trivial⟩
      have s8:∀(x y:Ex) (T:Sto),xIf (eOp (o2 wEq) [eV 7,eC (.int 8)]) x y E T=y E T:=by
       intro x y T
       subst hE
       simp[h8']
      simp[Ru,-TY,s8,s9]
      subst hE
      simp[Tr.d,e4',AS.d]
  by_cases hpool:way<5/\(FH st i).isEmpty=false
  .obtain⟨hw5,hse⟩:=hpool
   have hsl:0<(FH st i).length:=by
    cases z:FH st i with
    |nil=>rw[z]at hse;cases hse
    |cons a b=>simp
   obtain⟨rj,S4,e4,a4,b4,p4⟩:=Ai p3.pen (n:=(FH st i).length) (by lia) (by lia)
   obtain⟨j,mj,ej⟩:=MH a4 b4
   have fj:=VI mj
   have fj':=LC fj.1
   refine⟨.JZ i j,S4,?_,p23.trans p4,⟨λz=>fj.2.1 z.symm,fi.1,fj'.1,n1,fj'.2,fj.2.2.symm⟩,trivial⟩
   rw[pre]
   simp[Ud,hw5,cs,okS,dqS,hse,nls,e4,ej,AS.d]
  .by_cases w5:way<5
   .have hse:(FH st i).isEmpty=true:=by
     cases z:(FH st i).isEmpty with
     |true=>rfl
     |false=>exact absurd ⟨w5,z⟩ hpool
    obtain⟨d,S',e,pn,hc⟩:=tail (Gc (.lst (Gw (FH st i)))) (λ_=>hse)
    refine⟨d,S',?_,pn,hc⟩
    rw[pre,<-e]
    simp[Ud,w5,cs,okS,dqS,hse]
   .obtain⟨d,S',e,pn,hc⟩:=tail none (λz=>absurd z w5)
    refine⟨d,S',?_,pn,hc⟩
    rw[pre,<-e]
    simp[Ud,w5]
end
noncomputable def runs(t:Tr)(st:Stt)(ds:Wp AS):Stt:=ds.foldl (step t) st
def K4(t:Tr):Stt->Wp AS->Prop
 |_,[]=>sJ
 |st,d::ds=>Can t st d/\K4 t (step t st d) ds
theorem M9{t:Tr}{d:AS}:∀{ds:Wp AS} {st:Stt},K4 t st ds->Can t (runs t st ds) d->K4 t st (ds++[d])
 | [],st,_,h=>⟨h,trivial⟩
 |x::ds,st,h,g=>⟨h.1,M9 h.2 g⟩
theorem K7{t:Tr}:∀{ds:Wp AS} {st:Stt} {i:Nat} {d:AS},K4 t st ds->ds[i]?=Gc d->Can t (runs t st (ds.take i)) d
 |x::ds,st,0,d,h,g=>by
  simp at g;subst g
  exact h.1
 |x::ds,st,i+1,d,h,g=>by
  simp at g
  show Can t (runs t (step t st x) (ds.take i)) d
  exact K7 h.2 g
theorem Ob{t:Tr}{st:Stt}{ds:Wp AS}{d:AS}:runs t st (ds++[d])=step t (runs t st ds) d:=by simp[runs]
theorem Ju{t:Tr}{st:Stt}{ds:Wp AS}{i:Nat}{d:AS}(h:ds[i]?=Gc d):runs t st (ds.take (i+1))=step t (runs t st (ds.take i)) d:=by
 rw[um,h]
 exact Ob
theorem N5{t:Tr}(ht:JY t):∀{ds:Wp AS} {st:Stt} {k:Nat},F7 t k st->K4 t st ds->k+ds.length<=17->F7 t (k+ds.length) (runs t st ds)
 | [],st,k,h,_,_=>h
 |d::ds,st,k,h,g,hl=>by
  have:=N5 ht (ds:=ds) (Vi ht h (by simp at hl;lia) g.1) g.2 (by simp at hl;lia)
  rw[show k+(d::ds).length=k+1+ds.length by simp;lia]
  exact this
theorem NW{t:Tr}:∀{ds:Wp AS} {st:Stt} {i:Nat},K4 t st ds->K4 t st (ds.take i)
 | [],st,i,h=>by simp;exact trivial
 |d::ds,st,0,h=>trivial
 |d::ds,st,i+1,h=>⟨h.1,NW h.2⟩
noncomputable def st0(t:Tr)(ls:Wp Ld):Stt:=⟨ls,t.ho,[]⟩
structure GJ(t:Tr)(ls:Wp Ld)(ds:Wp AS):Prop where
 tr:JY t
 inv:F7 t 0 (st0 t ls)
 good:K4 t (st0 t ls) ds
 len:ds.length<=16
theorem GJ.at{t:Tr}{ls:Wp Ld}{ds:Wp AS}(h:GJ t ls ds)(i:Nat):F7 t (ds.take i).length (runs t (st0 t ls) (ds.take i)):=by
 have:=N5 h.tr (ds:=ds.take i) h.inv (NW h.good) (by have:=h.len;simp;lia)
 rwa [tU]at this
noncomputable def BS(t:Tr)(ls:Wp Ld)(ds:Wp AS):D:=.tup [t.d,.tup (ls.map Ld.d),.tup (ds.map AS.d)]
theorem SV{t:Tr}{ls:Wp Ld}(h:HI t ls)(hl:ls.length<=4)(h1:t.ho.length=t.p){g:Nat}(g0:0<g)(g1:g<=32)(g2:∀r∈t.ho,Ok g g r):F7 t 0 (st0 t ls):=by
 obtain⟨ha,G,G0,G1,G2⟩:=h
 have hG:G<=32^4:=jY G1 (ky (by decide) hl)
 have hB:G*g<2^30:=by
  have:=rP hG g1
  lia
 refine F7.of (G:=G*g) (B:=G*g) (by simpa[st0]using hl) ?_ h1 (ja _) (qR G0 g0) (ja _) hB ?_
 .intro x hx
  have:=ha x hx
  exact⟨this.1,by lia,bS this.2.2.1,this.2.2.2.1,λr hr=>(G2 x hx r hr).up (ja _)⟩
 .intro r hr
  have:=(g2 r hr).up (t:=G) (B':=G*g) (by rw[m9];exact ja _)
  rwa [m9 g G]at this
noncomputable def GO:AS->kG
 | .thr .. =>true
 |_=>false
section
variable{S:Sto}{p:Nat}
theorem QN(d:AS)(E:En)(h:E=[Gc d.d]):eOp (o2 wEq) [eOp (o2 wIx) [eV 0,eC (.int 0)],eC (.str "throw")] E S=Gc (.bl (GO d),S):=by
 subst h
 cases d<;>simp[AS.d,GO]
theorem iL{q:Nat}{ds:Wp AS}(hq:S[q]?=Gc (.lst (ds.map AS.d)))(hl:ds.length<=50):Ce [(q,ds.map AS.d)] (tNm 0) (eOp (o2 wEq) [eOp (o2 wIx) [eV 0,eC (.int 0)],eC (.str "throw")]) (eV 0) (ds.map AS.d) [] [none] S=Gc ((ds.filter GO).map AS.d,S):=
 F3 (gs:=[(q,ds.map AS.d)]) (t:=tNm 0) (f:=eV 0) (C:=[]) (m:=1) (e:=AS.d) (g:=AS.d) (b:=GO) (S:=S) (λg hg=>by rw[kN.mp hg];exact AX hq) (xs:=ds) (acc:=[]) (os:=[none]) rfl (jY (show _<=50 by simp;lia) (AU (by decide))) (by
  intro d _ os ho
  obtain⟨o1,rfl⟩:=UT ho
  exact⟨[Gc d.d],rfl,by simp,QN d _ rfl,by simp⟩)
theorem Vz{M:Nat}(hM:M<=16)(h:CV p S):∃t ls ds S',C9 [.ref p,.int M] S=Gc (BS t ls ds,S')/\(GJ t ls ds/\ds.length<=M/\(∀d∈ds,Sm d)/\gL t)/\((∀l∈ls,l.ow.sum=1)/\t.ho.sum=1)/\CV p S'/\∀n c,S[n]?=Gc c->n≠p->S'[n]?=Gc c:=by
 obtain⟨t,S1,e1,p1,ht,⟨hh,hhr⟩,g,g0,g1,g2⟩:=Ua h
 obtain⟨ls,S2,e2,p2,hf,hl⟩:=Vv p1.pen ht
 have hi:=SV hf hl hh.1 g0 g1 g2
 obtain⟨s,l,m,as,S3,e3,hS,sm,hn⟩:=QS (S:=S2) (t:=t) (ls:=ls) (x:=.tup []) (by lia)
 have lp:=p2.pen.lt
 have l02:S.length<=S2.length:=jY p1.same.len p2.same.len
 have pen3:CV p S3:=by
  obtain⟨ds,e,hp⟩:=p2.pen
  exact⟨ds,sm.get e (by simp),hp⟩
 have hq:(S3++[Cl.lst []])[S3.length]?=Gc (.lst []):=jz
 obtain⟨rn,S4,e4,a4,b4,p4⟩:=Ai (pen3.app [Cl.lst []]) (n:=(M:Int)+1) (by lia) (by lia)
 have lt3:=hS.lts
 have pn:p∉s::l::m::as:=λz=>by have:=hn p z;lia
 have qn:S3.length∉s::l::m::as:=λz=>by have:=lt3 _ z;lia
 have hpq:S3.length≠p:=by have:=pen3.lt;lia
 have hS4:SAt S4 s l m as (st0 t ls):=(hS.Sn (.app)).same p4.same (by simpa using pn)
 have hq4:S4[S3.length]?=Gc (.lst []):=p4.get hq hpq
 obtain⟨rn,rfl⟩:=Hj a4
 have rk:KO (rn:Int)=true:=FK (by lia) (by lia)
 have lqS:S.length<=S3.length:=jY l02 sm.len
 generalize hQ:S3.length=q at*
 obtain⟨E',S',ef,ds,as',o6,o7,rfl,f1,f2,f3,f4,f5,f6,f7,f8,f9,f10⟩:=Hh (gs:=[]) (t:=tNm 6) (b:=Ad (By 7 (AM ET [eV 0,eV 2,eV 4]))
  (xIf (eOr (eOp (o2 wNe) [eOp (o2 wIx) [eV 7,eC (.int 0)],eC (.str "throw")]) (eOp (o2 wLt) [eOp (o1 Ha) [F8 [] 1 (Mu (eV 5)) (tNm 0) (eOp (o2 wEq) [eOp (o2 wIx) [eV 0,eC (.int 0)],eC (.str "throw")]) (eV 0)],eC (.int 3)])) (Ad (Df (AM Bf [eV 2,eV 4,eV 7]))
  (Df (Pe P9 (eV 5) [eV 7]))) EC))
  (I:=λrs E S'=>∃(ds:Wp AS) (as':Wp Nat) (o6 o7:jO D),E=[Gc (.ref p),Gc (.int M),Gc t.d,Gc (.tup (ls.map Ld.d)),Gc (.ref s),Gc (.ref q),o6,o7]/\S'[q]?=Gc (.lst (ds.map AS.d))/\CV p S'/\SAt S' s l m as' (runs t (st0 t ls) ds)/\K4 t (st0 t ls) ds/\ds.length+rs.length<=M/\p∉s::l::m::as'/\q∉s::l::m::as'/\(∀n∈s::l::m::as',S.length<=n)/\(∀n c,S[n]?=Gc c->n≠p->S'[n]?=Gc c)/\∀d∈ds,Sm d)
  (λ_ _ _ _=>A5) (ds:=Mq 0 rn) (E:=[Gc (.ref p),Gc (.int M),Gc t.d,Gc (.tup (ls.map Ld.d)),Gc (.ref s),Gc (.ref q),none,none]) (S:=S4)
  ⟨[],as,none,none,rfl,hq4,p4.pen,hS4,trivial,by rw[IP];simp;lia,pn,qn,λn z=>jY l02 (hn n z),λn c e ne=>p4.get (DV.get (A:=[]) .app (sm.get (p2.get (p1.get e ne) ne) (by simp)) (by simp)) ne,λ_ z=>nomatch z⟩ (by
    rintro dd rs E T ⟨ds,as',o6,o7,rfl,i1,i2,i3,i4,i5,i6,i7,i8,i9,i10⟩
    simp only[mB]at i5
    have inv:=N5 ht hi i4 (by lia)
    rw[tU]at inv
    obtain⟨d,T1,d1,d2,d3,d4⟩:=VZ i2 i3 i6 ht inv (by lia)
    have lS:S.length<=T1.length:=by have:=i8 s jr;have:=As i3.root;have:=d2.same.len;lia
    have j3:=i3.same d2.same (by simpa using i6)
    have j1:T1[q]?=Gc (.lst (ds.map AS.d)):=d2.get i1 hpq
    have tc:=iL j1 (by lia)
    have w1:∀(c:Ev),eOr (eOp (o2 wNe) [eOp (o2 wIx) [eV 7,eC (.int 0)],eC (.str "throw")]) c [Gc (.ref p),Gc (.int M),Gc t.d,Gc (.tup (ls.map Ld.d)),Gc (.ref s),Gc (.ref q),Gc dd,Gc d.d] T1=if GO d=true then c [Gc (.ref p),Gc (.int M),Gc t.d,Gc (.tup (ls.map Ld.d)),Gc (.ref s),Gc (.ref q),Gc dd,Gc d.d] T1 else Gc (.bl true,T1):=by
     intro c
     cases d<;>simp[AS.d,GO]
    by_cases hb:GO d=false\/(ds.filter GO).length<3
    .obtain⟨T2,as2,k1,k2,k3,k4⟩:=aY j3 ht inv (by lia) d3
     have lt:=j3.lts
     have q2:T2[q]?=Gc (.lst (ds.map AS.d)):=k3.get j1 i7
     have hz:ds.length<sizeLine:=jV (show ds.length<50 by lia) (AU (by decide))
     refine⟨_,[Gc (.ref p),Gc (.int M),Gc t.d,Gc (.tup (ls.map Ld.d)),Gc (.ref s),Gc (.ref q),Gc dd,Gc d.d],T2.set q (.lst ((ds++[d]).map AS.d)),by simp;rfl,?_,ds++[d],as2,Gc dd,Gc d.d,rfl,jj (As q2),?_,?_,M9 i4 d3,by simp;lia,?_,?_,?_,?_,λx hx=>(kB.mp hx).elim (i10 x) λz=>by rw[kN.mp z];exact d4⟩
     .have kk:=AX q2
      have sq:=Hg j1
      have hz':(ds.map AS.d).length<sizeLine:=by simpa using hz
      have hfin:(ds++[d]).map AS.d=ds.map AS.d++[d.d]:=by simp
      rw[hfin]
      generalize hDD:ds.map AS.d=DD at*
      cases ht':GO d with
      |false=>
       simp[d1,-Po,w1,ht',k1,kk,hz']
      |true=>
       have h3:((ds.filter GO).length:Int)<3:=by
        have:=hb.resolve_left (by rw[ht'];simp)
        lia
       simp[d1,-Po,w1,ht',sq,tc,h3,k1,kk,hz']
     .obtain⟨pd,pe,ph⟩:=d2.pen
      exact⟨pd,by rw[jU hpq];exact k3.get pe i6,ph⟩
     .rw[Ob]
      exact k2.same (A:=[q]) (.set (by simp)) (by
       intro n hn z
       simp at hn;subst hn
       simp only[jX]at z i7
       rcases z with z|z|z|z
       .exact i7 (.inl z)
       .exact i7 (.inr (.inl z))
       .exact i7 (.inr (.inr (.inl z)))
       .rcases k4 _ z with w|w
        .exact i7 (.inr (.inr (.inr w)))
        .have:=As j1;lia)
     .intro z
      simp only[jX]at z i6
      rcases z with z|z|z|z
      .exact i6 (.inl z)
      .exact i6 (.inr (.inl z))
      .exact i6 (.inr (.inr (.inl z)))
      .rcases k4 _ z with w|w
       .exact i6 (.inr (.inr (.inr w)))
       .have:=d2.pen.lt;lia
     .intro z
      simp only[jX]at z i7
      rcases z with z|z|z|z
      .exact i7 (.inl z)
      .exact i7 (.inr (.inl z))
      .exact i7 (.inr (.inr (.inl z)))
      .rcases k4 _ z with w|w
       .exact i7 (.inr (.inr (.inr w)))
       .have:=As j1;lia
     .intro n z
      simp only[jX]at z i8
      rcases z with z|z|z|z
      .exact i8 n (.inl z)
      .exact i8 n (.inr (.inl z))
      .exact i8 n (.inr (.inr (.inl z)))
      .rcases k4 _ z with w|w
       .exact i8 n (.inr (.inr (.inr w)))
       .exact jY lS w
     .intro n c e ne
      have ln:n<S.length:=As e
      rw[jU (λz=>by have:=lqS;lia)]
      exact k3.get (d2.get (i9 n c e ne) ne) λz=>by have:=i8 n z;lia
    .have ht':GO d=true:=by
      cases z:GO d with
      |true=>rfl
      |false=>exact absurd (.inl z) hb
     have h3:¬((ds.filter GO).length:Int)<3:=by
      have:¬(ds.filter GO).length<3:=λz=>hb (.inr z)
      lia
     refine⟨_,[Gc (.ref p),Gc (.int M),Gc t.d,Gc (.tup (ls.map Ld.d)),Gc (.ref s),Gc (.ref q),Gc dd,Gc d.d],T1,by simp;rfl,?_,ds,as',Gc dd,Gc d.d,rfl,j1,d2.pen,j3,i4,by lia,i6,i7,i8,λn c e ne=>d2.get (i9 n c e ne) ne,i10⟩
     have sq:=Hg j1
     generalize hDD:ds.map AS.d=DD at*
     simp[d1,-Po,w1,ht',sq,tc,h3])
 refine⟨t,ls,ds,S',?_,⟨⟨ht,hi,f4,by simp at f5;lia⟩,by simpa using f5,f10,hhr⟩,⟨λx hx=>(hf.1 x hx).2.2.2.2,hh.2⟩,f2,f9⟩
 have df:=A7 f1
 simp[C9,NI,e1,e2,e3,hQ,e4,rk,ef,df,BS]
theorem Vx{M:Nat}(hM:M<=16)(h:CV p S):∃t ls ds S',C9 [.ref p,.int M] S=Gc (BS t ls ds,S')/\(GJ t ls ds/\ds.length<=M/\∀d∈ds,Sm d)/\((∀l∈ls,l.ow.sum=1)/\t.ho.sum=1)/\CV p S'/\∀n c,S[n]?=Gc c->n≠p->S'[n]?=Gc c:=
 let⟨t,ls,ds,S',a,b,c⟩:=Vz hM h
 ⟨t,ls,ds,S',a,⟨b.1,b.2.1,b.2.2.1⟩,c⟩
theorem Uu{M:Nat}(hM:M<=16)(h:CV p S):∃t ls ds S',C9 [.ref p,.int M] S=Gc (BS t ls ds,S')/\(GJ t ls ds/\ds.length<=M)/\((∀l∈ls,l.ow.sum=1)/\t.ho.sum=1)/\CV p S'/\∀n c,S[n]?=Gc c->n≠p->S'[n]?=Gc c:=by
 obtain⟨t,ls,ds,S',a,b,c⟩:=Vx hM h
 exact⟨t,ls,ds,S',a,⟨b.1,b.2.1⟩,c⟩
theorem Xp{M:Nat}(hM:M<=16)(h:CV p S):∃t ls ds S',C9 [.ref p,.int M] S=Gc (BS t ls ds,S')/\(GJ t ls ds/\ds.length<=M)/\((∀l∈ls,l.ow.sum=1)/\t.ho.sum=1)/\CV p S':=by
 obtain⟨t,ls,ds,S',a,b,c,d,_⟩:=Uu hM h
 exact⟨t,ls,ds,S',a,b,c,d⟩
end
section
variable{S:Sto}{s l m:Nat}{as:Wp Nat}{st:Stt}
theorem Tu{rs:Wp Rat}:D.tup (rs.map aD)=shD rs:=rfl
end
theorem Pk{n m d:Nat}(h:n<=m):HT.sIx m d (Gc (n:Int))=n:=by
 unfold HT.sIx
 have:¬((n:Int)<0):=by lia
 simp[this]
 lia
theorem HK{α:Type}{ds:Wp α}{n:Nat}(h:n<=ds.length):Kh ds none (Gc (n:Int))=ds.take n:=by
 unfold Kh
 rw[Pk h]
 simp[HT.sIx]
theorem Qm{α:Type}{ds:Wp α}{n:Nat}(h:n<=ds.length):Kh ds (Gc (n:Int)) none=ds.drop n:=by
 unfold Kh
 rw[Pk h]
 simp[HT.sIx]
 exact l7 (by simp)
noncomputable def hD(x:Ld):D:=.tup [.int x.k,.int x.n]
noncomputable def BH(ls:Wp Ld):D:=.lst (ls.map hD)
noncomputable def K3(ls:Wp Ld):D:=.lst (ls.map λx=>shD x.ow)
section
variable{S:Sto}{ls:Wp Ld}{i j:Nat}{n:Int}
@[simp] theorem dw:dr S (BH ls)=.val (BH ls):=nr rfl
@[simp] theorem gJ:dr S (K3 ls)=.val (K3 ls):=nr rfl
@[simp] theorem bh:asS (.val (BH ls))=some (ls.map hD):=nr rfl
@[simp] theorem cN:asS (.val (K3 ls))=some (ls.map λx=>shD x.ow):=nr rfl
@[simp] theorem bf:Ha (.val (BH ls))=some (.val (.int ls.length)):=by
  show Ha (.val (.lst (ls.map hD)))=_
  rw[VH,kF]
theorem E9(hi:i<ls.length):atI (ls.map hD) (i:Int)=Gc (hD (AR ls i)):=De (by rw[jq,EW hi];rfl)
theorem Lu(hi:i<ls.length):atI (ls.map λx=>shD x.ow) (i:Int)=Gc (shD (AR ls i).ow):=De (by rw[jq,EW hi];rfl)
@[simp] theorem gY{x:Ld}:dr S (hD x)=.val (.tup [.int x.k,.int x.n]):=nr rfl
@[simp] theorem gD{ts:List Tf}{x:Ld}{E:En}:tTp ts (hD x) E S=tMs ts [.int x.k,.int x.n] E S:=nr rfl
theorem O8(hi:i<ls.length)(hn:n<=(AR ls i).n):BJ [BH ls,.int i,.int n] S=Gc (.bl true,S):=by
 have hi':(i:Int)<ls.length:=by lia
 simp[BJ,EY,hi',hi,E9 hi,hn]
theorem P5(hi:i<ls.length)(hj:j<ls.length)(h1:0<(AR ls i).n)(h2:0<(AR ls j).n)(hk:(AR ls i).k=(AR ls j).k):CT [BH ls,.int i,.int j] S=Gc (.bl true,S):=by
 have e1:=O8 (S:=S) (n:=1) hi (by lia)
 have e2:=O8 (S:=S) (n:=1) hj (by lia)
 simp[CT,Ee,e1,e2,E9 hi,E9 hj,hk]
theorem MD{k:Nat}(hi:i<ls.length)(hn:n<=(AR ls i).n)(hk:k≠(AR ls i).k):CP [BH ls,.int i,.int n,.int k] S=Gc (.bl true,S):=by
 have e1:=O8 (S:=S) hi hn
 have e2:(((AR ls i).k:Int)==(k:Int))=false:=by simp;lia
 simp[CP,GD,e1,E9 hi,e2]
theorem VY{lo hi:jO Int}:wSl lo hi (.val (BH ls))=Gc (.own (Kh (ls.map hD) lo hi)):=nr rfl
theorem FP(hi:i<ls.length)(hl:ls.length<=60):Bk [BH ls,.int i,.int n] S=Gc (BH (less ls i n),S):=by
 have c1:=HK (ds:=ls.map hD) (n:=i) (by simp;lia)
 have c2:Kh (ls.map hD) (Gc ((i:Int)+1)) none=(ls.map hD).drop (i+1):=by
  have:=Qm (ds:=ls.map hD) (n:=i+1) (by simp;lia)
  simpa using this
 have ef:BH (less ls i n)=.lst ((ls.map hD).take i++[.tup [.int (AR ls i).k,.int ((AR ls i).n-n)]]++(ls.map hD).drop (i+1)):=by
  rw[P1,BH,ng,List.set_eq_take_append_cons_drop,kJ (by simpa using hi)]
  simp[hD]
 have z1:(uE i (ls.map hD)).length+1<=sizeLine:=jY (show _<=100 by simp;lia) (AU (by decide))
 have z2:(uE i (ls.map hD)++[D.tup [.int (AR ls i).k,.int ((AR ls i).n-n)]]).length+(vh (i+1) (ls.map hD)).length<=sizeLine:=jY (show _<=100 by simp;lia) (AU (by decide))
 rw[ef]
 have ah:=E9 hi
 have ws:=λ{lo hi:jO Int}=>VY (ls:=ls) (lo:=lo) (hi:=hi)
 generalize uE i (ls.map hD)=A at*
 generalize vh (i+1) (ls.map hD)=B at*
 simp only[kn,mB,oG]at z2
 simp[Bk,HU,ah,ws,c1,c2,z1,z2]
end
section
variable{S:Sto}{st:Stt}{t:Tr}{k:Nat}
@[simp] theorem Ej{ls:List Ld}{r:List D}:C4 (.val (BH ls)) (.val (.lst r))=if(ls.map hD).length+r.length<=sizeLine then some (.own (ls.map hD++r))else none:=nr rfl
theorem LK{ls:Wp Ld}{y:Ld}:D.lst (ls.map hD++[.tup [.int y.k,.int y.n]])=BH (ls++[y]):=by simp[BH,hD]
theorem Ll(h:F7 t k st)(hk:k<=17){d:AS}(hc:Can t st d):Ag [BH st.AF,d.d] S=Gc (BH (step t st d).AF,S):=by
 have hlen:=h.len
 have hz:(st.AF.map hD).length+1<=sizeLine:=jY (show _<=100 by simp;lia) (AU (by decide))
 have hz2:∀{i:Nat} {n:Int},((less st.AF i n).map hD).length+1<=sizeLine:=λ{i n}=>jY (show _<=100 by simp[Dw];lia) (AU (by decide))
 cases d with
 |EB p kd n=>
  have e:=LK (ls:=st.AF) (y:=⟨kd,n,TJ t.p p⟩)
  show _=Gc (BH (st.AF++[⟨kd,n,TJ t.p p⟩]),S)
  rw[<-e]
  have wA:=Ej (ls:=st.AF) (r:=[.tup [.int kd,.int n]])
  rw[kJ (by simpa using hz)]at wA
  simp[Ag,Bd,AS.d,-Ej,wA]
 |JZ i j=>
  obtain⟨hij,hi,hj,h1,h2,h3⟩:=hc
  have e0:AR (less st.AF i (AR st.AF i).n) j=AR st.AF j:=by
   unfold AR less
   rw[jy,jU hij,<-jy]
  have w1:=FP (S:=S) (n:=(AR st.AF i).n) hi (by lia)
  have w2:=FP (S:=S) (ls:=less st.AF i (AR st.AF i).n) (i:=j) (n:=(AR st.AF j).n) (by rw[Dw];exact hj) (by rw[Dw];lia)
  have z3:((less (less st.AF i (AR st.AF i).n) j (AR st.AF j).n).map hD).length+1<=sizeLine:=jY (show _<=100 by simp[Dw];lia) (AU (by decide))
  have e:=LK (ls:=less (less st.AF i (AR st.AF i).n) j (AR st.AF j).n) (y:=⟨(AR st.AF i).k,(AR st.AF i).n+(AR st.AF j).n,CZ (AR st.AF i).n (AR st.AF j).n (AR st.AF i).ow (AR st.AF j).ow⟩)
  show _=Gc (BH (less (less st.AF i (AR st.AF i).n) j (AR st.AF j).n++[_]),S)
  rw[<-e]
  have a1:=E9 hi
  have a2:=E9 hj
  have wA:=Ej (ls:=less (less st.AF i (AR st.AF i).n) j (AR st.AF j).n) (r:=[.tup [.int (AR st.AF i).k,.int ((AR st.AF i).n+(AR st.AF j).n)]])
  rw[kJ (by simpa using z3)]at wA
  generalize (less (less st.AF i (AR st.AF i).n) j (AR st.AF j).n).map hD=A at*
  simp[Ag,Bd,AS.d,a1,a2,w1,w2,-Ej,wA]
 |swap i g kd n=>
  obtain⟨hi,h1,h2,h3,h4,h5,h6⟩:=hc
  have w1:=FP (S:=S) (n:=g) hi (by lia)
  have e:=LK (ls:=less st.AF i g) (y:=⟨kd,n,(AR st.AF i).ow⟩)
  show _=Gc (BH (less st.AF i g++[⟨kd,n,(AR st.AF i).ow⟩]),S)
  rw[<-e]
  have wA:=Ej (ls:=less st.AF i g) (r:=[.tup [.int kd,.int n]])
  rw[kJ (by simpa using hz2)]at wA
  simp[Ag,Bd,AS.d,w1,-Ej,wA]
 |Dq u i g kd n=>
  obtain⟨hi,h1,h2,h3,h4,h5,h6,h7⟩:=hc
  have w1:=FP (S:=S) (n:=g) hi (by lia)
  have e:=LK (ls:=less st.AF i g) (y:=⟨kd,n,(AR st.AF i).ow⟩)
  show _=Gc (BH (less st.AF i g++[⟨kd,n,(AR st.AF i).ow⟩]),S)
  rw[<-e]
  have wA:=Ej (ls:=less st.AF i g) (r:=[.tup [.int kd,.int n]])
  rw[kJ (by simpa using hz2)]at wA
  simp[Ag,Bd,AS.d,w1,-Ej,wA]
 |FJ i n=>
  obtain⟨hi,h1,h2⟩:=hc
  have w1:=FP (S:=S) (n:=n) hi (by lia)
  show _=Gc (BH (less st.AF i n),S)
  simp[Ag,Bd,AS.d,w1]
 |thr i n ws=>
  obtain⟨hi,h1,h2,h3,h4⟩:=hc
  have w1:=FP (S:=S) (n:=n) hi (by lia)
  have e:BH (step t st (.thr i n ws)).AF=BH (less st.AF i n):=by
   show D.lst (((less st.AF i n).map _).map hD)=_
   rw[k7];rfl
  rw[e]
  simp[Ag,Bd,AS.d,w1]
 |Iq p q x=>
  have e:BH (step t st (.Iq p q x)).AF=BH st.AF:=by
   show D.lst ((st.AF.map _).map hD)=_
   rw[k7];rfl
  rw[e]
  simp[Ag,Bd,AS.d]
noncomputable def GY:AS->jO Int
 | .Dq u .. =>Gc u
 |_=>none
theorem Of{ls:Wp Ld}:∀{ds:Wp AS},(runs t (st0 t ls) ds).nums=ds.filterMap GY:=by
 intro ds
 have:∀(ds:Wp AS) (st:Stt),(runs t st ds).nums=st.nums++ds.filterMap GY:=by
  intro ds
  induction ds with
  |nil=>intro st;simp[runs]
  |cons d ds ih=>
   intro st
   show(runs t (step t st d) ds).nums=_
   rw[ih]
   cases d<;>simp[step,GY,kO]
 rw[this];rfl
theorem Jd:∀{ds:Wp AS} {acc:Wp D} {o:jO D},acc.length+ds.length<=100->Ce [] (tNm 0) (eOp (o2 wEq) [eOp (o2 wIx) [eV 0,eC (.int 0)],eC (.str "trade")]) (eOp (o2 wIx) [eV 0,eC (.int 1)]) (ds.map AS.d) acc [o] S=Gc (acc++(ds.filterMap GY).map D.int,S)
 | [],acc,o,h=>by rw[mS,Ek A5];simp
 |d::ds,acc,o,h=>by
  have hz:acc.length<sizeLine:=jV (show acc.length<101 by simp at h;lia) (AU (by decide))
  have ht:tNm 0 d.d [o] S=Gc [Gc d.d]:=by simp
  rw[kY]
  cases d with
  |Dq u i g kd n=>
   rw[JH A5 hz ht (S1:=S) (by simp[AS.d])]
   have:eOp (o2 wIx) [eV 0,eC (.int 1)] [Gc (AS.Dq u i g kd n).d] S=Gc (.int u,S):=by simp[AS.d]
   rw[this,Bx,Jd (by simp at h ⊢; lia)]
   simp[GY,kO]
  |EB=>rw[JG A5 hz ht (S1:=S) (by simp[AS.d]),Jd (by simp at h ⊢; lia)];simp[GY,kO]
  |JZ=>rw[JG A5 hz ht (S1:=S) (by simp[AS.d]),Jd (by simp at h ⊢; lia)];simp[GY,kO]
  |swap=>rw[JG A5 hz ht (S1:=S) (by simp[AS.d]),Jd (by simp at h ⊢; lia)];simp[GY,kO]
  |FJ=>rw[JG A5 hz ht (S1:=S) (by simp[AS.d]),Jd (by simp at h ⊢; lia)];simp[GY,kO]
  |thr=>rw[JG A5 hz ht (S1:=S) (by simp[AS.d]),Jd (by simp at h ⊢; lia)];simp[GY,kO]
  |Iq=>rw[JG A5 hz ht (S1:=S) (by simp[AS.d]),Jd (by simp at h ⊢; lia)];simp[GY,kO]
theorem Sx{ds:Wp AS}{d:AS}(hd:ds.length<=50)(hn:st.nums=ds.filterMap GY)(hc:Can t st d):Ay [BH st.AF,.tup (ds.map AS.d),d.d] S=Gc (.bl true,S):=by
 cases d with
 |EB p kd n=>simp[Ay,BV,AS.d]
 |JZ i j=>
  obtain⟨hij,hi,hj,h1,h2,h3⟩:=hc
  have e:=P5 (S:=S) hi hj h1 h2 h3
  simp[Ay,BV,AS.d,e]
 |swap i g kd n=>
  obtain⟨hi,h1,h2,h3,h4,h5,h6⟩:=hc
  have e:=MD (S:=S) (k:=kd) hi h2 h4
  simp[Ay,BV,AS.d,e]
 |Dq u i g kd n=>
  obtain⟨hi,h1,h2,h3,h4,h5,h6,h7,h8⟩:=hc
  have e:=MD (S:=S) (k:=kd) hi h2 h4
  have tc:=Jd (S:=S) (ds:=ds) (acc:=[]) (o:=none) (by simp;lia)
  rw[<-hn]at tc
  have fi:=Js (us:=st.nums)
  have ii:=LD (us:=st.nums) (i:=u)
  have iu:(st.nums.any λx=>x==u)=false:=by
   rw[qL]
   intro x hx z
   have:x=u:=by simpa using z
   exact h7 (this▸hx)
  rw[iu]at ii
  generalize st.nums.map D.int=ud at*
  simp[Ay,BV,AS.d,tc,fi,ii,e]
 |FJ i n=>
  obtain⟨hi,h1,h2⟩:=hc
  have e:=O8 (S:=S) hi h2
  simp[Ay,BV,AS.d,e]
 |thr i n ws=>
  obtain⟨hi,h1,h2,h3,h4⟩:=hc
  have e:=O8 (S:=S) hi h2
  simp[Ay,BV,AS.d,e]
 |Iq p q x=>simp[Ay,BV,AS.d]
end
section
variable{S:Sto}{st:Stt}{t:Tr}{k:Nat}
theorem Vq{ss os:Wp Rat}:NS (ss.map aD) (os.map aD)=(ss.zip os).map λz=>D.tup [aD z.1,aD z.2]:=by
 unfold NS
 rw[List.zip_map,k7]
 rfl
noncomputable def Ww(w m:Int)(ss os:Wp Rat):Wp Rat:=pZ (λs o=>(s*w+o*m) / (w+m)) ss os
theorem Fb{w m:Int}{ss os:Wp Rat}{j n:Nat}(hs:∀r∈ss,Sz j r)(ho:∀r∈os,Sz j r)(hw:w.natAbs<2^n)(hm:m.natAbs<2^n)(h:0<w+m)(hj:2*j+n+1<=7990)(hl:ss.length<=50):Ca [shD ss,.int w,shD os,.int m] S=Gc (shD (Ww w m ss os),S):=by
 have e:=GA (gs:=[]) (t:=tTp [tNm 2,tNm 3]) (f:=AM Ho [eV 2,eV 0,eV 3,eV 1]) (C:=[Gc (.int w),Gc (.int m)]) (m:=2) (e:=λz:Rat×Rat=>D.tup [aD z.1,aD z.2]) (g:=λz=>aD ((z.1*w+z.2*m) / (w+m))) (S:=S) A5 (xs:=ss.zip os) (acc:=[]) (os:=[none,none]) rfl (jY (show _<=50 by simp;lia) (AU (by decide))) (by
  intro z hz os' ho'
  obtain⟨q1,q2,rfl⟩:=bE ho'
  have hm2:=nE (a:=z.1) (b:=z.2) hz
  have l:=aH (S:=S) (hs _ hm2.1) (ho _ hm2.2) hw hm h (by lia)
  refine⟨[Gc (aD z.1),Gc (aD z.2)],rfl,by simp,?_⟩
  simp[l])
 rw[<-Vq]at e
 have em:(ss.zip os).map (λz=>aD ((z.1*w+z.2*m) / (w+m)))=(Ww w m ss os).map aD:=by
  unfold Ww
  rw[<-List.map_uncurry_zip_eq_zipWith,k7]
  rfl
 rw[em]at e
 simp only[lV,kh]at e
 simp[Ca,HM,e,Tu]
theorem N0{P p:Nat}(hP:P<=50):EZ [.int P,.int p] S=Gc (shD (TJ P p),S):=by
 have e:=RB (S:=S) (P:=P) (p:=p) (cond:=0) (C:=[]) (dd:=.int p) (f:=eIf (eOp (o2 wEq) [eV 1,eV 0]) (eC UC) (eC Hw)) hP (by
  intro i
  by_cases hi:i=p
  .subst hi;simp;rfl
  .have:((i:Int)==(p:Int))=false:=by simp;lia
   simp[this,hi];rfl)
 have rn:KO (P:Int)=true:=FK (by lia) (by lia)
 simp[EZ,Iu,rn,e,Tu]
theorem LS{n m:Int}{ss os:Wp Rat}:Ww n m ss os=CZ n m ss os:=by
 unfold Ww CZ
 congr 1
 funext s o
 push_cast
 rfl
theorem QH{n m:Int}{ss os:Wp Rat}:CZ n m ss os=CZ m n os ss:=by
 unfold CZ
 rw[List.zipWith_comm]
 congr 1
 funext o s
 push_cast
 grind
@[simp] theorem S9{a b:Int}:Mf [a,b]=if a<=b then [a,b]else [b,a]:=by
  unfold Mf
  simp[List.mergeSort,sZ,List.merge]
@[simp] theorem YT{a b:Int}:N2 (.val (.lst [.int a,.int b]))=some (.own ((if a<=b then [a,b]else [b,a]).map D.int)):=by
  have:N2 (.val (.lst [.int a,.int b]))=Gc (.own ((Mf [a,b]).map D.int)):=rfl
  rw[this,S9]
@[simp] theorem bK{a b c d e:D}:atI [a,b,c,d,e] (-4)=some b:=nr rfl
@[simp] theorem cE{a b c d e f:D}:atI [a,b,c,d,e,f] (-4)=some c:=nr rfl
theorem UA{i j:Nat}(ht:JY t)(h:F7 t k st)(hk:k<=17)(hc:Can t st (.JZ i j)):BL [BH st.AF,K3 st.AF,(AS.JZ i j).d] S=Gc (shD (CZ (AR st.AF i).n (AR st.AF j).n (AR st.AF i).ow (AR st.AF j).ow),S):=by
 obtain⟨hij,hi,hj,h1,h2,h3⟩:=hc
 have sz:=h.sz
 have pi:=h.pcs _ (Az hi)
 have pj:=h.pcs _ (Az hj)
 have ti:=h.own _ (Az hi)
 have tj:=h.own _ (Az hj)
 have zi:=sz.1 _ (Az hi)
 have zj:=sz.1 _ (Az hj)
 have hp:t.p<=10:=by have:=ht.2.1;lia
 .by_cases hle:i<=j
  .have hle':(i:Int)<=j:=by lia
   have e:=Fb (S:=S) (j:=30+170*k) (n:=131+k) zi zj (GP pi.1 pi.2) (GP pj.1 pj.2) (by lia) (by lia) (by lia)
   rw[LS]at e
   have a1:=E9 hi
   have a2:=E9 hj
   have b1:=Lu hi
   have b2:=Lu hj
   have mf:B5 [(AS.JZ i j).d] S=Gc (.lst [.int i,.int j],S):=by
    simp[B5,D4,AS.d,hle,hle']
   simp only[AS.d]at mf⊢
   simp[BL,Cw,mf,a1,a2,b1,b2,e]
  .have hle':¬(i:Int)<=j:=by lia
   have e:=Fb (S:=S) (j:=30+170*k) (n:=131+k) zj zi (GP pj.1 pj.2) (GP pi.1 pi.2) (by lia) (by lia) (by lia)
   rw[LS,QH]at e
   have a1:=E9 hi
   have a2:=E9 hj
   have b1:=Lu hi
   have b2:=Lu hj
   have mf:B5 [(AS.JZ i j).d] S=Gc (.lst [.int j,.int i],S):=by
    simp[B5,D4,AS.d,hle,hle']
   simp only[AS.d]at mf⊢
   simp[BL,Cw,mf,a1,a2,b1,b2,e]
theorem SD{i kd:Nat}{g n:Int}(hi:i<st.AF.length):BL [BH st.AF,K3 st.AF,(AS.swap i g kd n).d] S=Gc (shD (AR st.AF i).ow,S):=by
 have b1:=Lu hi
 simp[BL,Cw,B5,D4,AS.d,b1]
theorem RC{i kd:Nat}{u g n:Int}(hi:i<st.AF.length):BL [BH st.AF,K3 st.AF,(AS.Dq u i g kd n).d] S=Gc (shD (AR st.AF i).ow,S):=by
 have b1:=Lu hi
 simp[BL,Cw,B5,D4,AS.d,b1]
theorem Ut{ws:Wp Int}(h:F7 t k st)(hk:k<=17)(hl:ws.length=t.k+1)(hw:∀w∈ws,1<=w/\w<=99):Dc [t.d,BH st.AF,.tup (ws.map D.int)] S=Gc (.int (ED t st.AF ws),S):=by
 have hlen:=h.len
 have e:=GA (gs:=[]) (t:=tTp [tNm 1,tNm 2]) (f:=eOp (o2 CW) [eV 2,eOp (o2 wIx) [eV 0,eV 1]]) (C:=[Gc (.tup (ws.map D.int))]) (m:=2) (e:=hD) (g:=λx=>D.int (x.n*ws.getD x.k 0)) (S:=S) A5 (xs:=st.AF) (acc:=[]) (os:=[none,none]) rfl (jY (show _<=50 by simp;lia) (AU (by decide))) (by
  intro x hx os ho
  obtain⟨q1,q2,rfl⟩:=bE ho
  have hkk:=h.kind _ hx
  have w1:=Qh (ws:=ws) (i:=x.k) (by lia)
  have w2:=Lz hw (i:=x.k) (by lia)
  have m1:Dp x.n (ws.getD x.k 0)=true:=mulR (by lia) (by lia)
  generalize ws.getD x.k 0=wz at*
  refine⟨[Gc (.int x.k),Gc (.int x.n)],rfl,by simp,?_⟩
  simp[w1,m1])
 simp only[lV,kh]at e
 have es:K2 (st.AF.map λx=>D.int (x.n*ws.getD x.k 0))=Gc (st.AF.map λx=>x.n*ws.getD x.k 0):=by
  have:=Gk (st.AF.map λx=>x.n*ws.getD x.k 0)
  rwa [k7]at this
 have w2:=Nk hl
 have w4:=Lz hw (i:=t.k) (by lia)
 have m2:Dp (t.b:Int) (ws.getD t.k 0)=true:=mulR (by lia) (by lia)
 have e2:ED t st.AF ws=(st.AF.map λx=>x.n*ws.getD x.k 0).sum+t.b*ws.getD t.k 0:=rfl
 rw[e2]
 have sq:sqD S (BH st.AF)=Gc (st.AF.map hD,[]):=rfl
 generalize (st.AF.map λx=>x.n*ws.getD x.k 0)=es' at*
 generalize (st.AF.map λx=>D.int (x.n*ws.getD x.k 0))=es2 at*
 generalize ws.getD t.k 0=wb at*
 simp[Dc,HQ,Tr.d,sq,e,es,w2,m2]
theorem YU{i:Nat}{n:Int}{ws:Wp Int}(ht:JY t)(h:F7 t k st)(hk:k<=17)(hc:Can t st (.thr i n ws)):D7 [t.d,BH st.AF,(AS.thr i n ws).d] S=Gc (aD (JE t st.AF i n ws),S):=by
 obtain⟨hi,h1,h2,hl,hw⟩:=hc
 have a:=J1 ht h (by lia) hl hw
 have w1:=Qh (ws:=ws) (i:=(AR st.AF i).k) (by have:=h.kind _ (Az hi);lia)
 have w3:=Lz hw (i:=(AR st.AF i).k) (by have:=h.kind _ (Az hi);lia)
 have m1:Dp n (ws.getD (AR st.AF i).k 0)=true:=mulR (by lia) (by lia)
 have l1:=R9 (S:=S) (t:=n*ws.getD (AR st.AF i).k 0) a.1 (DM (GP (by lia) a.2) (by lia))
 have wo:=Ut (S:=S) h hk hl hw
 have ah:=E9 hi
 rw[LH hi]
 generalize aD (((n*ws.getD (AR st.AF i).k 0:Int):Rat) / (ED t st.AF ws:Rat))=R at*
 generalize ws.getD (AR st.AF i).k 0=wa at*
 simp[D7,Hu,AS.d,ah,w1,m1,wo,l1]
theorem Sw{X:Rat}{ss os:Wp Rat}:Ww ((X.den:Int)-X.num) X.num ss os=HZ X os ss:=by
 unfold Ww HZ
 congr 1
 funext s o
 have h1:=D3 X
 have h2:=Im X
 push_cast
 have e:((X.den:Rat)-(X.num:Rat)+(X.num:Rat))=(X.den:Rat):=by grind
 rw[e]
 grind
theorem SR{i:Nat}{n:Int}{ws:Wp Int}{ss:Wp Rat}(ht:JY t)(h:F7 t k st)(hk:k<=17)(hc:Can t st (.thr i n ws))(hs:∀r∈ss,Sz (30+170*k) r)(hl:ss.length<=50):DC [t.d,BH st.AF,K3 st.AF,(AS.thr i n ws).d,shD ss] S=Gc (shD (HZ (JE t st.AF i n ws) (AR st.AF i).ow ss),S):=by
 have pt:=YU (S:=S) ht h hk hc
 obtain⟨hi,h1,h2,hl',hw⟩:=hc
 have cz:=SE ht h (by lia) hl' hw hi h1 h2
 have b1:=Lu hi
 generalize JE t st.AF i n ws=X at*
 have d0:=den_pos X
 have c2:=cz.2
 have e:=Fb (S:=S) (w:=(X.den:Int)-X.num) (m:=X.num) (j:=30+170*k) (n:=146+k) hs (h.sz.1 _ (Az hi)) (by
  have c1:=cz.1
  have:2^(146+k)=2^(145+k)*2:=by rw[show 146+k=(145+k)+1 by lia,qs]
  generalize 2^(145+k)=P at*
  lia) (XJ cz.1 (by lia)) (by lia) (by lia) hl
 rw[Sw]at e
 generalize HZ X (AR st.AF i).ow ss=rs at*
 simp only[aD,AS.d]at pt⊢
 simp[DC,Gn,pt,b1,e]
theorem R7{p q:Nat}{x:Rat}{ss:Wp Rat}{j i:Nat}(hs:∀r∈ss,Sz j r)(hx:Sz i x)(hj:2*j+i<=7900)(hp:p<ss.length)(hq:q<ss.length)(hpq:p≠q):∃S',D0 [(AS.Iq p q x).d,shD ss] S=Gc (shD (G8 p q x ss),S')/\DV [] S S':=by
 have sp:=hs _ (getD_mem (d:=0) hp)
 have sq:=hs _ (getD_mem (d:=0) hq)
 have l1:∀S,Hr [aD (ss.getD p 0),aD x] S=Gc (aD (ss.getD p 0*x),S):=λS=>aT sp hx (by lia)
 have s1:=Mz sp hx
 have l2:∀S,Jl [aD (ss.getD p 0),aD (ss.getD p 0*x)] S=Gc (aD (ss.getD p 0-ss.getD p 0*x),S):=λS=>eY sp s1 (by lia)
 have l3:∀S,Jb [aD (ss.getD q 0),aD (ss.getD p 0*x)] S=Gc (aD (ss.getD q 0+ss.getD p 0*x),S):=λS=>eL sq s1 (by lia)
 have a1:=Uh hp
 have a2:=Uh hq
 have i1:=WC hp
 have i2:ixN (((ss.map aD).set p (aD (ss.getD p 0-ss.getD p 0*x))).length) (q:Int)=Gc q:=OG (by simpa using hq)
 refine⟨S++[.lst ((G8 p q x ss).map aD)],?_,.app⟩
 simp only[lq,kF]at i1 i2
 have em:(G8 p q x ss).map aD=((ss.map aD).set p (aD (ss.getD p 0-ss.getD p 0*x))).set q (aD (ss.getD q 0+ss.getD p 0*x)):=by rw[G8,ng,ng]
 unfold shD
 rw[em]
 generalize aD (ss.getD p 0-ss.getD p 0*x)=d1 at*
 generalize aD (ss.getD q 0+ss.getD p 0*x)=d2 at*
 generalize aD (ss.getD p 0*x)=d3 at*
 generalize aD (ss.getD p 0)=d4 at*
 generalize aD (ss.getD q 0)=d5 at*
 simp[D0,Hz,AS.d,a1,a2,l1,l2,l3,i1,i2]
end
theorem PJ{α:Type}{gs:Gd}{t:Tf}{f:Ev}{C:En}{m:Nat}{e g:α->D}(hg:∀S,gOk gs S):∀{xs:Wp α} {acc:Wp D} {os:En} {S:Sto},os.length=m->acc.length+xs.length<=sizeLine->(∀x∈xs,∀os S,os.length=m->∃us S',us.length=m/\t (e x) (C++os) S=Gc (C++us)/\f (C++us) S=Gc (g x,S')/\DV [] S S')->∃S',Ce gs t E8 f (xs.map e) acc (C++os) S=Gc (acc++xs.map g,S')/\DV [] S S'
 | [],acc,os,S,ho,hz,h=>⟨S,by rw[mS,Ek (hg S)];simp,.refl⟩
 |x::xs,acc,os,S,ho,hz,h=>by
  obtain⟨us,S1,hu,e1,e2,s1⟩:=h x jr os S ho
  obtain⟨S2,e3,s2⟩:=PJ hg (xs:=xs) (acc:=acc++[g x]) (os:=us) (S:=S1) hu (by simp at hz ⊢; lia) λx' hx=>h x' (jf _ hx)
  refine⟨S2,?_,s1.trans s2⟩
  rw[kY,JH (hg S) (by simp at hz;lia) e1 IE,e2,Bx,e3]
  simp
section
variable{S:Sto}{st:Stt}{t:Tr}{k:Nat}
noncomputable def shB(t:Tr)(st:Stt):AS->Wp Rat->Wp Rat
 | .thr i n ws,ss=>HZ (JE t st.AF i n ws) (AR st.AF i).ow ss
 | .Iq p q x,ss=>G8 p q x ss
 |_,ss=>ss
theorem PK{d:AS}{ss:Wp Rat}(ht:JY t)(h:F7 t k st)(hk:k<=17)(hc:Can t st d)(hs:∀r∈ss,Sz (30+170*k) r)(hl:ss.length=t.p):∃S',Ab [t.d,BH st.AF,K3 st.AF,d.d,shD ss] S=Gc (shD (shB t st d ss),S')/\DV [] S S':=by
 have tp:=ht.2.1
 cases d with
 |thr i n ws=>
  have e:=SR (S:=S) ht h hk hc hs (by lia)
  refine⟨S,?_,.refl⟩
  simp only[AS.d]at e⊢
  simp[Ab,BF,e,shB]
 |Iq p q x=>
  obtain⟨hpq,hp,hq,x1,x2,x3⟩:=hc
  have hx:Sz 4 x:=by
   refine⟨?_,by lia⟩
   show x.num.natAbs<16
   lia
  obtain⟨S',e,sm⟩:=R7 (S:=S) (p:=p) (q:=q) hs hx (by lia) (by lia) (by lia) hpq
  refine⟨S',?_,sm⟩
  simp only[AS.d]at e⊢
  simp[Ab,BF,e,shB]
 |EB p kd n=>exact⟨S,by simp[Ab,BF,AS.d,shB],.refl⟩
 |JZ i j=>exact⟨S,by simp[Ab,BF,AS.d,shB],.refl⟩
 |swap i g kd n=>exact⟨S,by simp[Ab,BF,AS.d,shB],.refl⟩
 |Dq u i g kd n=>exact⟨S,by simp[Ab,BF,AS.d,shB],.refl⟩
 |FJ i n=>exact⟨S,by simp[Ab,BF,AS.d,shB],.refl⟩
theorem So{d:AS}:(step t st d).hold=shB t st d st.hold:=by cases d<;>rfl
theorem KN{i:Nat}{n:Int}{ls:Wp Ld}(hi:i<ls.length){β:Type}(f:Wp Rat->β):(less ls i n).map (λx=>f x.ow)=ls.map λx=>f x.ow:=by
 rw[P1,ng]
 have:(ls.map λx=>f x.ow)[i]?=Gc (f (AR ls i).ow):=by rw[jq,EW hi];rfl
 apply qS
 intro j
 by_cases e:i=j
 .subst e;rw[jj (by simpa using hi),this]
 .rw[jU e]
@[simp] theorem gH{ls:List Ld}:sqD S (K3 ls)=some (ls.map λx=>shD x.ow,[]):=nr rfl
theorem UU{d:AS}(ht:JY t)(h:F7 t k st)(hk:k<=17)(hc:Can t st d):∃S',Am [t.d,BH st.AF,K3 st.AF,d.d] S=Gc (K3 (step t st d).AF,S')/\DV [] S S':=by
 have hlen:=h.len
 have sz:=h.sz
 have tp:=ht.2.1
 obtain⟨S',e,sm⟩:=PJ (gs:=[]) (t:=tNm 4) (f:=AM Ab [eV 0,eV 1,eV 2,eV 3,eV 4]) (C:=[Gc t.d,Gc (BH st.AF),Gc (K3 st.AF),Gc d.d]) (m:=1) (e:=λx:Ld=>shD x.ow) (g:=λx=>shD (shB t st d x.ow)) (λ_=>A5) (xs:=st.AF) (acc:=[]) (os:=[none]) (S:=S) rfl (jY (show _<=50 by simp;lia) (AU (by decide))) (by
  intro x hx os S0 ho
  obtain⟨q1,rfl⟩:=UT ho
  obtain⟨S1,e1,s1⟩:=PK (S:=S0) (d:=d) (ss:=x.ow) ht h hk hc (sz.1 x hx) (h.own x hx)
  refine⟨[Gc (shD x.ow)],S1,rfl,by simp,?_,s1⟩
  simp[e1])
 simp only[lV,kh]at e
 refine⟨S',?_,sm⟩
 have hz:(st.AF.map λx=>shD (shB t st d x.ow)).length+1<=sizeLine:=jY (show _<=100 by simp;lia) (AU (by decide))
 cases d with
 |EB p kd n=>
  have a1:=N0 (S:=S') (P:=t.p) (p:=p) (by lia)
  have ef:K3 (step t st (.EB p kd n)).AF=.lst ((st.AF.map λx=>shD (shB t st (.EB p kd n) x.ow))++[shD (TJ t.p p)]):=by simp[K3,step,shB]
  rw[ef]
  generalize (st.AF.map λx=>shD (shB t st (.EB p kd n) x.ow))=A at*
  simp only[AS.d,Tr.d]at e⊢
  simp[Am,BI,e,a1,hz]
 |JZ i j=>
  have a1:=UA (S:=S') ht h hk hc
  obtain⟨hij,hi,hj,h1,h2,h3⟩:=hc
  have e0:AR (less st.AF i (AR st.AF i).n) j=AR st.AF j:=by
   unfold AR less
   rw[jy,jU hij,<-jy]
  have ef:K3 (step t st (.JZ i j)).AF=.lst ((st.AF.map λx=>shD (shB t st (.JZ i j) x.ow))++[shD (CZ (AR st.AF i).n (AR st.AF j).n (AR st.AF i).ow (AR st.AF j).ow)]):=by
   show D.lst ((less (less st.AF i (AR st.AF i).n) j (AR st.AF j).n++[_]).map λx:Ld=>shD x.ow)=_
   rw[nG,KN (by rw[Dw];exact hj),KN hi]
   rfl
  rw[ef]
  generalize (st.AF.map λx=>shD (shB t st (.JZ i j) x.ow))=A at*
  simp only[AS.d]at e a1⊢
  simp[Am,BI,e,a1,hz]
 |swap i g kd n=>
  have hi:=hc.1
  have a1:=SD (S:=S') (st:=st) (i:=i) (kd:=kd) (g:=g) (n:=n) hi
  have ef:K3 (step t st (.swap i g kd n)).AF=.lst ((st.AF.map λx=>shD (shB t st (.swap i g kd n) x.ow))++[shD (AR st.AF i).ow]):=by
   show D.lst ((less st.AF i g++[_]).map λx:Ld=>shD x.ow)=_
   rw[nG,KN hi]
   rfl
  rw[ef]
  generalize (st.AF.map λx=>shD (shB t st (.swap i g kd n) x.ow))=A at*
  simp only[AS.d]at e a1⊢
  simp[Am,BI,e,a1,hz]
 |Dq u i g kd n=>
  have hi:=hc.1
  have a1:=RC (S:=S') (st:=st) (i:=i) (kd:=kd) (u:=u) (g:=g) (n:=n) hi
  have ef:K3 (step t st (.Dq u i g kd n)).AF=.lst ((st.AF.map λx=>shD (shB t st (.Dq u i g kd n) x.ow))++[shD (AR st.AF i).ow]):=by
   show D.lst ((less st.AF i g++[_]).map λx:Ld=>shD x.ow)=_
   rw[nG,KN hi]
   rfl
  rw[ef]
  generalize (st.AF.map λx=>shD (shB t st (.Dq u i g kd n) x.ow))=A at*
  simp only[AS.d]at e a1⊢
  simp[Am,BI,e,a1,hz]
 |FJ i n=>
  have ef:K3 (step t st (.FJ i n)).AF=.lst (st.AF.map λx=>shD (shB t st (.FJ i n) x.ow)):=by
   show D.lst ((less st.AF i n).map λx:Ld=>shD x.ow)=_
   rw[KN hc.1]
   rfl
  rw[ef]
  generalize (st.AF.map λx=>shD (shB t st (.FJ i n) x.ow))=A at*
  simp only[AS.d]at e⊢
  simp[Am,BI,e]
 |thr i n ws=>
  have ef:K3 (step t st (.thr i n ws)).AF=.lst (st.AF.map λx=>shD (shB t st (.thr i n ws) x.ow)):=by
   show D.lst (((less st.AF i n).map _).map λx:Ld=>shD x.ow)=_
   rw[k7]
   exact congrArg D.lst (KN hc.1 (λo=>shD (HZ (JE t st.AF i n ws) (AR st.AF i).ow o)))
  rw[ef]
  generalize (st.AF.map λx=>shD (shB t st (.thr i n ws) x.ow))=A at*
  simp only[AS.d]at e⊢
  simp[Am,BI,e]
 |Iq p q x=>
  have ef:K3 (step t st (.Iq p q x)).AF=.lst (st.AF.map λy=>shD (shB t st (.Iq p q x) y.ow)):=by
   show D.lst ((st.AF.map _).map λy:Ld=>shD y.ow)=_
   rw[k7]
   rfl
  rw[ef]
  generalize (st.AF.map λy=>shD (shB t st (.Iq p q x) y.ow))=A at*
  simp only[AS.d]at e⊢
  simp[Am,BI,e]
@[simp] theorem eG{ls:List Ld}:sqD S (BH ls)=some (ls.map hD,[]):=nr rfl
theorem KJ{ls:Wp Ld}{x y:D}(hl:ls.length<=50):CH [.tup [x,.tup (ls.map Ld.d),y]] S=Gc (BH ls,S):=by
 have e:=GA (gs:=[]) (t:=tNm 0) (f:=CS [eOp (o2 wIx) [eV 0,eC (.int 0)],eOp (o2 wIx) [eV 0,eC (.int 1)]]) (C:=[]) (m:=1) (e:=Ld.d) (g:=hD) (S:=S) A5 (xs:=ls) (acc:=[]) (os:=[none]) rfl (jY (show _<=50 by simp;lia) (AU (by decide))) (by
  intro x hx os ho
  obtain⟨q1,rfl⟩:=UT ho
  refine⟨[Gc x.d],rfl,by simp,?_⟩
  simp[Ld.d,hD])
 simp only[kh]at e
 simp[CH,Gi,e,BH]
theorem Ub{ls:Wp Ld}(hl:ls.length<=50):Ce [] (tNm 0) E8 (eOp (o2 wIx) [eV 0,eC (.int 2)]) (ls.map Ld.d) [] [none] S=Gc (ls.map λx=>shD x.ow,S):=
 GA (gs:=[]) (t:=tNm 0) (f:=eOp (o2 wIx) [eV 0,eC (.int 2)]) (C:=[]) (m:=1) (e:=Ld.d) (g:=λx=>shD x.ow) (S:=S) A5 (xs:=ls) (acc:=[]) (os:=[none]) rfl (jY (show _<=50 by simp;lia) (AU (by decide))) (by
  intro x hx os ho
  obtain⟨q1,rfl⟩:=UT ho
  refine⟨[Gc x.d],rfl,by simp,?_⟩
  simp[Ld.d])
theorem Uq{ls:Wp Ld}{ds:Wp AS}{n:Nat}(h:GJ t ls ds)(hn:n<=ds.length):∃S',GN [BS t ls ds,.int n] S=Gc (.tup [BH (runs t (st0 t ls) (ds.take n)).AF,K3 (runs t (st0 t ls) (ds.take n)).AF,shD (runs t (st0 t ls) (ds.take n)).hold],S')/\DV [] S S':=by
 have hl0:ls.length<=4:=h.inv.len
 have ct:Kh (ds.map AS.d) none (Gc (n:Int))=(ds.take n).map AS.d:=by rw[HK (by simpa using hn),oC]
 obtain⟨E',S',ef,i,o,f1,f2,rfl,f3⟩:=Hh (gs:=[]) (t:=tNm 8) (b:=Ad (By 7 (AM Ab [eV 2,eV 5,eV 6,eV 8,eV 7]))
  (Ad (By 6 (AM Am [eV 2,eV 5,eV 6,eV 8]))
  (By 5 (AM Ag [eV 5,eV 8]))))
  (I:=λrs E S'=>∃(i:Nat) (o:jO D),rs=((ds.take n).drop i).map AS.d/\i<=n/\E=[Gc (BS t ls ds),Gc (.int n),Gc t.d,Gc (.tup (ls.map Ld.d)),Gc (.tup (ds.map AS.d)),Gc (BH (runs t (st0 t ls) (ds.take i)).AF),Gc (K3 (runs t (st0 t ls) (ds.take i)).AF),Gc (shD (runs t (st0 t ls) (ds.take i)).hold),o]/\DV [] S S')
  (λ_ _ _ _=>A5) (ds:=(ds.take n).map AS.d) (E:=[Gc (BS t ls ds),Gc (.int n),Gc t.d,Gc (.tup (ls.map Ld.d)),Gc (.tup (ds.map AS.d)),Gc (BH ls),Gc (K3 ls),Gc (shD t.ho),none]) (S:=S)
  ⟨0,none,by simp,l9 _,by simp[runs,st0],.refl⟩ (by
    rintro dd rs E T ⟨i,o,i1,i2,rfl,i3⟩
    have hlt:i<(ds.take n).length:=by
     rcases mW i (ds.take n).length with w|w
     .exact w
     .rw[lM w]at i1;cases i1
    rw[kW hlt,kY]at i1
    injection i1 with z1 z2
    subst z1 z2
    have hlt':i<ds.length:=by simp at hlt;lia
    have hin:i<n:=by simp at hlt;lia
    have hg:(ds.take n)[i]=ds[i]:=List.getElem_take
    rw[hg]
    have inv:=h.at i
    have il:(ds.take i).length<=16:=by have:=h.len;simp;lia
    have can:=K7 h.good (jS hlt')
    obtain⟨T1,e1,s1⟩:=PK (S:=T) h.tr inv (by lia) can inv.sz.2 inv.hold
    obtain⟨T2,e2,s2⟩:=UU (S:=T1) h.tr inv (by lia) can
    have e3:=Ll (S:=T2) inv (by lia) can
    have rt:=Ju (t:=t) (st:=st0 t ls) (jS hlt')
    refine⟨_,[Gc (BS t ls ds),Gc (.int n),Gc t.d,Gc (.tup (ls.map Ld.d)),Gc (.tup (ds.map AS.d)),Gc (BH (runs t (st0 t ls) (ds.take (i+1))).AF),Gc (K3 (runs t (st0 t ls) (ds.take (i+1))).AF),Gc (shD (runs t (st0 t ls) (ds.take (i+1))).hold),Gc ds[i].d],T2,by simp;rfl,?_,i+1,Gc ds[i].d,rfl,hin,rfl,(i3.trans s1).trans s2⟩
    rw[rt]
    rw[<-So]at e1
    simp[e1,e2,e3])
 have hz:i=n:=by
  have:=congrArg qM f1
  simp at this
  lia
 subst hz
 refine⟨S',?_,f3⟩
 have fh:=KJ (S:=S) (ls:=ls) (x:=t.d) (y:=.tup (ds.map AS.d)) (by lia)
 have fo:=Ub (S:=S) (ls:=ls) (by lia)
 have fo':D.lst (ls.map λx=>shD x.ow)=K3 ls:=rfl
 have th:atI [D.int t.p,D.int t.k,D.int t.b,shD t.ho,D.int t.h,D.int t.l] 3=Gc (shD t.ho):=by simp
 simp only[BS]at ef⊢
 have td:wIx (.val t.d) (.val (.int 3))=Gc (.val (shD t.ho)):=by simp[Tr.d]
 have dt:dr S t.d=.val t.d:=rfl
 rw[oC]at ef ct
 simp[GN,Kx,fh,fo,fo',-Xm,td,dt,ct,ef]
theorem Mb{ls:Wp Ld}{ds:Wp AS}(h:GJ t ls ds):Ae [BS t ls ds] S=Gc (.non,S):=by
 have hl0:ls.length<=4:=h.inv.len
 have hd:=h.len
 obtain⟨E',S',ef,i,o1,o2,f1,f2,rfl,rfl⟩:=Hh (gs:=[]) (t:=tTp [tNm 3,tNm 4]) (b:=Ad (xIf (R1 (AM Ay [eV 1,eOp (JR false true) [eV 2,eV 3],eV 4])) (Ba (eV 3)) EC)
  (By 1 (AM Ag [eV 1,eV 4])))
  (I:=λrs E S'=>∃(i:Nat) (o1 o2:jO D),rs=(MV 0 (ds.map AS.d)).drop i/\i<=ds.length/\E=[Gc (BS t ls ds),Gc (BH (runs t (st0 t ls) (ds.take i)).AF),Gc (.tup (ds.map AS.d)),o1,o2]/\S'=S)
  (λ_ _ _ _=>A5) (ds:=MV 0 (ds.map AS.d)) (E:=[Gc (BS t ls ds),Gc (BH ls),Gc (.tup (ds.map AS.d)),none,none]) (S:=S)
  ⟨0,none,none,by simp,l9 _,by simp[runs,st0],rfl⟩ (by
    rintro dd rs E T ⟨i,o1,o2,i1,i2,rfl,rfl⟩
    have el:(MV 0 (ds.map AS.d)).length=ds.length:=by rw[J0];simp
    have hlt:i<ds.length:=by
     rcases mW i ds.length with w|w
     .exact w
     .rw[lM (by lia)]at i1;cases i1
    rw[kW (by lia)]at i1
    injection i1 with z1 z2
    have hd1:dd=.tup [.int i,ds[i].d]:=by
     have:=IM (ds:=ds.map AS.d) (k:=0) (i:=i)
     rw[jS (by lia),<-z1,jq,jS hlt]at this
     simpa using this
    subst z2
    subst hd1
    have inv:=h.at i
    have il:(ds.take i).length<=16:=by simp;lia
    have can:=K7 h.good (jS hlt)
    have cd:=Sx (S:=T) (ds:=ds.take i) (by lia) Of can
    have e3:=Ll (S:=T) inv (by lia) can
    have rt:=Ju (t:=t) (st:=st0 t ls) (jS hlt)
    have ct:=HK (ds:=ds.map AS.d) (n:=i) (by simp;lia)
    rw[oC]at cd
    refine⟨_,[Gc (BS t ls ds),Gc (BH (runs t (st0 t ls) (ds.take (i+1))).AF),Gc (.tup (ds.map AS.d)),Gc (.int i),Gc ds[i].d],T,by simp;rfl,?_,i+1,Gc (.int i),Gc ds[i].d,rfl,hlt,rfl,rfl⟩
    rw[rt]
    simp[ct,cd,e3])
 have fh:=KJ (S:=S') (ls:=ls) (x:=t.d) (y:=.tup (ds.map AS.d)) (by lia)
 simp only[BS]at ef⊢
 simp[Ae,Du,fh,ef]
theorem OU{ls:Wp Ld}{ds:Wp AS}(h:GJ t ls ds):A9 [BS t ls ds] S=Gc (.non,S):=by
 have e:=Mb (S:=S) h
 simp[A9,ES,e,isN]
theorem TQ{ls:Wp Ld}{ds:Wp AS}{n:Nat}(hn:n<=ds.length):Bs [BS t ls ds,.int n] S=Gc (.non,S):=by
 have h1:(n:Int)<=ds.length:=by lia
 have k1:St.Kd.int.isA "int"=true:=by decide
 have k2:St.Kd.int.isA "bool"=false:=by decide
 simp[k1,k2,Bs,FF,DF,HC,HF,JT,GK,IB,BS,kdW,h1]
theorem VB{ls:Wp Ld}{ds:Wp AS}{n:Nat}(h:GJ t ls ds)(hn:n<=ds.length):∃q S',Bc [BS t ls ds,.int n] S=Gc (.ref q,S')/\S'[q]?=Gc (.lst ((runs t (st0 t ls) (ds.take n)).AF.map Ld.d))/\DV [] S S'/\S.length<=q:=by
 obtain⟨S1,e1,s1⟩:=Uq (S:=S) h hn
 have r1:=OU (S:=S) h
 have r2:=TQ (S:=S) (t:=t) (ls:=ls) hn
 have inv:=(h.at n).len
 have hd:=h.len
 have il:(ds.take n).length<=16:=by simp;lia
 generalize runs t (st0 t ls) (ds.take n)=st at*
 have ez:NS (st.AF.map hD) (st.AF.map λx=>shD x.ow)=st.AF.map λx=>.tup [hD x,shD x.ow]:=by
  unfold NS
  rw[List.zip_map',k7]
  rfl
 have ec:=GA (gs:=[]) (t:=tTp [tTp [tNm 1,tNm 2],tNm 0]) (f:=CS [eV 1,eV 2,eV 0]) (C:=[]) (m:=3) (e:=λx:Ld=>D.tup [hD x,shD x.ow]) (g:=Ld.d) (S:=S1) A5 (xs:=st.AF) (acc:=[]) (os:=[none,none,none]) rfl (jY (show _<=50 by simp;lia) (AU (by decide))) (by
  intro x hx os ho
  obtain⟨q1,q2,q3,rfl⟩:=dD ho
  refine⟨[Gc (shD x.ow),Gc (.int x.k),Gc (.int x.n)],rfl,by simp,?_⟩
  simp[Ld.d])
 rw[<-ez]at ec
 simp only[kh]at ec
 refine⟨S1.length,S1++[.lst (st.AF.map Ld.d)],?_,jz,s1.trans .app,s1.len⟩
 simp[Bc,Hq,r1,r2,e1,ec]
end
section
variable{S:Sto}
theorem W0{ns:Wp Int}{k:Nat}:∃c,DH [.scr ns,.int k] S=Gc (.int c,S):=by
 by_cases h:k<ns.length
 .have h':(k:Int)<ns.length:=by lia
  refine⟨ns[k],?_⟩
  have e:atI (ns.map D.int) (k:Int)=Gc (.int ns[k]):=De (by rw[jq,jS h];rfl)
  simp[DH,G9,h,h',e]
 .have h':¬(k:Int)<ns.length:=by lia
  exact⟨0,by simp[DH,G9,h,h']⟩
end
theorem TB{gs:Gd}{t:Tf}{b:Ex}{I:Wp D->En->Sto->Prop}{R:D->Sto->Prop}(hg:∀ds E S,I ds E S->gOk gs S):∀{ds:Wp D} {E:En} {S:Sto},I ds E S->(∀d ds E S,I (d::ds) E S->∃E1,t d E S=Gc E1/\((∃E2 S2,b E1 S=Gc (.nx,E2,S2)/\I ds E2 S2)\/∃w E2 S2,b E1 S=Gc (.ret w,E2,S2)/\R w S2))->(∃E' S',MW gs t b ds E S=Gc (.nx,E',S')/\I [] E' S')\/∃w E' S',MW gs t b ds E S=Gc (.ret w,E',S')/\R w S'
 | [],E,S,hI,h=>.inl ⟨E,S,Nh (hg _ _ _ hI),hI⟩
 |d::ds,E,S,hI,h=>by
  obtain⟨E1,e1,⟨E2,S2,e2,I2⟩|⟨w,E2,S2,e2,r⟩⟩:=h d ds E S hI
  .rcases TB hg I2 h with⟨E',S',e3,I3⟩|⟨w,E',S',e3,r⟩
   .exact .inl ⟨E',S',by rw[Gp (hg _ _ _ hI),e1];simp[e2,e3],I3⟩
   .exact .inr ⟨w,E',S',by rw[Gp (hg _ _ _ hI),e1];simp[e2,e3],r⟩
  .exact .inr ⟨w,E2,S2,by rw[Gp (hg _ _ _ hI),e1];simp[e2],r⟩
def Wf(t:Tr):AS->Prop
 | .EB p k n=>p<t.p/\k<t.k/\1<=n/\n<2^131
 | .JZ a b=>a≠b
 | .swap _ g k n=>1<=g/\k<t.k/\1<=n/\n<2^131
 | .Dq u _ g k n=>1<=g/\k<t.k/\1<=n/\n<2^131/\0<=u/\u<=9
 | .FJ _ n=>1<=n
 | .thr _ n ws=>1<=n/\ws.length=t.k+1/\∀w∈ws,1<=w/\w<=99
 | .Iq p q x=>p≠q/\p<t.p/\q<t.p/\0<x.num/\x.num<=x.den/\x.den<=12
noncomputable def thB(st:Stt)(l:Nat)(n:Int):kG:=decide (l<st.AF.length) && decide (n<=(AR st.AF l).n)
noncomputable def swB(st:Stt)(l:Nat)(g:Int)(k:Nat):kG:=thB st l g && !((AR st.AF l).k==k)
noncomputable def Ih(st:Stt):AS->kG
 | .EB .. =>true
 | .JZ a b=>thB st a 1 && (thB st b 1 && ((AR st.AF a).k==(AR st.AF b).k))
 | .swap l g k _=>swB st l g k
 | .Dq u l g k _=> !(st.nums.any λx=>x==u) && swB st l g k
 | .FJ l n=>thB st l n
 | .thr l n _=>thB st l n
 | .Iq .. =>true
section
variable{S:Sto}{t:Tr}{st:Stt}
theorem ZI{us:Wp Int}{u:Int}:(us.any λx=>x==u)=false↔u∉us:=by
 rw[qL]
 constructor
 .intro h z
  exact h u z (by simp)
 .intro h x hx z
  have:x=u:=by simpa using z
  exact h (this▸hx)
theorem ZD{d:AS}(hw:Wf t d)(h:Ih st d=true):Can t st d:=by
 cases d with
 |EB p k n=>exact hw
 |JZ a b=>
  simp only[Ih,thB,jW,kQ,nB]at h
  obtain⟨⟨h1,h2⟩,⟨h3,h4⟩,h5⟩:=h
  exact⟨hw,h1,h3,by lia,by lia,h5⟩
 |swap l g k n=>
  simp only[Ih,swB,thB,jW,kQ,mV,mh,ne_eq]at h
  obtain⟨w1,w2,w3,w4⟩:=hw
  exact⟨h.1.1,w1,h.1.2,w2,λz=>h.2 z.symm,w3,w4⟩
 |Dq u l g k n=>
  simp only[Ih,swB,thB,jW,kQ,mV,mh,ne_eq]at h
  obtain⟨w1,w2,w3,w4,w5,w6⟩:=hw
  exact⟨h.2.1.1,w1,h.2.1.2,w2,λz=>h.2.2 z.symm,w3,w4,ZI.mp h.1,w5,w6⟩
 |FJ l n=>
  simp only[Ih,thB,jW,kQ]at h
  exact⟨h.1,hw,h.2⟩
 |thr l n ws=>
  simp only[Ih,thB,jW,kQ]at h
  exact⟨h.1,hw.1,h.2,hw.2⟩
 |Iq p q x=>exact hw
theorem We{d:AS}(h:Can t st d):Wf t d/\Ih st d=true:=by
 cases d with
 |EB p k n=>exact⟨h,rfl⟩
 |JZ a b=>
  obtain⟨h1,h2,h3,h4,h5,h6⟩:=h
  refine⟨h1,?_⟩
  simp only[Ih,thB,jW,kQ,nB]
  exact⟨⟨h2,by lia⟩,⟨h3,by lia⟩,h6⟩
 |swap l g k n=>
  obtain⟨h1,h2,h3,h4,h5,h6,h7⟩:=h
  refine⟨⟨h2,h4,h6,h7⟩,?_⟩
  simp only[Ih,swB,thB,jW,kQ,mV,mh,ne_eq]
  exact⟨⟨h1,h3⟩,λz=>h5 z.symm⟩
 |Dq u l g k n=>
  obtain⟨h1,h2,h3,h4,h5,h6,h7,h8,h9,h10⟩:=h
  refine⟨⟨h2,h4,h6,h7,h9,h10⟩,?_⟩
  simp only[Ih,swB,thB,jW,kQ,mV,mh,ne_eq]
  exact⟨ZI.mpr h8,⟨h1,h3⟩,λz=>h5 z.symm⟩
 |FJ l n=>
  obtain⟨h1,h2,h3⟩:=h
  refine⟨h2,?_⟩
  simp only[Ih,thB,jW,kQ]
  exact⟨h1,h3⟩
 |thr l n ws=>
  obtain⟨h1,h2,h3,h4⟩:=h
  refine⟨⟨h2,h4⟩,?_⟩
  simp only[Ih,thB,jW,kQ]
  exact⟨h1,h3⟩
 |Iq p q x=>exact⟨h,rfl⟩
theorem Nr{l:Nat}(h:l<st.AF.length):atI (st.AF.map hD) (l:Int)=Gc (hD (AR st.AF l)):=De (by rw[jq,EW h];rfl)
theorem MG{l:Nat}{n:Int}:BJ [BH st.AF,.int l,.int n] S=Gc (.bl (thB st l n),S):=by
 by_cases h:l<st.AF.length
 .have a:=Nr h
  have h':(l:Int)<(st.AF.length:Int):=by lia
  have e:thB st l n=decide (n<=(AR st.AF l).n):=by simp[thB,h]
  rw[e]
  simp[BJ,EY,BH,h',a,hD]
 .have h':¬(l:Int)<(st.AF.length:Int):=by lia
  have e:thB st l n=false:=by simp[thB,h]
  rw[e]
  simp[BJ,EY,BH,h']
theorem Ly{l:Nat}{n:Int}(h:thB st l n=true):l<st.AF.length:=by
 simp only[thB,jW,kQ]at h
 exact h.1
theorem LP{a b:Nat}:((a:Int)==(b:Int))=(a==b):=by
 rw[uT,nB,nB]
 exact Int.ofNat_inj
theorem Qz{l k:Nat}{g:Int}:CP [BH st.AF,.int l,.int g,.int k] S=Gc (.bl (swB st l g k),S):=by
 have e:=MG (S:=S) (st:=st) (l:=l) (n:=g)
 unfold swB
 cases h:thB st l g with
 |false=>
  rw[h]at e
  generalize BH st.AF=HD at*
  simp[CP,GD,e]
 |true=>
  rw[h]at e
  have a:=Nr (Ly h)
  simp only[BH]at e⊢
  have nb:=LP (a:=(AR st.AF l).k) (b:=k)
  generalize st.AF.map hD=HL at*
  simp[CP,GD,e,a,hD,nb]
theorem VW{a b:Nat}:CT [BH st.AF,.int a,.int b] S=Gc (.bl (thB st a 1 && (thB st b 1 && ((AR st.AF a).k==(AR st.AF b).k))),S):=by
 have e1:=MG (S:=S) (st:=st) (l:=a) (n:=1)
 have e2:=MG (S:=S) (st:=st) (l:=b) (n:=1)
 cases h:thB st a 1 with
 |false=>
  rw[h]at e1
  generalize BH st.AF=HD at*
  simp[CT,Ee,e1]
 |true=>
  rw[h]at e1
  cases h2:thB st b 1 with
  |false=>
   rw[h2]at e2
   generalize BH st.AF=HD at*
   simp[CT,Ee,e1,e2]
  |true=>
   rw[h2]at e2
   have a1:=Nr (Ly h)
   have a2:=Nr (Ly h2)
   have nb:=LP (a:=(AR st.AF a).k) (b:=(AR st.AF b).k)
   simp only[BH]at e1 e2⊢
   generalize st.AF.map hD=HL at*
   simp[CT,Ee,e1,e2,a1,a2,hD,nb]
theorem eS{ds:Wp AS}{d:AS}(hd:ds.length<=50)(hn:st.nums=ds.filterMap GY):Ay [BH st.AF,.tup (ds.map AS.d),d.d] S=Gc (.bl (Ih st d),S):=by
 cases d with
 |EB p kd n=>simp[Ay,BV,AS.d,Ih]
 |JZ i j=>
  have e:=VW (S:=S) (st:=st) (a:=i) (b:=j)
  simp[Ay,BV,AS.d,e,Ih]
 |swap i g kd n=>
  have e:=Qz (S:=S) (st:=st) (l:=i) (g:=g) (k:=kd)
  simp[Ay,BV,AS.d,e,Ih]
 |Dq u i g kd n=>
  have e:=Qz (S:=S) (st:=st) (l:=i) (g:=g) (k:=kd)
  have tc:=Jd (S:=S) (ds:=ds) (acc:=[]) (o:=none) (by simp;lia)
  rw[<-hn]at tc
  have fi:=Js (us:=st.nums)
  have ii:=LD (us:=st.nums) (i:=u)
  have cb:Ih st (.Dq u i g kd n)=(!(st.nums.any λx=>x==u) && swB st i g kd):=rfl
  rw[cb]
  generalize st.nums.map D.int=ud at*
  generalize (st.nums.any λx=>x==u)=q at*
  rw[kh]at tc
  cases q<;>simp[Ay,BV,AS.d,tc,fi,ii,e]
 |FJ i n=>
  have e:=MG (S:=S) (st:=st) (l:=i) (n:=n)
  simp[Ay,BV,AS.d,e,Ih]
 |thr i n ws=>
  have e:=MG (S:=S) (st:=st) (l:=i) (n:=n)
  simp[Ay,BV,AS.d,e,Ih]
 |Iq p q x=>simp[Ay,BV,AS.d,Ih]
variable{s l m:Nat}{as:Wp Nat}
theorem OZ(hS:SAt S s l m as st){i:Nat}(h:i<st.AF.length):∃a,atI (as.map D.ref) (i:Int)=Gc (.ref a)/\dr S (.ref a)=.own [.int (AR st.AF i).k,.int (AR st.AF i).n,shD (AR st.AF i).ow]:=by
 have hl:=hS.len
 refine⟨as[i]'(by lia),De (by rw[jq,jS (by lia)];rfl),?_⟩
 exact A7 (hS.ld i _ _ (jS (by lia)) (EW h))
theorem KA(hS:SAt S s l m as st){i:Nat}{n:Int}:Cn [.ref l,.int i,.int n] S=Gc (.bl (thB st i n),S):=by
 have d:=A7 hS.lo
 have hl:=hS.len
 by_cases h:i<st.AF.length
 .obtain⟨a,a1,a2⟩:=OZ hS h
  have h':(i:Int)<(as.length:Int):=by lia
  have e:thB st i n=decide (n<=(AR st.AF i).n):=by simp[thB,h]
  rw[e]
  simp[Cn,JO,d,h',a1,a2]
 .have h':¬(i:Int)<(as.length:Int):=by lia
  have e:thB st i n=false:=by simp[thB,h]
  rw[e]
  simp[Cn,JO,d,h']
end
section
variable{S:Sto}{t:Tr}{st:Stt}{s l m:Nat}{as:Wp Nat}
theorem eR{d:AS}(hS:SAt S s l m as st):Bo [.ref s,d.d] S=Gc (.bl (Ih st d),S):=by
 have r0:=AX hS.root
 have lo:=A7 hS.lo
 cases d with
 |EB p kd n=>simp[Bo,CN,AS.d,Ih,r0]
 |Iq p q x=>simp[Bo,CN,AS.d,Ih,r0]
 |FJ i n=>
  have e:=KA hS (i:=i) (n:=n)
  simp[Bo,CN,AS.d,Ih,r0,e]
 |thr i n ws=>
  have e:=KA hS (i:=i) (n:=n)
  simp[Bo,CN,AS.d,Ih,r0,e]
 |JZ i j=>
  have e1:=KA hS (i:=i) (n:=1)
  have e2:=KA hS (i:=j) (n:=1)
  have cb:Ih st (.JZ i j)=(thB st i 1 && (thB st j 1 && ((AR st.AF i).k==(AR st.AF j).k))):=rfl
  rw[cb]
  cases h1:thB st i 1 with
  |false=>
   rw[h1]at e1
   simp[Bo,CN,AS.d,r0,e1]
  |true=>
   rw[h1]at e1
   cases h2:thB st j 1 with
   |false=>
    rw[h2]at e2
    simp[Bo,CN,AS.d,r0,e1,e2]
   |true=>
    rw[h2]at e2
    obtain⟨a,a1,a2⟩:=OZ hS (Ly h1)
    obtain⟨b,b1,b2⟩:=OZ hS (Ly h2)
    have nb:=LP (a:=(AR st.AF i).k) (b:=(AR st.AF j).k)
    generalize (as.map D.ref)=refs at*
    simp[Bo,CN,AS.d,r0,e1,e2,lo,a1,b1,a2,b2,nb]
 |swap i g kd n=>
  have e:=KA hS (i:=i) (n:=g)
  have cb:Ih st (.swap i g kd n)=(thB st i g && !((AR st.AF i).k==kd)):=rfl
  rw[cb]
  cases h1:thB st i g with
  |false=>
   rw[h1]at e
   simp[Bo,CN,AS.d,r0,e]
  |true=>
   rw[h1]at e
   obtain⟨a,a1,a2⟩:=OZ hS (Ly h1)
   have nb:=LP (a:=(AR st.AF i).k) (b:=kd)
   generalize (as.map D.ref)=refs at*
   simp[Bo,CN,AS.d,r0,e,lo,a1,a2,nb]
 |Dq u i g kd n=>
  have e:=KA hS (i:=i) (n:=g)
  have nu:=A7 hS.nu
  have fi:=Js (us:=st.nums)
  have ii:=LD (us:=st.nums) (i:=u)
  have cb:Ih st (.Dq u i g kd n)=(!(st.nums.any λx=>x==u) && (thB st i g && !((AR st.AF i).k==kd))):=rfl
  rw[cb]
  generalize st.nums.map D.int=ud at*
  generalize (st.nums.any λx=>x==u)=bb at*
  cases bb with
  |true=>simp[Bo,CN,AS.d,r0,nu,fi,ii]
  |false=>
   cases h1:thB st i g with
   |false=>
    rw[h1]at e
    simp[Bo,CN,AS.d,r0,e,nu,fi,ii]
   |true=>
    rw[h1]at e
    obtain⟨a,a1,a2⟩:=OZ hS (Ly h1)
    have nb:=LP (a:=(AR st.AF i).k) (b:=kd)
    generalize (as.map D.ref)=refs at*
    simp[Bo,CN,AS.d,r0,e,lo,a1,a2,nb,nu,fi,ii]
end
structure Up(t:Tr)(ls:Wp Ld)(ds:Wp AS)(i:Nat):Prop where
 tr:JY t
 inv:F7 t 0 (st0 t ls)
 len:ds.length<=16
 le:i<=ds.length
 good:K4 t (st0 t ls) (ds.take i)
 bad:∀d,ds[i]?=Gc d->Ih (runs t (st0 t ls) (ds.take i)) d=false
theorem Wa{t:Tr}:∀{ds:Wp AS} {st:Stt},(∀d∈ds,Wf t d)->∃i,i<=ds.length/\K4 t st (ds.take i)/\∀d,ds[i]?=Gc d->Ih (runs t st (ds.take i)) d=false
 | [],st,_=>⟨0,ja _,trivial,λ_ h=>nomatch h⟩
 |d::ds,st,h=>by
  cases c:Ih st d with
  |false=>exact⟨0,l9 _,trivial,λx hx=>by simp at hx;subst hx;exact c⟩
  |true=>
   obtain⟨i,h1,h2,h3⟩:=Wa (t:=t) (ds:=ds) (st:=step t st d) λx hx=>h x (jf _ hx)
   exact⟨i+1,by simp;exact h1,⟨ZD (h d jr) c,h2⟩,λx hx=>h3 x (by simpa using hx)⟩
theorem cX{t:Tr}{ls:Wp Ld}{ds:Wp AS}(h1:JY t)(h2:F7 t 0 (st0 t ls))(h3:ds.length<=16)(h4:∀d∈ds,Wf t d):∃i,Up t ls ds i:=by
 obtain⟨i,g1,g2,g3⟩:=Wa (t:=t) (st:=st0 t ls) h4
 exact⟨i,h1,h2,h3,g1,g2,g3⟩
noncomputable def LF(ds:Wp AS)(i:Nat):D:=if i<ds.length then .int i else .non
section
variable{S:Sto}{t:Tr}{ls:Wp Ld}{ds:Wp AS}{i j:Nat}
theorem Up.bk(h:Up t ls ds i):GJ t ls (ds.take i):=⟨h.tr,h.inv,h.good,by have:=h.len;simp;lia⟩
theorem Up.at(h:Up t ls ds i)(hj:j<=i):F7 t j (runs t (st0 t ls) (ds.take j)):=by
 have:=h.bk.at j
 rw[vA,pS hj,oy,pS (by have:=h.le;lia)]at this
 exact this
theorem Up.can(h:Up t ls ds i)(hj:j<i){d:AS}(hd:ds[j]?=Gc d):Can t (runs t (st0 t ls) (ds.take j)) d:=by
 have:=K7 (i:=j) (d:=d) h.good (by rw[qT hj];exact hd)
 rwa [vA,pS (pU hj)]at this
theorem Up.cb(h:Up t ls ds i)(hj:j<=i){d:AS}(hd:ds[j]?=Gc d):Ih (runs t (st0 t ls) (ds.take j)) d=decide (j<i):=by
 rcases mW j i with w|w
 .rw[(We (h.can w hd)).2];simp[w]
 .have e:j=i:=by lia
  subst e
  rw[h.bad d hd];simp
theorem TF(h:GJ t ls ds):Up t ls ds ds.length:=⟨h.tr,h.inv,h.len,ja _,by rw[List.take_length];exact h.good,λd hd=>by simp at hd⟩
theorem U5(h:Up t ls ds i):Ae [BS t ls ds] S=Gc (LF ds i,S):=by
 have hl0:ls.length<=4:=h.inv.len
 have hd:=h.len
 have hi:=h.le
 have el:(MV 0 (ds.map AS.d)).length=ds.length:=by rw[J0];simp
 have fo:=TB (gs:=[]) (t:=tTp [tNm 3,tNm 4]) (b:=Ad (xIf (R1 (AM Ay [eV 1,eOp (JR false true) [eV 2,eV 3],eV 4])) (Ba (eV 3)) EC)
  (By 1 (AM Ag [eV 1,eV 4])))
  (I:=λrs E S'=>∃(j:Nat) (o1 o2:jO D),rs=(MV 0 (ds.map AS.d)).drop j/\j<=i/\E=[Gc (BS t ls ds),Gc (BH (runs t (st0 t ls) (ds.take j)).AF),Gc (.tup (ds.map AS.d)),o1,o2]/\S'=S)
  (R:=λw S'=>w=.int i/\i<ds.length/\S'=S)
  (λ_ _ _ _=>A5) (ds:=MV 0 (ds.map AS.d)) (E:=[Gc (BS t ls ds),Gc (BH ls),Gc (.tup (ds.map AS.d)),none,none]) (S:=S)
  ⟨0,none,none,by simp,l9 _,by simp[runs,st0],rfl⟩ (by
    rintro dd rs E T ⟨j,o1,o2,i1,i2,rfl,rfl⟩
    have hlt:j<ds.length:=by
     rcases mW j ds.length with w|w
     .exact w
     .rw[lM (by lia)]at i1;cases i1
    rw[kW (by lia)]at i1
    injection i1 with z1 z2
    have hd1:dd=.tup [.int j,ds[j].d]:=by
     have:=IM (ds:=ds.map AS.d) (k:=0) (i:=j)
     rw[jS (by lia),<-z1,jq,jS hlt]at this
     simpa using this
    subst z2
    subst hd1
    have inv:=h.at i2
    have cd:=eS (S:=T) (st:=runs t (st0 t ls) (ds.take j)) (ds:=ds.take j) (d:=ds[j]) (by simp;lia) Of
    rw[h.cb i2 (jS hlt)]at cd
    have ct:=HK (ds:=ds.map AS.d) (n:=j) (by simp;lia)
    rw[oC]at cd
    refine⟨_,by simp;rfl,?_⟩
    rcases mW j i with w|w
    .have can:=h.can w (jS hlt)
     have e3:=Ll (S:=T) inv (by lia) can
     have rt:=Ju (t:=t) (st:=st0 t ls) (jS hlt)
     refine .inl ⟨[Gc (BS t ls ds),Gc (BH (runs t (st0 t ls) (ds.take (j+1))).AF),Gc (.tup (ds.map AS.d)),Gc (.int j),Gc ds[j].d],T,?_,j+1,Gc (.int j),Gc ds[j].d,rfl,w,rfl,rfl⟩
     rw[rt]
     simp[ct,cd,e3,w]
    .have e:j=i:=by lia
     subst e
     refine .inr ⟨.int j,[Gc (BS t ls ds),Gc (BH (runs t (st0 t ls) (ds.take j)).AF),Gc (.tup (ds.map AS.d)),Gc (.int j),Gc ds[j].d],T,?_,rfl,hlt,rfl⟩
     simp[ct,cd])
 have fh:=KJ (S:=S) (ls:=ls) (x:=t.d) (y:=.tup (ds.map AS.d)) (by lia)
 rcases fo with⟨E',S',ef,j,o1,o2,f1,f2,rfl,rfl⟩|⟨w,E',S',ef,rfl,f1,rfl⟩
 .have hz:=congrArg qM f1
  rw[pA,el]at hz
  simp at hz
  have e:LF ds i=.non:=by unfold LF;rw[kC (by lia)]
  rw[e]
  simp only[BS]at ef⊢
  simp[Ae,Du,fh,ef]
 .have e:LF ds i=.int i:=by unfold LF;rw[kJ f1]
  rw[e]
  simp only[BS]at ef⊢
  simp[Ae,Du,fh,ef]
theorem dI(h:Up t ls ds i):∃S',EL [BS t ls ds] S=Gc (LF ds i,S')/\DV [] S S':=by
 have hl0:ls.length<=4:=h.inv.len
 have hd:=h.len
 have hi:=h.le
 have el:(MV 0 (ds.map AS.d)).length=ds.length:=by rw[J0];simp
 obtain⟨s,l,m,as,S1,e1,hS,sm,hn⟩:=QS (S:=S) (t:=t) (ls:=ls) (x:=.tup (ds.map AS.d)) (by lia)
 have hS:SAt S1 s l m as (st0 t ls):=hS
 have fo:=TB (gs:=[]) (t:=tTp [tNm 2,tNm 3]) (b:=Ad (xIf (R1 (AM Bo [eV 1,eV 3])) (Ba (eV 2)) EC)
  (Df (AM Bf [eIx (eV 0) (eI 0),eV 1,eV 3])))
  (I:=λrs E S'=>∃(j:Nat) (as':Wp Nat) (o1 o2:jO D),rs=(MV 0 (ds.map AS.d)).drop j/\j<=i/\E=[Gc (BS t ls ds),Gc (.ref s),o1,o2]/\SAt S' s l m as' (runs t (st0 t ls) (ds.take j))/\(∀n∈s::l::m::as',S.length<=n)/\DV [] S S')
  (R:=λw S'=>w=.int i/\i<ds.length/\DV [] S S')
  (λ_ _ _ _=>A5) (ds:=MV 0 (ds.map AS.d)) (E:=[Gc (BS t ls ds),Gc (.ref s),none,none]) (S:=S1)
  ⟨0,as,none,none,by simp,l9 _,rfl,hS,hn,sm⟩ (by
    rintro dd rs E T ⟨j,as',o1,o2,i1,i2,rfl,i4,i6,i7⟩
    have hlt:j<ds.length:=by
     rcases mW j ds.length with w|w
     .exact w
     .rw[lM (by lia)]at i1;cases i1
    rw[kW (by lia)]at i1
    injection i1 with z1 z2
    have hd1:dd=.tup [.int j,ds[j].d]:=by
     have:=IM (ds:=ds.map AS.d) (k:=0) (i:=j)
     rw[jS (by lia),<-z1,jq,jS hlt]at this
     simpa using this
    subst z2
    subst hd1
    have inv:=h.at i2
    have cd:=eR (d:=ds[j]) i4
    rw[h.cb i2 (jS hlt)]at cd
    refine⟨_,by simp;rfl,?_⟩
    rcases mW j i with w|w
    .have can:=h.can w (jS hlt)
     obtain⟨T2,as2,k1,k2,k3,k4⟩:=aY i4 h.tr inv (by lia) can
     rw[<-Ju (jS hlt)]at k2
     have lS:=i7.len
     refine .inl ⟨[Gc (BS t ls ds),Gc (.ref s),Gc (.int j),Gc ds[j].d],T2,?_,j+1,as2,Gc (.int j),Gc ds[j].d,rfl,w,rfl,k2,?_,?_⟩
     .simp only[BS]
      simp[cd,w,k1]
     .intro n hn
      simp only[jX]at hn i6
      rcases hn with rfl|rfl|rfl|hn
      .exact i6 _ (.inl rfl)
      .exact i6 _ (.inr (.inl rfl))
      .exact i6 _ (.inr (.inr (.inl rfl)))
      .rcases k4 n hn with z|z
       .exact i6 _ (.inr (.inr (.inr z)))
       .lia
     .exact DV.new (A:=[]) i7 k3 i6
    .have e:j=i:=by lia
     subst e
     refine .inr ⟨.int j,[Gc (BS t ls ds),Gc (.ref s),Gc (.int j),Gc ds[j].d],T,?_,rfl,hlt,i7⟩
     simp[cd])
 rcases fo with⟨E',S',ef,j,as',o1,o2,f1,f2,rfl,f3,f4,f5⟩|⟨w,E',S',ef,rfl,f1,f5⟩
 .have hz:=congrArg qM f1
  rw[pA,el]at hz
  simp at hz
  have e:LF ds i=.non:=by unfold LF;rw[kC (by lia)]
  rw[e]
  refine⟨S',?_,f5⟩
  simp only[BS]at ef⊢
  simp[EL,JK,e1,ef]
 .have e:LF ds i=.int i:=by unfold LF;rw[kJ f1]
  rw[e]
  refine⟨S',?_,f5⟩
  simp only[BS]at ef⊢
  simp[EL,JK,e1,ef]
end
section
variable{E:En}{S:Sto}{r r1 r2:Rx}{f:Ex}{k:Ev}{R:Rf}{fs:Wp Ev}{x:Str}
noncomputable def nxR(r2:Rx)(q:Fl×En×Sto):jO (Tg×En×Sto):=match q.1 with
 | .nx=>r2 q.2.1 q.2.2
 | .ret _=>none
theorem Zj:nxR r2 (.nx,E,S)=r2 E S:=nr rfl
theorem QI:YD r f r2 E S=(r E S).or ((f E S).bind (nxR r2)):=by
 unfold YD
 cases r E S with
 |some z=>exact nr rfl
 |none=>exact nr rfl
theorem Xz:rNo E S=none:=nr rfl
noncomputable def ifR(r1 r2:Rx)(E:En)(q:D×Sto):jO (Tg×En×Sto):=match q.1 with
 | .bl true=>r1 E q.2
 | .bl false=>r2 E q.2
 |_=>none
theorem cx:ifR r1 r2 E (.bl true,S)=r1 E S:=nr rfl
theorem Wh:rIf k r1 r2 E S=(k E S).bind (ifR r1 r2 E):=nr rfl
theorem PF:O1 R fs E S=(evs fs E S).bind λq=>(R q.1 q.2).map λz=>(z.1,E,z.2):=nr rfl
theorem P2:Ph x k E S=(k E S).bind (bM x E):=nr rfl
theorem fS{N:Nat}{ds:Wp D}:Av (Rj N r) ds S=(r (ds.map Gc++jg (N-ds.length) none) S).map λq=>(q.1,q.2.2):=by
 rw[OL];rfl
theorem Ro:Kf E S=none:=nr rfl
theorem Vw{n:Int}(h:n.natAbs.log2<1920):bM x E (.int n,S)=Gc (⟨x,Gc n⟩,E,S):=by
 show(if _ then _ else _)=_
 rw[kJ h]
end
section
variable{S:Sto}{t:Tr}{ls:Wp Ld}{ds:Wp AS}{i j:Nat}
theorem My(h:Up t ls ds i):∃S',B4 [BS t ls ds] S=Gc (LF ds i,S')/\DV [] S S':=by
 have hl:=h.le
 by_cases c:i<ds.length
 .have e:=U5 (S:=S) h
  have ed:LF ds i=.int i:=by unfold LF;rw[kJ c]
  rw[ed]at e⊢
  have lg:(i:Int).natAbs.log2<1920:=by
   by_cases z:i=0
   .subst z;decide
   .rw[xW (by lia)]
    have hd:=h.len
    exact jV (show(i:Int).natAbs<2^10 by lia) (ky (by decide) (by decide))
  have r1:A9 [BS t ls ds] S=none:=by
   simp[A9,ES,e,isN,Ro]
  have r2:C7 [BS t ls ds] S=Gc (⟨"NotDone",Gc (i:Int)⟩,S):=by
   simp[C7,Gy,fS,QI,Xz,Zj,Wh,P2,e,isN,cx,Vw lg]
  have r3:C3 [BS t ls ds,.int 0] S=Gc (⟨"NotDone",Gc (i:Int)⟩,S):=by
   simp[C3,Kj,fS,QI,PF,r2]
  have r4:Bc [BS t ls ds,.int 0] S=none:=by
   simp[Bc,Hq,r1]
  refine⟨S,?_,.refl⟩
  generalize BS t ls ds=bk at*
  have e1:(Wi (Df (AM Bc [eV 0,eI 0])) (O1 C3 [eV 0,eI 0]) (gAs ["NotDone"] "NotDone" (λn=>.int n) gNo)) [Gc bk,none] S=Gc (.ret (.int i),[Gc bk,none],S):=by
   unfold Wi
   have q1:(Df (AM Bc [eV 0,eI 0])) [Gc bk,none] S=none:=by simp[r4]
   have q2:(O1 C3 [eV 0,eI 0]) [Gc bk,none] S=Gc (⟨"NotDone",Gc (i:Int)⟩,[Gc bk,none],S):=by simp[PF,r3]
   rw[q1,q2]
   show(gAs ["NotDone"] "NotDone" (λn=>.int n) gNo) ⟨"NotDone",Gc (i:Int)⟩ _ _=_
   unfold gAs
   simp
  simp[B4,G7,e1]
 .have ed:LF ds i=.non:=by unfold LF;rw[kC c]
  rw[ed]
  have hb:=h.bk
  rw[l7 (by lia)]at hb
  obtain⟨q,S',e,_,sm,_⟩:=VB (S:=S) (n:=0) hb (l9 _)
  refine⟨S',?_,sm⟩
  generalize BS t ls ds=bk at*
  have e':Bc [bk,.int 0] S=Gc (.ref q,S'):=e
  have e1:(Wi (Df (AM Bc [eV 0,eI 0])) (O1 C3 [eV 0,eI 0]) (gAs ["NotDone"] "NotDone" (λn=>.int n) gNo)) [Gc bk,none] S=Gc (.nx,[Gc bk,none],S'):=by
   unfold Wi
   have q1:(Df (AM Bc [eV 0,eI 0])) [Gc bk,none] S=Gc (.nx,[Gc bk,none],S'):=by simp[e']
   rw[q1]
  simp[B4,G7,e1]
end
section
variable{S:Sto}{t:Tr}{p:Nat}
theorem X0{d:D}{k:Nat}{i:Int}(e:i=k)(h1:1<=k)(h2:k<=100):CW (.val (.tup [d])) (.val (.int i))=Gc (.val (.tup (jg k d))):=by
 subst e
 have hz:k<=sizeLine:=jY h2 (AU (by decide))
 have e1:¬(k:Int)<=0:=by lia
 have e2:(1:Int)<=k:=by lia
 rw[QO,kC (by simp;lia),kJ (by simp[hz];lia),oY,List.flatten_replicate_singleton]
theorem ZS(ht:JY t)(hp:CV p S){M:Nat}(hM:M<=100):∃d S',Cd [.ref p,t.d,.int M] S=Gc (AS.d d,S')/\Pn p S S'/\Wf t d:=by
 obtain⟨t1,t2,t3,t4,t5,t6⟩:=ht
 obtain⟨r1,S1,d1,a1,b1,p1⟩:=Ai hp (n:=(M:Int)+2) (by lia) (by lia)
 obtain⟨r2,S2,d2,a2,b2,p2⟩:=Ai p1.pen (n:=(M:Int)+2) (by lia) (by lia)
 obtain⟨r3,S3,d3,a3,b3,p3⟩:=Ai p2.pen (n:=4) (by lia) (by lia)
 obtain⟨r4,S4,d4,a4,b4,p4⟩:=Ai p3.pen (n:=(t.k:Int)) (by lia) (by lia)
 obtain⟨r5,S5,d5,a5,b5,p5⟩:=Ai p4.pen (n:=3) (by lia) (by lia)
 obtain⟨r6,S6,d6,a6,b6,p6⟩:=Ai p5.pen (n:=5) (by lia) (by lia)
 obtain⟨i,rfl⟩:=m8 a1
 obtain⟨j,rfl⟩:=m8 a2
 obtain⟨kd,rfl⟩:=m8 a4
 have pw:YZ (.val (.int 10)) (.val (.int 31))=Gc (.val (.int (10^31))):=by with_unfolding_all rfl
 obtain⟨g,hg,g1,g2⟩:∃g:Int,atI [D.int 1,.int 2,.int 40,.int (10^31)] r3=Gc (.int g)/\1<=g/\g<2^131:=by
  obtain⟨x,e,m⟩:=pick (xs:=[.int 1,.int 2,.int 40,.int (10^31)]) (r:=r3) a3 (by simpa using b3)
  simp only[jX,jt,kr]at m
  rcases m with rfl|rfl|rfl|rfl
  .exact⟨_,e,by decide,by decide⟩
  .exact⟨_,e,by decide,by decide⟩
  .exact⟨_,e,by decide,by decide⟩
  .exact⟨_,e,by decide,by decide⟩
 have ij:∃j':Nat,(j:Int)+(if(i:Int)=(j:Int)then 1 else 0)=j'/\i≠j':=by
  by_cases c:i=j
  .subst c;exact⟨i+1,by simp,by lia⟩
  .exact⟨j,by rw[kC (by lia)];simp,c⟩
 obtain⟨j',ej,nj⟩:=ij
 have rt:=X0 (d:=.int 1) (k:=t.k+1) (i:=(t.k:Int)+1) (by lia) (by lia) (by lia)
 have rr:jg (t.k+1) (D.int 1)=(jg (t.k+1) (1:Int)).map D.int:=by simp
 rw[rr]at rt
 have s1:(1:Nat)<=sizeLine:=AU (by decide)
 have s3:(3:Nat)<=sizeLine:=AU (by decide)
 have s4:(4:Nat)<=sizeLine:=AU (by decide)
 have s5:(5:Nat)<=sizeLine:=AU (by decide)
 have s6:(6:Nat)<=sizeLine:=AU (by decide)
 have s2:(2:Nat)<=sizeLine:=AU (by decide)
 obtain⟨x,ex,mx⟩:=pick (xs:=[(AS.JZ i j').d,(AS.swap i g kd 3).d,(AS.FJ i g).d,(AS.Dq r5 i g kd 3).d,(AS.thr i g (jg (t.k+1) 1)).d]) (r:=r6) a6 (by simpa using b6)
 have hx:∃d,x=AS.d d/\Wf t d:=by
  simp only[jX,jt,kr]at mx
  rcases mx with rfl|rfl|rfl|rfl|rfl
  .exact⟨_,rfl,nj⟩
  .exact⟨_,rfl,g1,by lia,by decide,by decide⟩
  .exact⟨_,rfl,g1⟩
  .exact⟨_,rfl,g1,by lia,by decide,by decide,a5,by lia⟩
  .refine⟨_,rfl,g1,by simp,λw hw=>?_⟩
   rw[List.eq_of_mem_replicate hw]
   exact⟨by decide,by decide⟩
 obtain⟨d,rfl,hw⟩:=hx
 refine⟨d,S6,?_,((((p1.trans p2).trans p3).trans p4).trans p5).trans p6,hw⟩
 generalize hR:(jg (t.k+1) (1:Int))=RL at*
 clear rr
 generalize d.d=dd at*
 simp only[AS.d]at ex
 generalize RL.map D.int=RD at*
 generalize (10:Int)^31=T31 at*
 simp[Cd,Ij,Tr.d,d1,d2,d3,d4,d5,d6,-U7,pw,hg,-QO,rt,s1,s2,s3,s4,s5,s6,ej,ex]
end
section
variable{S:Sto}{t:Tr}{ls:Wp Ld}{ds:Wp AS}{p i:Nat}
theorem VL{α:Type}{xs:Wp α}{n:Nat}(h:xs.length<=n):Kh xs none (Gc (n:Int))=xs:=O4 rfl (by
 unfold HT.sIx
 have:¬((n:Int)<0):=by lia
 simp[this]
 lia)
theorem QP{α:Type}{xs:Wp α}{y:α}:Kh (xs++[y]) (Gc (-1)) none=[y]:=by
 have e:HT.sIx (xs++[y]).length 0 (Gc (-1))=xs.length:=by
  unfold HT.sIx
  simp
  lia
 unfold Kh
 rw[e]
 simp[HT.sIx]
theorem TX{f g:Ev}{E:En}:bG f g E S=(f E S).bind (ZJ g E):=nr rfl
theorem Us{g:Ev}{E:En}:ZJ g E (.tup [],S)=g E S:=nr rfl
theorem Uj{g:Ev}{E:En}{x:D}{xs:Wp D}:ZJ g E (.tup (x::xs),S)=Gc (.tup (x::xs),S):=nr rfl
theorem XA{α:Type}:∀{xs:Wp α},xs≠[]->∃ys y,xs=ys++[y]
 |xs,h=>⟨xs.dropLast,xs.getLast h,(List.dropLast_concat_getLast h).symm⟩
def U2:Ev:=(eOp (JR true false) [bG (eOp (JR false true) [eV 6,eOp (o2 C4) [eV 8,eI 1]]) (CS [CS [eC (.str "bring"),eI 0,eI 0,eI 1]]),eOp (o1 R3) [eI 1]])
theorem XY{e0 e1 e2 e3 e4 e5 e7 e9 e10 e11 e12 e13:jO D}{k:Nat}(ht:JY t)(hw:∀d∈ds,Wf t d):∃x,U2 [e0,e1,e2,e3,e4,e5,Gc (.tup (ds.map AS.d)),e7,Gc (.int k),e9,e10,e11,e12,e13] S=Gc (.tup [AS.d x],S)/\Wf t x:=by
 have n1:R3 (.val (.int 1))=Gc (.val (.int (-1))):=rfl
 have s1:(1:Nat)<=sizeLine:=AU (by decide)
 have s4:(4:Nat)<=sizeLine:=AU (by decide)
 have ct:Kh (ds.map AS.d) none (Gc ((k:Int)+1))=(ds.take (k+1)).map AS.d:=by
  rcases mW (k+1) ds.length with w|w
  .have:=HK (ds:=ds.map AS.d) (n:=k+1) (by simp;lia)
   rw[<-oC]at this
   exact_mod_cast this
  .have:=VL (xs:=ds.map AS.d) (n:=k+1) (by simpa using w)
   rw[l7 w]
   exact_mod_cast this
 by_cases c:ds=[]
 .subst c
  refine⟨.EB 0 0 1,?_,?_,?_,by decide,by decide⟩
  .have c1:Kh [D.tup [D.str "bring",.int 0,.int 0,.int 1]] (Gc (-1)) none=[.tup [.str "bring",.int 0,.int 0,.int 1]]:=QP (xs:=[])
   simp only[mS,List.take_nil]at ct
   simp[U2,TX,ct,Us,n1,s1,s4,c1,AS.d]
  .have:=ht.1;lia
  .have:=ht.2.2.1;lia
 .obtain⟨ys,y,e⟩:=XA (xs:=ds.take (k+1)) (by
   cases ds with
   |nil=>exact absurd rfl c
   |cons a b=>simp)
  have my:y∈ds:=rR (i:=k+1) (by rw[e];simp)
  refine⟨y,?_,hw y my⟩
  rw[e,nG]at ct
  have cl:=QP (xs:=ys.map AS.d) (y:=AS.d y)
  have ne:∃z zs,ys.map AS.d++[y].map AS.d=z::zs:=by
   cases ys with
   |nil=>exact⟨_,_,rfl⟩
   |cons a b=>exact⟨_,_,rfl⟩
  obtain⟨z,zs,ez⟩:=ne
  rw[ez]at ct
  have ez':ys.map AS.d++[AS.d y]=z::zs:=ez
  rw[ez']at cl
  generalize ds.map AS.d=DD at*
  generalize AS.d y=yd at*
  simp[U2,TX,ct,Uj,n1,s1,s4,cl]
theorem Ta:∀{ds:Wp AS} {st:Stt},K4 t st ds->∀d∈ds,Wf t d
 | [],_,_,d,hd=>nomatch hd
 |x::ds,st,h,d,hd=>by
  rcases jX.mp hd with rfl|w
  .exact(We h.1).1
  .exact Ta h.2 d w
theorem eT(hl:ds.length<=50):Ce [] (tNm 0) (eOp (o2 wEq) [eOp (o2 wIx) [eV 0,eC (.int 0)],eC (.str "throw")]) (eV 0) (ds.map AS.d) [] [none] S=Gc ((ds.filter GO).map AS.d,S):=
 F3 (gs:=[]) (t:=tNm 0) (f:=eV 0) (C:=[]) (m:=1) (e:=AS.d) (g:=AS.d) (b:=GO) (S:=S) A5 (xs:=ds) (acc:=[]) (os:=[none]) rfl (jY (show _<=50 by simp;lia) (AU (by decide))) (by
  intro d _ os ho
  obtain⟨o1,rfl⟩:=UT ho
  exact⟨[Gc d.d],rfl,by simp,QN d _ rfl,by simp⟩)
def Vh:Ex:=(Ad (By 12 (CS [eV 4,eV 5,eV 11]))
    (Ad (By 13 (AM EL [eV 12]))
    (Ad (xIf (eOr (eOp (o2 wNe) [AM Ae [eV 12],eV 13]) (eOp (o2 wNe) [AM B4 [eV 12],eV 13])) (Ba (eC (.bl false))) EC)
    (xIf (Jr (eOp (o2 (Ry true)) [eV 13,eC .non]) (eOp (o2 (Ry true)) [AM Ae [CS [eV 4,eV 5,eOp (JR false true) [eV 11,eV 13]]],eC .non])) (Ba (eC (.bl false))) EC))))
theorem Xt{e0 e1 e2 e3 e6 e7 e8 e9 e10 e12 e13:jO D}(h:Up t ls ds i):∃u12 u13 S',Vh [e0,e1,e2,e3,Gc t.d,Gc (.tup (ls.map Ld.d)),e6,e7,e8,e9,e10,Gc (.tup (ds.map AS.d)),e12,e13] S=Gc (.nx,[e0,e1,e2,e3,Gc t.d,Gc (.tup (ls.map Ld.d)),e6,e7,e8,e9,e10,Gc (.tup (ds.map AS.d)),u12,u13],S')/\DV [] S S':=by
 obtain⟨S1,w1,s1⟩:=dI (S:=S) h
 have w2:=U5 (S:=S1) h
 obtain⟨S2,w3,s2⟩:=My (S:=S1) h
 have s3:(3:Nat)<=sizeLine:=AU (by decide)
 have z0:Qa .non .non=true:=rfl
 have z1:deq .non .non=true:=rfl
 refine⟨Gc (BS t ls ds),Gc (LF ds i),S2,?_,s1.trans s2⟩
 by_cases c:i<ds.length
 .have ed:LF ds i=.int i:=by unfold LF;rw[kJ c]
  have w4:=U5 (S:=S2) (TF h.bk)
  have e2:LF (ds.take i) (ds.take i).length=.non:=by unfold LF;rw[kC (by lia)]
  rw[e2]at w4
  have ct:=HK (ds:=ds.map AS.d) (n:=i) (by simp;lia)
  rw[<-oC]at ct
  rw[ed]at w1 w2 w3⊢
  simp only[BS]at w1 w2 w3 w4⊢
  generalize (ds.take i).map AS.d=DI at*
  generalize ds.map AS.d=DD at*
  generalize ls.map Ld.d=LL at*
  simp[Vh,w1,w2,w3,w4,ct,s3,isN]
 .have ed:LF ds i=.non:=by unfold LF;rw[kC c]
  rw[ed]at w1 w2 w3⊢
  simp only[BS]at w1 w2 w3⊢
  generalize ds.map AS.d=DD at*
  generalize ls.map Ld.d=LL at*
  simp[Vh,w1,w2,w3,s3,isN,z0,z1]
end
theorem CV.same{p:Nat}{S S':Sto}(h:CV p S)(g:DV [] S S'):CV p S':=by
 obtain⟨ds,e,hp⟩:=h
 exact⟨ds,g.get e (by simp),hp⟩
section
variable{S:Sto}{t:Tr}{ls:Wp Ld}{ds:Wp AS}{p i:Nat}
def ZH:Ex:=(Ad (By 8 (AM AJ [eV 2,eOp (o2 C4) [eOp (o1 Ha) [eV 6],eI 1]]))
    (Ad (By 9 (AM Cd [eV 2,eV 4,eOp (o2 C4) [eOp (o1 Ha) [eV 5],eOp (o1 Ha) [eV 6]]]))
    (Ad (By 10 U2)
    (Ad (By 11 (eOp (o2 C4) [eOp (o2 C4) [eOp (JR false true) [eV 6,eV 8],eIx (JW [CS [eV 9],eV 10]) (AM AJ [eV 2,eI 2])],eOp (JR true false) [eV 6,eV 8]]))
    (xIf (eOp (o2 wLt) [eOp (o1 Ha) [F8 [] 1 (Mu (eV 11)) (tNm 0) (eOp (o2 wEq) [eIx (eV 0) (eI 0),eC (.str "throw")]) (eV 0)],eI 4]) Vh EC)))))
theorem Xu{e0 e1 e3 e7 e8 e9 e10 e11 e12 e13:jO D}(h:GJ t ls ds)(hl:ds.length<=12)(hp:CV p S):∃u8 u9 u10 u11 u12 u13 S',ZH [e0,e1,Gc (.ref p),e3,Gc t.d,Gc (.tup (ls.map Ld.d)),Gc (.tup (ds.map AS.d)),e7,e8,e9,e10,e11,e12,e13] S=Gc (.nx,[e0,e1,Gc (.ref p),e3,Gc t.d,Gc (.tup (ls.map Ld.d)),Gc (.tup (ds.map AS.d)),e7,u8,u9,u10,u11,u12,u13],S')/\CV p S':=by
 have l0:ls.length<=4:=h.inv.len
 have hw:=Ta h.good
 obtain⟨r1,S1,d1,a1,b1,p1⟩:=Ai hp (n:=(ds.length:Int)+1) (by lia) (by lia)
 obtain⟨k,rfl⟩:=m8 a1
 have hk:k<=ds.length:=by lia
 obtain⟨o,S2,d2,p2,w2⟩:=ZS (S:=S1) h.tr p1.pen (M:=ls.length+ds.length) (by lia)
 obtain⟨x,d3,w3⟩:=XY (S:=S2) (e0:=e0) (e1:=e1) (e2:=Gc (.ref p)) (e3:=e3) (e4:=Gc t.d) (e5:=Gc (.tup (ls.map Ld.d))) (e7:=e7) (e9:=Gc o.d) (e10:=e10) (e11:=e11) (e12:=e12) (e13:=e13) (k:=k) h.tr hw
 obtain⟨r4,S4,d4,a4,b4,p4⟩:=Ai p2.pen (n:=2) (by lia) (by lia)
 obtain⟨y,ey,my⟩:=pick (xs:=[.tup [o.d],.tup [x.d]]) (r:=r4) a4 (by simpa using b4)
 obtain⟨z,ez,wz⟩:∃z:AS,y=.tup [z.d]/\Wf t z:=by
  simp only[jX,jt,kr]at my
  rcases my with rfl|rfl
  .exact⟨o,rfl,w2⟩
  .exact⟨x,rfl,w3⟩
 subst ez
 have c1:=HK (ds:=ds.map AS.d) (n:=k) (by simpa using hk)
 have c2:=Qm (ds:=ds.map AS.d) (n:=k) (by simpa using hk)
 have hN:(ds.map AS.d).take k++z.d::(ds.map AS.d).drop k=(ds.take k++[z]++ds.drop k).map AS.d:=by simp
 have hNl:(ds.take k++[z]++ds.drop k).length<=16:=by simp;lia
 have hNw:∀d∈ds.take k++[z]++ds.drop k,Wf t d:=by
  intro d hd
  simp only[kB,kN]at hd
  rcases hd with(hd|rfl)|hd
  .exact hw d (rR hd)
  .exact wz
  .exact hw d (List.mem_of_mem_drop hd)
 have q1:((ds.map AS.d).take k).length+1<=sizeLine:=jY (show _<=50 by simp;lia) (AU (by decide))
 have q2:((ds.map AS.d).take k).length+1+((ds.map AS.d).drop k).length<=sizeLine:=jY (show _<=50 by simp;lia) (AU (by decide))
 have s1:(1:Nat)<=sizeLine:=AU (by decide)
 have s2:(2:Nat)<=sizeLine:=AU (by decide)
 obtain⟨i,hu⟩:=cX h.tr h.inv hNl hNw
 have th:=eT (S:=S4) (ds:=ds.take k++[z]++ds.drop k) (by lia)
 generalize hNN:ds.take k++[z]++ds.drop k=N at*
 obtain⟨u12,u13,S5,e5,s5⟩:=Xt (S:=S4) (e0:=e0) (e1:=e1) (e2:=Gc (.ref p)) (e3:=e3) (e6:=Gc (.tup (ds.map AS.d))) (e7:=e7) (e8:=Gc (.int k)) (e9:=Gc o.d) (e10:=Gc (.tup [x.d])) (e12:=e12) (e13:=e13) hu
 have d1':AJ [.ref p,.int (((ds.map AS.d).length:Nat)+1)] S=Gc (.int k,S1):=by rw[kF];exact d1
 have d2':Cd [.ref p,t.d,.int (((ls.map Ld.d).length:Nat)+((ds.map AS.d).length:Nat))] S1=Gc (o.d,S2):=by
  rw[kF,kF]
  exact_mod_cast d2
 have sqN:sqD S4 (.tup (N.map AS.d))=Gc (N.map AS.d,[]):=nr rfl
 by_cases c:((N.filter GO).length:Int)<4
 .refine⟨Gc (.int k),Gc o.d,Gc (.tup [x.d]),Gc (.tup (N.map AS.d)),u12,u13,S5,?_,CV.same p4.pen s5⟩
  clear hNN
  have c':(((N.filter GO).map AS.d).length:Int)<4:=by rw[kF];exact c
  generalize N.map AS.d=ND at*
  generalize (N.filter GO).map AS.d=TD at*
  generalize (ds.map AS.d).take k=AD at*
  generalize (ds.map AS.d).drop k=BD at*
  generalize ds.map AS.d=DD at*
  generalize ls.map Ld.d=LL at*
  generalize z.d=zd at*
  generalize o.d=od at*
  generalize x.d=xd at*
  simp[ZH,d1',d2',d3,d4,ey,c1,c2,q1,q2,s1,s2,hN,th,c',e5]
 .refine⟨Gc (.int k),Gc o.d,Gc (.tup [x.d]),Gc (.tup (N.map AS.d)),e12,e13,S4,?_,p4.pen⟩
  clear hNN
  have c':¬(((N.filter GO).map AS.d).length:Int)<4:=by rw[kF];exact c
  generalize N.map AS.d=ND at*
  generalize (N.filter GO).map AS.d=TD at*
  generalize (ds.map AS.d).take k=AD at*
  generalize (ds.map AS.d).drop k=BD at*
  generalize ds.map AS.d=DD at*
  generalize ls.map Ld.d=LL at*
  generalize z.d=zd at*
  generalize o.d=od at*
  generalize x.d=xd at*
  simp[ZH,d1',d2',d3,d4,ey,c1,c2,q1,q2,s1,s2,hN,th,c']
end
section
variable{S:Sto}
def Q5:Ex:=(Ad (By 2 (AM ID [AM DH [eV 0,eV 1]]))
    (Ad (By 3 (AM C9 [eV 2,eI 12]))
    (Ad (Ml (tTp [tNm 4,tNm 5,tNm 6]) (eV 3))
    (Ad (xIf (eOr (eOp (o2 (Ry true)) [AM Ae [eV 3],eC .non]) (eOp (o2 (Ry true)) [AM B4 [eV 3],eC .non])) (Ba (eC (.bl false))) EC)
    (QG (QF [eI 5]) (tNm 7) ZH)))))
theorem Vn{ns:Wp Int}{k:Nat}{o2 o3 o4 o5 o6 o7 o8 o9 o10 o11 o12 o13:jO D}:∃u2 u3 u4 u5 u6 u7 u8 u9 u10 u11 u12 u13 S',Q5 [Gc (.scr ns),Gc (.int k),o2,o3,o4,o5,o6,o7,o8,o9,o10,o11,o12,o13] S=Gc (.nx,[Gc (.scr ns),Gc (.int k),u2,u3,u4,u5,u6,u7,u8,u9,u10,u11,u12,u13],S'):=by
 obtain⟨c,e0⟩:=W0 (S:=S) (ns:=ns) (k:=k)
 obtain⟨p,S1,e1,hp,_,_⟩:=Z1 (S:=S) c
 obtain⟨t,ls,ds,S2,e2,⟨hb,hl⟩,_,hp2⟩:=Xp (M:=12) (by decide) hp
 have f1:=U5 (S:=S2) (TF hb)
 obtain⟨S3,f2,s3⟩:=My (S:=S2) (TF hb)
 have ed:LF ds ds.length=.non:=by unfold LF;rw[kC (by lia)]
 rw[ed]at f1 f2
 have r5:KO 5=true:=FK (by lia) (by lia)
 obtain⟨E',S',ef,u7,u8,u9,u10,u11,u12,u13,rfl,_⟩:=Hh (gs:=[]) (t:=tNm 7) (b:=ZH)
  (I:=λrs E S'=>∃o7 o8 o9 o10 o11 o12 o13:jO D,E=[Gc (.scr ns),Gc (.int k),Gc (.ref p),Gc (BS t ls ds),Gc t.d,Gc (.tup (ls.map Ld.d)),Gc (.tup (ds.map AS.d)),o7,o8,o9,o10,o11,o12,o13]/\CV p S')
  (fun _ _ _ _ => A5) (ds := Mq 0 (5 : Int).toNat) (E := [Gc (.scr ns), Gc (.int k), Gc (.ref p), Gc (BS t ls ds), Gc t.d, Gc (.tup (ls.map Ld.d)), Gc (.tup (ds.map AS.d)), o7, o8, o9, o10, o11, o12, o13]) (S := S3) ⟨o7, o8, o9, o10, o11, o12, o13, rfl, CV.same hp2 s3⟩ (by
    rintro dd rs E T ⟨o7,o8,o9,o10,o11,o12,o13,rfl,i1⟩
    obtain⟨u8,u9,u10,u11,u12,u13,T2,e,p2⟩:=Xu (S:=T) (e0:=Gc (.scr ns)) (e1:=Gc (.int k)) (e3:=Gc (BS t ls ds)) (e7:=Gc dd) (e8:=o8) (e9:=o9) (e10:=o10) (e11:=o11) (e12:=o12) (e13:=o13) hb hl i1
    exact⟨_,_,T2,rfl,e,Gc dd,u8,u9,u10,u11,u12,u13,rfl,p2⟩)
 refine⟨Gc (.ref p),Gc (BS t ls ds),Gc t.d,Gc (.tup (ls.map Ld.d)),Gc (.tup (ds.map AS.d)),u7,u8,u9,u10,u11,u12,u13,S',?_⟩
 have e2':C9 [.ref p,.int 12] S1=Gc (BS t ls ds,S2):=e2
 have un:∀T,(Ml (tTp [tNm 4,tNm 5,tNm 6]) (eV 3)) [Gc (.scr ns),Gc (.int k),Gc (.ref p),Gc (BS t ls ds),o4,o5,o6,o7,o8,o9,o10,o11,o12,o13] T=Gc (.nx,[Gc (.scr ns),Gc (.int k),Gc (.ref p),Gc (BS t ls ds),Gc t.d,Gc (.tup (ls.map Ld.d)),Gc (.tup (ds.map AS.d)),o7,o8,o9,o10,o11,o12,o13],T):=λT=>by simp[BS]
 rw[show((5:Int).toNat)=5 from rfl]at ef
 generalize BS t ls ds=bk at*
 generalize ds.map AS.d=DD at*
 generalize ls.map Ld.d=LL at*
 simp[Q5,e0,e1,e2',-Vd,un,f1,f2,isN,r5,ef]
noncomputable def t1:Tr:=⟨1,1,1,[1],0,0⟩
theorem b1:GJ t1 [] [.EB 0 0 1]:=by
 refine⟨⟨by decide,by decide,by decide,by decide,by decide,by decide⟩,?_,⟨⟨by decide,by decide,by decide,by decide⟩,trivial⟩,by decide⟩
 exact⟨by simp[st0],by simp[st0],by simp[st0],by simp[st0],rfl,by simp[st0],1,1,by decide,by decide,by decide,by simp[st0],λr hr=>by
  have:r=1:=by simpa[t1,st0]using hr
  subst this
  exact⟨1,by simp,by decide⟩⟩
theorem dX:FX [BS t1 [] [.EB 0 0 1],.int 0] S=Gc (.int 0,S):=by
 have e:=OU (S:=S) b1
 have k1:St.Kd.int.isA "int"=true:=by decide
 have k2:St.Kd.int.isA "bool"=false:=by decide
 have mk:wIn true (.val (.str "bring")) (.val B2)=Gc (.val (.bl false)):=nr rfl
 have ct:Kh [D.tup [.str "bring",.int 0,.int 0,.int 1]] none (Gc 0)=[]:=rfl
 have cn:∀{f g:Ev},Ce [] (tNm 0) f g [] [] [none] S=Gc ([],S):=λ{f g}=>Ek A5
 simp only[BS]at e⊢
 generalize t1.d=td at*
 simp[AS.d]at e⊢
 simp[FX,Lc,e,IA,Km,DF,HC,HF,JT,GK,IB,k1,k2,kdW,GR,Ii,mk,ct,cn]
theorem Z9(ns:Wp Int)(h:ns.length<=63):∃S',OO [.scr ns] S=Gc (.bl true,S'):=by
 obtain⟨n,hn,hn2⟩:∃n:Nat,(if(if(3:Int)<ns.length then(3:Int)else ns.length)>1 then(if(3:Int)<ns.length then(3:Int)else ns.length)else 1)=(n:Int)/\n<=3:=by
  refine⟨(if(if(3:Int)<ns.length then(3:Int)else ns.length)>1 then(if(3:Int)<ns.length then(3:Int)else ns.length)else 1).toNat,?_,?_⟩
  .split<;>split<;>lia
  .split<;>split<;>lia
 have rn:KO (n:Int)=true:=FK (by lia) (by lia)
 obtain⟨E',S',ef,q1,q2,q3,q4,q5,q6,q7,q8,q9,q10,q11,q12,q13,_,rfl⟩:=Hh (gs:=[]) (t:=tNm 1) (b:=Q5)
  (I:=λrs E S'=>∃(o1 o2 o3 o4 o5 o6 o7 o8 o9 o10 o11 o12 o13:jO D),(∀d∈rs,∃k:Nat,d=.int k)/\E=[Gc (.scr ns),o1,o2,o3,o4,o5,o6,o7,o8,o9,o10,o11,o12,o13])
  (λ_ _ _ _=>A5) (ds:=Mq 0 n) (E:=[Gc (.scr ns),none,none,none,none,none,none,none,none,none,none,none,none,none]) (S:=S)
  ⟨none,none,none,none,none,none,none,none,none,none,none,none,none,by
    intro d hd
    obtain⟨k,_,rfl⟩:=k6.mp hd
    exact⟨k,by simp⟩,rfl⟩ (by
    rintro dd rs E T ⟨o1,o2,o3,o4,o5,o6,o7,o8,o9,o10,o11,o12,o13,i1,rfl⟩
    obtain⟨k,rfl⟩:=i1 dd jr
    obtain⟨u2,u3,u4,u5,u6,u7,u8,u9,u10,u11,u12,u13,T2,e⟩:=Vn (S:=T) (ns:=ns) (k:=k) (o2:=o2) (o3:=o3) (o4:=o4) (o5:=o5) (o6:=o6) (o7:=o7) (o8:=o8) (o9:=o9) (o10:=o10) (o11:=o11) (o12:=o12) (o13:=o13)
    exact⟨_,_,T2,by simp,e,Gc (.int k),u2,u3,u4,u5,u6,u7,u8,u9,u10,u11,u12,u13,λd hd=>i1 d (jf _ hd),rfl⟩)
 refine⟨S',?_⟩
 have m1:=dX (S:=S')
 have eb:Tp=Ad (QG (QF [eOp (o2 bP) [eI 1,eOp (o2 Ya) [eOp (o1 Ha) [eV 0],eI 3]]]) (tNm 1) Q5) (Ba (eOp (o2 wEq) [AM FX [CS [CS [eI 1,eI 1,eI 1,CS [CS [eI 1,eI 1]],eI 0,eI 0],CS [],CS [CS [eC (.str "bring"),eI 0,eI 0,eI 1]]],eI 0],eI 0])):=rfl
 have bd:BS t1 [] [.EB 0 0 1]=.tup [.tup [.int 1,.int 1,.int 1,.tup [.tup [.int 1,.int 1]],.int 0,.int 0],.tup [],.tup [.tup [.str "bring",.int 0,.int 0,.int 1]]]:=rfl
 rw[bd]at m1
 have s0:(0:Nat)<=sizeLine:=l9 _
 have s1:(1:Nat)<=sizeLine:=AU (by decide)
 have s2:(2:Nat)<=sizeLine:=AU (by decide)
 have s3:(3:Nat)<=sizeLine:=AU (by decide)
 have s4:(4:Nat)<=sizeLine:=AU (by decide)
 have s6:(6:Nat)<=sizeLine:=AU (by decide)
 unfold OO
 rw[eb]
 simp[hn,rn,ef,m1,s1,s2,s3,s4,s6]
end
open PyProof.Rows (boot_isinstance boot_int boot_bool boot_tuple boot_str boot_list boot_abs boot_all boot_any boot_sum boot_max boot_min boot_range boot_enumerate boot_zip boot_sorted boot_set boot_divmod)
theorem Zd{K:W1}{h:j0}{mg:Str->jO jN}{xs:Wp Str}{y:Str}{C':jR}(X:K.In h)(G:h.Ns mainGlobals mg)(e:kf K mainGlobals y=Gc (Gc (.ref C')))(t:∀x∈xs,∃C b,kf K mainGlobals x=Gc (Gc (.ref C))/\nX K (.ref C) (.ref C')=Gc b/\(x==y)=b):XmD K mg xs y:=d8 X G e λx hx=>by
 obtain⟨C,b,h1,h2,h3⟩:=t x hx
 exact⟨C,h1,by rw[h3];exact h2⟩
theorem ao{K:W1}{xs:Wp Str}{x y:Str}{C C':jR}{b:kG}(h1:kf K mainGlobals x=Gc (Gc (.ref C)))(h2:nX K (.ref C) (.ref C')=Gc b)(h3:(x==y)=b)(t:∀z∈xs,∃C b,kf K mainGlobals z=Gc (Gc (.ref C))/\nX K (.ref C) (.ref C')=Gc b/\(z==y)=b):∀z∈x::xs,∃C b,kf K mainGlobals z=Gc (Gc (.ref C))/\nX K (.ref C) (.ref C')=Gc b/\(z==y)=b:=λz m=>by
 rcases jX.mp m with e|m
 .rw[e];exact⟨C,b,h1,h2,h3⟩
 .exact t z m
structure All(w:j6)(K:W1)(mg:Str->jO jN):Prop where
 bt:Bts mg
 QB:RX K mg "ALL" UC
 DA:RX K mg "MAKERS" B2
 Fg:RX K mg "NOTHING" Hw
 EH:XcD K mg "NoNumber"
 Ja:XiR K mg "NotDone" "TrailError" "NotDone.__init__" EV
 Fv:XmD K mg ["NotDone"] "NotDone"
 Eh:St.Src K mg "is_whole" Eh
 F5:St.Src K mg "is_from" F5
 D8:St.Src K mg "is_within" D8
 Br:St.Src K mg "greatest_divisor" Br
 Gm:St.Src K mg "lowest" Gm
 Jk:St.Src K mg "plus" Jk
 Jq:St.Src K mg "less" Jq
 Hi:St.Src K mg "times" Hi
 IG:St.Src K mg "mixed" IG
 DO:St.Src K mg "has_pieces" DO
 Eb:St.Src K mg "can_pool" Eb
 Ea:St.Src K mg "can_swap" Ea
 EO:St.Src K mg "can_do" EO
 Cb:St.Src K mg "held_without" Cb
 Cj:St.Src K mg "held_behind" Cj
 BW:St.Src K mg "held_at_first" BW
 Dt:St.Src K mg "made_from" Dt
 Cq:St.Src K mg "first_wrong" Cq
 BX:St.Src K mg "refuse_undone" BX
 B7:St.Src K mg "many_loads" B7
 Ed:St.Src K mg "is_place" Ed
 A4:St.Src K mg "refuse_no_number" A4
 Fs:St.Src K mg "made_by" Fs
 B8:St.Src K mg "all_to_one" B8
 Bj:St.Src K mg "mixed_shares" Bj
 Co:St.Src K mg "made_shares" Co
 Bn:St.Src K mg "worth_of_all" Bn
 C0:St.Src K mg "part_thrown" C0
 CI:St.Src K mg "thrown_shares" CI
 Cs:St.Src K mg "sold_shares" Cs
 CL:St.Src K mg "shares_behind" CL
 BZ:St.Src K mg "owners_behind" BZ
 Cm:St.Src K mg "state_by" Cm
 B3:St.Src K mg "loads_by" B3
 D2:St.Src K mg "_law_cell_at" D2
 IF:St.Src K mg "_law_pen" IF
 GX:St.Src K mg "_law_draw" GX
 Eu:St.Src K mg "_law_common" Eu
 GV:St.Src K mg "_law_made" GV
 Gg:St.Src K mg "_law_plus" Gg
 Fw:St.Src K mg "_law_times" Fw
 Gv:St.Src K mg "_law_less" Gv
 CU:St.Src K mg "_law_whole" CU
 Ep:St.Src K mg "_law_pieces" Ep
 Fq:St.Src K mg "_law_train" Fq
 F0:St.Src K mg "_law_first" F0
 Fy:St.Src K mg "_law_share" Fy
 Cp:St.Src K mg "_law_worths" Cp
 Dd:St.Src K mg "_law_begun" Dd
 Fm:St.Src K mg "_law_there" Fm
 Hb:St.Src K mg "_law_can" Hb
 Er:St.Src K mg "_law_pooled" Er
 EN:St.Src K mg "_law_cost" EN
 F2:St.Src K mg "_law_borne" F2
 Gu:St.Src K mg "_law_sold" Gu
 Gf:St.Src K mg "_law_turn" Gf
 HJ:St.Src K mg "_law_do" HJ
 CF:St.Src K mg "_law_deed" CF
 EJ:St.Src K mg "_law_book" EJ
 DU:St.Src K mg "_law_odd_deed" DU
 F1:St.Src K mg "_law_wrong" F1
 Dz:St.Src K mg "_law_refused" Dz
 II:St.Src K mg "law" II
section
variable{P:js}{w:j6}{K:W1}{mg:Str->jO jN}{base:j0}
theorem VS{f:jR}{fd:lE}(F:Fun K "law" "law" II f fd)(B:Bts mg)(Ak:Dv P w K mg base)(Ft:MF P w K mg base)(D5:J4 P w K mg base)(Hk:Pc P w K mg base)(AN:CC P w K mg base)(Gq:NH P w K mg base)(DP:Ig P w K mg base)(F4:Lv P w K mg base)(C6:Jp P w K mg base):MU P w K mg base CX0 11 f fd ["_law_script"] (spD K 1 OO):=by
 refine Y6 (k:=10) F Cf rfl λcdv A outer s H E hr=>?_
 have hu:=MJ hr
 exact(AH (He ki rfl (HE rfl B.range (AA (Aq (UQ rfl) rfl B.max boot_max (AA AG (AA (Aq (O2 rfl) rfl B.min boot_min (AA (Aq BU rfl B.len lX (AA (AB 0) AE)) (AA AG AE))) AE))) AE)) (Af 1 Cf.nd) (AH (Ah 2 (deM Hk hr (AA (deM D5 hr (AA (AB 0) (AA (AB 1) AE))) AE)) Cf.nd)
      (AH (Ah 3 (deM Gq hr (AA (AB 2) (AA AG AE))) Cf.nd)
      (AH (FA (AB 3) (Eg rfl (AO (Af 4 Cf.nd) (AO (Af 5 Cf.nd) (AO (Af 6 Cf.nd) Bb)))))
      (AH (Bz (DW.dt (V3 (Ac IS (deM Ak hr (AA (AB 3) AE)) Il) (QT (Ac IS (deM C6 hr (AA (AB 3) AE)) Il)))) (AK (AV Ri)) Ap)
      (AK (He ki rfl (HE rfl B.range (AA AG AE)) (Af 7 Cf.nd) (AH (Ah 8 (deM AN hr (AA (AB 2) (AA (AY Aa (Aq BU rfl B.len lX (AA (AB 6) AE)) AG) AE))) Cf.nd)
      (AH (Ah 9 (deM DP hr (AA (AB 2) (AA (AB 4) (AA (AY Aa (Aq BU rfl B.len lX (AA (AB 5) AE)) (Aq BU rfl B.len lX (AA (AB 6) AE))) AE)))) Cf.nd)
      (AH (Ah 10 (Hl (aj (JP (AB 6) (AY Aa (AB 8) AG)) (HX (Ar (AA (Ar (AA Aw (AA AG (AA AG (AA AG AE))))) AE)))) (Pp JJ AG)) Cf.nd)
      (AH (Ah 11 (AY Aa (AY Aa (JP (AB 6) (AB 8)) (AL AW (Bw (AA (Ar (AA (AB 9) AE)) (AA (AB 10) AE))) (deM AN hr (AA (AB 2) (AA AG AE))))) (Hl (AB 6) (AB 8))) Cf.nd)
      (AK (Bz (Ac Ke (Aq BU rfl B.len lX (AA (D9 [] 1 ["_law_deed_here"] rfl RP (Fc (AB 11)) (λs H fp=>⟨Af 0 RQ,Iw (Ac (Bq hu) (AL AW (AB 0) AG) Aw),AB 0⟩)) AE)) AG) (AH (Ah 12 (Ar (AA (AB 4) (AA (AB 5) (AA (AB 11) AE)))) Cf.nd)
      (AH (Ah 13 (deM F4 hr (AA (AB 12) AE)) Cf.nd)
      (AH (Bz (DW.dt (V3 (Ac (Jc hu) (deM Ak hr (AA (AB 12) AE)) (AB 13)) (QT (Ac (Jc hu) (deM C6 hr (AA (AB 12) AE)) (AB 13))))) (AK (AV Ri)) Ap)
      (AK (Bz (DW.dt (LX (Ac IS (AB 13) Il) (Iy (Ac IS (deM Ak hr (AA (Ar (AA (AB 4) (AA (AB 5) (AA (JP (AB 11) (AB 13)) AE)))) AE)) Il)))) (AK (AV Ri)) Ap))))) Ap)))))))))))))
      (AK (AV (FD (Bq hu) (deM Ft hr (AA (Ar (AA (Ar (AA AG (AA AG (AA AG (AA (Ar (AA (Ar (AA AG (AA AG AE))) AE)) (AA AG (AA AG AE))))))) (AA (Ar AE) (AA (Ar (AA (Ar (AA Aw (AA AG (AA AG (AA AG AE))))) AE)) AE)))) (AA AG AE))) AG))))
theorem Zc{f:jR}{fd:lE}(F:Fun K "law" "law" II f fd)(T:All w K mg):MU P w K mg base CX0 11 f fd ["_law_script"] (spD K 1 OO):=by
 have B:=T.bt
 have QB:=T.QB
 have DA:=T.DA
 have Fg:=T.Fg
 have EH:=T.EH
 have xa_NotDone:=T.Ja.xa
 have GW:=GW (P:=P) (w:=w) (base:=base) T.Ja
 have Fv:=T.Fv
 have Ez:=Ez (P:=P) (w:=w) (base:=base) T.Eh B
 have Fo:=Fo (P:=P) (w:=w) (base:=base) T.F5 Ez
 have BO:=BO (P:=P) (w:=w) (base:=base) T.D8 Fo
 have Bt:=Bt (P:=P) (w:=w) (base:=base) T.Br B
 have BE:=BE (P:=P) (w:=w) (base:=base) T.Gm Bt
 have Jf:=Jf (P:=P) (w:=w) (base:=base) T.Jk BE
 have Jj:=Jj (P:=P) (w:=w) (base:=base) T.Jq BE
 have Hy:=Hy (P:=P) (w:=w) (base:=base) T.Hi BE
 have Ht:=Ht (P:=P) (w:=w) (base:=base) T.IG BE
 have A3:=A3 (P:=P) (w:=w) (base:=base) T.DO B
 have Es:=Es (P:=P) (w:=w) (base:=base) T.Eb A3
 have Dm:=Dm (P:=P) (w:=w) (base:=base) T.Ea A3
 have Gj:=Gj (P:=P) (w:=w) (base:=base) T.EO A3 Es Dm
 have BP:=BP (P:=P) (w:=w) (base:=base) T.Cb
 have Be:=Be (P:=P) (w:=w) (base:=base) T.Cj BP
 have BA:=BA (P:=P) (w:=w) (base:=base) T.BW
 have D6:=D6 (P:=P) (w:=w) (base:=base) T.Dt B
 have Ak:=Ak (P:=P) (w:=w) (base:=base) T.Cq B Gj Be BA
 have CD:=CD (P:=P) (w:=w) (base:=base) T.BX Ak GW
 have An:=An (P:=P) (w:=w) (base:=base) T.BX Ak
 have DR:=DR (P:=P) (w:=w) (base:=base) T.B7 B DA
 have Ew:=Ew (P:=P) (w:=w) (base:=base) T.Ed B BO
 have Bp:=Bp (P:=P) (w:=w) (base:=base) T.A4 B BO EH
 have Au:=Au (P:=P) (w:=w) (base:=base) T.A4 B BO
 have Ft:=Ft (P:=P) (w:=w) (base:=base) T.Fs DA An DR Ew
 have DN:=DN (P:=P) (w:=w) (base:=base) T.B8 B QB Fg
 have BQ:=BQ (P:=P) (w:=w) (base:=base) T.Bj B Ht
 have Cu:=Cu (P:=P) (w:=w) (base:=base) T.Co B D6 BQ
 have Cc:=Cc (P:=P) (w:=w) (base:=base) T.Bn B
 have Cy:=Cy (P:=P) (w:=w) (base:=base) T.C0 BE Cc
 have CO:=CO (P:=P) (w:=w) (base:=base) T.CI BQ Cy
 have Ci:=Ci (P:=P) (w:=w) (base:=base) T.Cs B Jf Jj Hy
 have BB:=BB (P:=P) (w:=w) (base:=base) T.CL CO Ci
 have CG:=CG (P:=P) (w:=w) (base:=base) T.BZ DA DN Cu BB
 have Cz:=Cz (P:=P) (w:=w) (base:=base) T.Cm Be BA BB CG
 have Em:=Em (P:=P) (w:=w) (base:=base) T.B3 B An Au Cz CD Bp
 have El:=El (P:=P) (w:=w) (base:=base) T.B3 B An Au Cz
 have D5:=D5 (P:=P) (w:=w) (base:=base) T.D2 B
 have Hk:=Hk (P:=P) (w:=w) (base:=base) T.IF B
 have AN:=AN (P:=P) (w:=w) (base:=base) T.GX
 have Et:=Et (P:=P) (w:=w) (base:=base) T.Eu
 have Ax:=Ax (P:=P) (w:=w) (base:=base) T.GV B Et
 have Bh:=Bh (P:=P) (w:=w) (base:=base) T.Gg Ax
 have BK:=BK (P:=P) (w:=w) (base:=base) T.Fw Ax
 have Dk:=Dk (P:=P) (w:=w) (base:=base) T.Gv Bh
 have Cr:=Cr (P:=P) (w:=w) (base:=base) T.CU B AN Ax
 have Bu:=Bu (P:=P) (w:=w) (base:=base) T.Ep AN
 have Fp:=Fp (P:=P) (w:=w) (base:=base) T.Fq AN Cr
 have Fx:=Fx (P:=P) (w:=w) (base:=base) T.F0 B AN Cr Bu
 have F6:=F6 (P:=P) (w:=w) (base:=base) T.Fy AN Ax
 have Ey:=Ey (P:=P) (w:=w) (base:=base) T.Cp B AN
 have Ct:=Ct (P:=P) (w:=w) (base:=base) T.Dd B
 have C5:=C5 (P:=P) (w:=w) (base:=base) T.Fm B
 have H0:=H0 (P:=P) (w:=w) (base:=base) T.Hb C5
 have Ec:=Ec (P:=P) (w:=w) (base:=base) T.Er B Ax Bh BK
 have Ga:=Ga (P:=P) (w:=w) (base:=base) T.EN B Ax
 have EG:=EG (P:=P) (w:=w) (base:=base) T.F2 B Bh BK Dk
 have FR:=FR (P:=P) (w:=w) (base:=base) T.Gu B Bh BK Dk
 have Gh:=Gh (P:=P) (w:=w) (base:=base) T.Gf Ga EG FR
 have GL:=GL (P:=P) (w:=w) (base:=base) T.HJ B Ec Gh
 have Gx:=Gx (P:=P) (w:=w) (base:=base) T.CF B AN Bu F6 Ey
 have Gq:=Gq (P:=P) (w:=w) (base:=base) T.EJ B AN Fp Fx Ct GL Gx
 have DP:=DP (P:=P) (w:=w) (base:=base) T.DU B AN
 have F4:=F4 (P:=P) (w:=w) (base:=base) T.F1 B Ct H0 GL
 have C6:=C6 (P:=P) (w:=w) (base:=base) T.Dz El Fv xa_NotDone Em
 exact VS (P:=P) (w:=w) (base:=base) F B Ak Ft D5 Hk AN Gq DP F4 C6
theorem Zu{l:pK}{fa:jR}(hfa:mg "law"=Gc (.ref fa))(T:All w K mg):∃fd:lE,(∀(s:jQ) (v:jN),sx s fd ⟨[v],[]⟩ [("_law_script",v)])/\∀base:j0,K.In base->base.Ns mainGlobals mg->MU l.prog w K mg base CX0 11 fa fd ["_law_script"] (XO K):=by
 obtain⟨f,fd,F,hm⟩:=T.II.ex
 have e:=hfa.symm.trans hm
 cases e
 refine⟨fd,λs v=>?_,λbase _ _=>?_⟩
 .obtain⟨oc,od,kV,doc,pm,an,cdv,ct,osl,hfd,_⟩:=F.ex
  subst hfd
  exact .of_eq rfl
 .exact Y1 (Zc (P:=l.prog) (w:=w) (base:=base) F T) λns hl=>Z9 ns hl
end
theorem walk{l:pK}{q:js}{loose:Wp Str}{XP:(Str->jO jN)->j0->Prop}{YP:j6->j0->Prop}{d:DefRec}{K:yq->W1}(hn:l.most=Gc 63)(hdf:d.params.defaults=[])(hY:∀(w:j6) (h:j0),YP w h->(K w.params).In h)(hd:d.name="law")(F:∀(w:j6) (mg:Str->jO jN) (h:j0),(K w.params).In h->h.Ns mainGlobals mg->All w (K w.params) mg):uW q loose XP YP l.row.toRowW d [] (λf vs=>ui f vs):=
 L2.XF (n:=63) (k:=11) (x:="_law_script") (CX:=λ_=>CX0) (sp:=λw=>XO (K w.params)) hn (by decide) hdf ⟨rfl,by decide,by decide⟩ hY (λw mg fa h KX G hmg=>Zu (by rw[<-hd];exact hmg) (F w mg h KX G)) (λ_ _ a ns hl _ hS=>⟨a,ns,rfl,hS,hl,λ_=>rfl⟩) λ_ _ _ _ _ z=>z
end Mi
end
noncomputable section
namespace PySem.W.Fast
theorem tw5296921584310960240:1=1:=rfl
theorem tw6112123019437784157:1=1:=rfl
theorem tw12347192093368696683:1=1:=rfl
theorem tw18078363368790046598:1=1:=rfl
theorem tw1286934944621812344:1=1:=rfl
theorem tw6260941830248363174:1=1:=rfl
theorem tw5232958461108209194:1=1:=rfl
theorem tw191639732555489362:1=1:=rfl
theorem tw1589013250462214426:1=1:=rfl
theorem tw483828907520389699:1=1:=rfl
theorem tw6269722078733899502:1=1:=rfl
theorem tw1041815822353160760:1=1:=rfl
theorem tw2671960083683667072:1=1:=rfl
theorem tw9798976560852493232:1=1:=rfl
theorem tw3032856632720033149:1=1:=rfl
theorem tw5105564571279744095:1=1:=rfl
theorem tw16992134026754865440:1=1:=rfl
theorem tw6163496278956164349:1=1:=rfl
theorem tw10502339862544014205:1=1:=rfl
theorem tw4102756505545731172:1=1:=rfl
theorem tw8731749001449926260:1=1:=rfl
theorem tw10931755079173149311:1=1:=rfl
theorem tw3836688376297512232:1=1:=rfl
theorem tw15972294802879281295:1=1:=rfl
theorem tw10614098213753135129:1=1:=rfl
theorem tw7739346679332015550:1=1:=rfl
theorem tw12582358769811445157:1=1:=rfl
theorem tw288595631622158364:1=1:=rfl
theorem tw11194597007561678491:1=1:=rfl
theorem tw12980796366812584580:1=1:=rfl
theorem tw8758355361698985871:1=1:=rfl
theorem tw13443943968301890019:1=1:=rfl
theorem tw11429054500369464280:1=1:=rfl
theorem tw6260720832983753659:1=1:=rfl
theorem tw12794456221852329667:1=1:=rfl
theorem tw14653095082513354879:1=1:=rfl
theorem tw7049478082987022715:1=1:=rfl
theorem tw12271571636851060578:1=1:=rfl
theorem tw17077261702462277281:1=1:=rfl
theorem tw13384160535916431899:1=1:=rfl
theorem tw7926117436652602637:1=1:=rfl
theorem tw15137746597632954417:1=1:=rfl
theorem tw14538991453039104806:1=1:=rfl
theorem tw15180430277957733305:1=1:=rfl
theorem tw15864604522025950590:1=1:=rfl
theorem tw9483865136935227710:1=1:=rfl
theorem tw7461410060351555454:1=1:=rfl
theorem tw8546089720563385477:1=1:=rfl
theorem tw12806839688960612351:1=1:=rfl
theorem tw17262942145962977185:1=1:=rfl
theorem tw16077721322945038482:1=1:=rfl
theorem tw5298730441642989416:1=1:=rfl
theorem tw11421270706387231674:1=1:=rfl
theorem tw3076884675285682897:1=1:=rfl
theorem tw12592052366162001748:1=1:=rfl
theorem tw337410830818272534:1=1:=rfl
theorem tw2510106032165050716:1=1:=rfl
theorem tw10934234841372497149:1=1:=rfl
theorem tw17056155581253371437:1=1:=rfl
theorem tw1181770837286475905:1=1:=rfl
theorem tw5318009546879590419:1=1:=rfl
theorem tw2060914460458934768:1=1:=rfl
theorem tw15489032042995643518:1=1:=rfl
theorem tw17357392519830004941:1=1:=rfl
theorem tw4573855786866849049:1=1:=rfl
theorem tw3802596837694498034:1=1:=rfl
theorem tw1919433549306927502:1=1:=rfl
theorem tw791339103458889047:1=1:=rfl
theorem tw14175469871658361578:1=1:=rfl
theorem tw5384992526845265210:1=1:=rfl
theorem tw9076444030488291164:1=1:=rfl
theorem tw12434803600729890178:1=1:=rfl
theorem tw17456367437102135160:1=1:=rfl
theorem tw14934093927129454812:1=1:=rfl
theorem tw6134497442862719420:1=1:=rfl
theorem tw2330994233356039759:1=1:=rfl
theorem tw8185174339504793178:1=1:=rfl
theorem tw2355545274441035914:1=1:=rfl
theorem tw1258853482922209791:1=1:=rfl
theorem tw13060403469781616304:1=1:=rfl
theorem tw14040962021836008657:1=1:=rfl
theorem tw11402671759685053078:1=1:=rfl
theorem tw8953184975518522123:1=1:=rfl
theorem tw13416746991071974344:1=1:=rfl
theorem tw9286341341127722007:1=1:=rfl
theorem tw9253585232765869682:1=1:=rfl
theorem tw6455745523709872264:1=1:=rfl
theorem tw10563150011352526558:1=1:=rfl
theorem tw8220387412631096188:1=1:=rfl
theorem tw7419770609944893229:1=1:=rfl
theorem tw12720038489983820941:1=1:=rfl
theorem tw13870400727805725768:1=1:=rfl
theorem tw5857689155814804233:1=1:=rfl
theorem tw9292571837405109937:1=1:=rfl
theorem tw5538396667220799011:1=1:=rfl
theorem tw13875262705623443419:1=1:=rfl
theorem tw763114613399641798:1=1:=rfl
theorem tw7846467132792234161:1=1:=rfl
theorem tw890938166482674748:1=1:=rfl
theorem tw3385023780246733818:1=1:=rfl
theorem tw4267667966019318303:1=1:=rfl
theorem tw10764340077539056259:1=1:=rfl
theorem tw15160335755939460752:1=1:=rfl
theorem tw5934550680651707857:1=1:=rfl
theorem tw14860911582766626119:1=1:=rfl
theorem tw2343983949319107964:1=1:=rfl
theorem tw3980969564641165726:1=1:=rfl
theorem tw3656167336153753087:1=1:=rfl
theorem tw14991864842869021934:1=1:=rfl
theorem tw9891709386283336419:1=1:=rfl
theorem tw5518556087744619224:1=1:=rfl
theorem tw7271440679615989193:1=1:=rfl
theorem tw4961425663977824506:1=1:=rfl
theorem tw6081986570011459607:1=1:=rfl
theorem tw4698787515662714830:1=1:=rfl
theorem tw17663489603167190757:1=1:=rfl
theorem tw3256422214907547508:1=1:=rfl
theorem tw11960750795035443695:1=1:=rfl
theorem tw4076279591316998195:1=1:=rfl
theorem tw15537374130052763804:1=1:=rfl
theorem tw11990107706357099149:1=1:=rfl
theorem tw1804560361133801296:1=1:=rfl
theorem tw1411277249606617203:1=1:=rfl
theorem tw7732591292467481580:1=1:=rfl
theorem tw1674137571814177440:1=1:=rfl
theorem tw9070754751391392153:1=1:=rfl
theorem tw12259367943004831162:1=1:=rfl
theorem tw12918649534871198495:1=1:=rfl
theorem tw4327859352645904642:1=1:=rfl
theorem tw2034401413665548768:1=1:=rfl
theorem tw13792564143142079441:1=1:=rfl
theorem tw8413625721996037956:1=1:=rfl
theorem tw3964505203475333029:1=1:=rfl
theorem tw12012053343510424541:1=1:=rfl
theorem tw15997517232196489584:1=1:=rfl
theorem tw7645143230299766542:1=1:=rfl
theorem tw10008632604680790088:1=1:=rfl
theorem tw9578210915512105034:1=1:=rfl
theorem tw4067494334378811304:1=1:=rfl
theorem tw10367394746138497275:1=1:=rfl
theorem tw16936789620631432737:1=1:=rfl
theorem tw2690309272651630479:1=1:=rfl
theorem tw511436662822441068:1=1:=rfl
theorem tw11670346365516302939:1=1:=rfl
theorem tw6875449611880354555:1=1:=rfl
theorem tw14210257981932813133:1=1:=rfl
theorem tw971413934774926616:1=1:=rfl
theorem tw18366490421958622232:1=1:=rfl
theorem tw6832427461559037120:1=1:=rfl
theorem tw7563798899193960906:1=1:=rfl
theorem tw7454846921747605960:1=1:=rfl
theorem tw8447996678458323835:1=1:=rfl
theorem tw6950084635803339991:1=1:=rfl
theorem tw14213304401236881968:1=1:=rfl
theorem tw4485816425164003595:1=1:=rfl
theorem tw7941231985042948653:1=1:=rfl
theorem tw7266784541656066606:1=1:=rfl
theorem tw11205579194953166684:1=1:=rfl
theorem tw10670559685147621721:1=1:=rfl
theorem tw17501899149939224157:1=1:=rfl
theorem tw17257866648757446546:1=1:=rfl
theorem tw10467667706178249558:1=1:=rfl
theorem tw2677422830350515219:1=1:=rfl
theorem tw14320344587750715094:1=1:=rfl
theorem tw7705350972613344457:1=1:=rfl
theorem tw11026252316908359625:1=1:=rfl
theorem tw6046367541904237107:1=1:=rfl
theorem tw17772176843414412957:1=1:=rfl
theorem tw892094168498992137:1=1:=rfl
theorem tw12327371417885832575:1=1:=rfl
theorem tw13325864643222284279:1=1:=rfl
theorem tw3079666392782408806:1=1:=rfl
theorem tw16311062682955124151:1=1:=rfl
theorem tw7934140923239494797:1=1:=rfl
theorem tw13744520084019010144:1=1:=rfl
theorem tw5782423721139617856:1=1:=rfl
theorem tw10035672757217428134:1=1:=rfl
theorem tw4266182805779761226:1=1:=rfl
theorem tw14787746841072744391:1=1:=rfl
theorem tw14006370264941844907:1=1:=rfl
theorem tw18180110266546816934:1=1:=rfl
theorem tw12573230727506900025:1=1:=rfl
theorem tw15140186458225608636:1=1:=rfl
theorem tw2126571530842782395:1=1:=rfl
theorem tw617250709644570987:1=1:=rfl
theorem tw11413901606499907013:1=1:=rfl
theorem tw16489988178053905279:1=1:=rfl
theorem tw10407283994656971086:1=1:=rfl
theorem tw8209571895034446656:1=1:=rfl
theorem tw751760454469737686:1=1:=rfl
theorem tw9812656229333849657:1=1:=rfl
theorem tw11646834764031945181:1=1:=rfl
theorem tw8750559698049984206:1=1:=rfl
theorem tw13895677414044315848:1=1:=rfl
theorem tw17708259714261143169:1=1:=rfl
theorem tw70166869124725188:1=1:=rfl
theorem tw17098227051738031719:1=1:=rfl
theorem tw17219963911104804545:1=1:=rfl
theorem tw7386035984050241116:1=1:=rfl
theorem tw5035574991789303027:1=1:=rfl
theorem tw10315222558466832256:1=1:=rfl
theorem tw2960696130901072582:1=1:=rfl
theorem tw2840556042806903608:1=1:=rfl
theorem tw18293855112508589501:1=1:=rfl
theorem tw3277854270928370621:1=1:=rfl
theorem tw1844293013482341042:1=1:=rfl
theorem tw6404498545874742101:1=1:=rfl
theorem tw13013195274234525917:1=1:=rfl
theorem tw17887946645281286280:1=1:=rfl
theorem tw13388088885828536445:1=1:=rfl
theorem tw10895094915198388311:1=1:=rfl
theorem tw16384061487401839313:1=1:=rfl
theorem tw7159202375731138537:1=1:=rfl
theorem tw10823574860615534009:1=1:=rfl
theorem tw9093705251643378623:1=1:=rfl
theorem tw13304573005419121186:1=1:=rfl
theorem tw15246098625086630986:1=1:=rfl
theorem tw9372449300448375944:1=1:=rfl
theorem tw17167188587013701500:1=1:=rfl
theorem tw1671253205048382785:1=1:=rfl
theorem tw14873070354351571317:1=1:=rfl
theorem tw17025554757986646933:1=1:=rfl
theorem tw12008898684270253614:1=1:=rfl
theorem tw10777007420795290756:1=1:=rfl
theorem tw11663537850797150228:1=1:=rfl
theorem tw7862455187028270557:1=1:=rfl
theorem tw16991722424802168607:1=1:=rfl
theorem tw12121929465370013369:1=1:=rfl
theorem tw9010070973184657258:1=1:=rfl
theorem tw5254623735355523216:1=1:=rfl
theorem tw3366440083957660892:1=1:=rfl
theorem tw5489273945568056774:1=1:=rfl
theorem tw9210256618781035606:1=1:=rfl
theorem tw10815954434585945288:1=1:=rfl
theorem tw1411403352782329094:1=1:=rfl
theorem tw12059631719275555036:1=1:=rfl
theorem tw9031070832989905623:1=1:=rfl
theorem tw9360884570937890924:1=1:=rfl
theorem tw10812745631251787153:1=1:=rfl
theorem tw16621861352524364657:1=1:=rfl
theorem tw10674346142235398985:1=1:=rfl
theorem tw8954384241671722921:1=1:=rfl
theorem tw15777097823046182247:1=1:=rfl
theorem tw6092888779988927543:1=1:=rfl
theorem tw11497858984044779361:1=1:=rfl
theorem tw7011775076691440082:1=1:=rfl
theorem tw11634607006614698446:1=1:=rfl
theorem tw16956304029901162129:1=1:=rfl
theorem tw15683041017963473977:1=1:=rfl
theorem tw1900439259404677692:1=1:=rfl
theorem tw186639281726308526:1=1:=rfl
theorem tw12746199843605265441:1=1:=rfl
theorem tw9196110316221441873:1=1:=rfl
theorem tw10541857313483719275:1=1:=rfl
theorem tw17057605815673847282:1=1:=rfl
theorem tw89071031786592111:1=1:=rfl
theorem tw6166588351110187386:1=1:=rfl
theorem tw8597026426839208552:1=1:=rfl
theorem tw17312829511118206950:1=1:=rfl
theorem tw12270608241389469304:1=1:=rfl
theorem tw4681260838459494598:1=1:=rfl
theorem tw7507048516644659820:1=1:=rfl
theorem tw3235244602637520292:1=1:=rfl
theorem tw17900387444807666883:1=1:=rfl
theorem tw4214440505790225483:1=1:=rfl
theorem tw383868782756923844:1=1:=rfl
theorem tw2685741908997384886:1=1:=rfl
theorem tw8917624981255990979:1=1:=rfl
theorem tw3990772635808552053:1=1:=rfl
theorem tw3498935841997663301:1=1:=rfl
theorem tw12588854776172623393:1=1:=rfl
theorem tw7854912655011556099:1=1:=rfl
theorem tw13697994510707242881:1=1:=rfl
theorem tw12699245699505091492:1=1:=rfl
theorem tw13670459821688047686:1=1:=rfl
theorem tw14488787585025210304:1=1:=rfl
theorem tw17045569509897370727:1=1:=rfl
theorem tw13994900125344801989:1=1:=rfl
theorem tw5671092646343696155:1=1:=rfl
theorem tw16439854816300128368:1=1:=rfl
theorem tw7622760747418921512:1=1:=rfl
theorem tw604844531746224697:1=1:=rfl
theorem tw8854889864804800206:1=1:=rfl
theorem tw3721079257136444799:1=1:=rfl
theorem tw9926229099697035501:1=1:=rfl
theorem tw3837783813843692671:1=1:=rfl
theorem tw14414949221516001736:1=1:=rfl
theorem tw2706493498997179244:1=1:=rfl
theorem tw2348026652376014512:1=1:=rfl
theorem tw17705159710566809993:1=1:=rfl
theorem tw6506792469253794447:1=1:=rfl
theorem tw3159955361124003419:1=1:=rfl
theorem tw15459296337292103343:1=1:=rfl
theorem tw10182722920211421789:1=1:=rfl
theorem tw9559275359835493287:1=1:=rfl
theorem tw4919029633002619754:1=1:=rfl
theorem tw17752411805674981365:1=1:=rfl
theorem tw7026553457342896277:1=1:=rfl
theorem tw4139396339682700179:1=1:=rfl
theorem tw12165679010648368613:1=1:=rfl
theorem tw7331788287419212461:1=1:=rfl
theorem tw13334041710968205952:1=1:=rfl
theorem tw1108057150390666421:1=1:=rfl
theorem tw12920688069737162036:1=1:=rfl
theorem tw17399284250950676200:1=1:=rfl
theorem tw11633144095251831285:1=1:=rfl
theorem tw18037049110626678549:1=1:=rfl
theorem tw1755090909496689048:1=1:=rfl
theorem tw8277069262420932842:1=1:=rfl
theorem tw9490807667194261781:1=1:=rfl
theorem tw14151081320328202395:1=1:=rfl
theorem tw11366285592601896683:1=1:=rfl
theorem tw1888534783448027202:1=1:=rfl
theorem tw8701136441893789943:1=1:=rfl
theorem tw7358198965936713434:1=1:=rfl
theorem tw11055529059509351632:1=1:=rfl
theorem tw4909479379279804462:1=1:=rfl
theorem tw18320415272077014878:1=1:=rfl
theorem tw4384361758974751661:1=1:=rfl
theorem tw11529447556986091670:1=1:=rfl
theorem tw15971281170706645864:1=1:=rfl
theorem tw7192648663783669976:1=1:=rfl
theorem tw1599471815506949775:1=1:=rfl
theorem tw3007553315313659969:1=1:=rfl
theorem tw10086770381734976749:1=1:=rfl
theorem tw4620968992764476651:1=1:=rfl
theorem tw602191654308847688:1=1:=rfl
theorem tw8721623854663590599:1=1:=rfl
theorem tw14331871014428014309:1=1:=rfl
theorem tw1834899420116365340:1=1:=rfl
theorem tw15768225478649095496:1=1:=rfl
theorem tw4746105704854310401:1=1:=rfl
theorem tw16736739195191670493:1=1:=rfl
theorem tw4758242928540183205:1=1:=rfl
theorem tw18175482369390923009:1=1:=rfl
theorem tw4644105800924533782:1=1:=rfl
theorem tw12513640522443392240:1=1:=rfl
theorem tw14738670294017765681:1=1:=rfl
theorem tw1614971471324284674:1=1:=rfl
theorem tw10669252847177217233:1=1:=rfl
theorem tw4630508797743679339:1=1:=rfl
theorem tw11483231177738427293:1=1:=rfl
theorem tw2154430648320535293:1=1:=rfl
theorem tw8339661233637105178:1=1:=rfl
theorem tw12377269822444884890:1=1:=rfl
theorem tw15644215152753984784:1=1:=rfl
theorem tw14924035902061792804:1=1:=rfl
theorem tw4093699679960369659:1=1:=rfl
theorem tw10419667277794854128:1=1:=rfl
theorem tw15515368490756099286:1=1:=rfl
theorem tw15776446899489742533:1=1:=rfl
theorem tw18342215424600392825:1=1:=rfl
theorem tw2190265522009763543:1=1:=rfl
theorem tw15294504554347508785:1=1:=rfl
theorem tw5295704914508458568:1=1:=rfl
theorem tw12914741118326073208:1=1:=rfl
theorem tw6730318847556802949:1=1:=rfl
theorem tw18078442459195218400:1=1:=rfl
theorem tw14239610243920965446:1=1:=rfl
theorem tw2158715215964413481:1=1:=rfl
theorem tw7919389939145961613:1=1:=rfl
theorem tw820398979547131118:1=1:=rfl
theorem tw9036775245007355340:1=1:=rfl
theorem tw16279880508535048744:1=1:=rfl
theorem tw12150301160854673641:1=1:=rfl
theorem tw1895242449222388751:1=1:=rfl
theorem tw3782646483212383904:1=1:=rfl
theorem tw4480906116911029512:1=1:=rfl
theorem tw5570453423447566159:1=1:=rfl
theorem tw3956177660349454808:1=1:=rfl
theorem tw9341860960384926576:1=1:=rfl
theorem tw6819677467337201553:1=1:=rfl
theorem tw7425065862831316328:1=1:=rfl
theorem tw15229193240791198421:1=1:=rfl
theorem tw15619128987726279062:1=1:=rfl
theorem tw8360548167509593014:1=1:=rfl
theorem tw3390808825664908344:1=1:=rfl
theorem tw10350371234407666221:1=1:=rfl
theorem tw8635800651828125610:1=1:=rfl
theorem tw7781958621072295062:1=1:=rfl
theorem tw10585023120141028692:1=1:=rfl
theorem tw11269085103883318678:1=1:=rfl
theorem tw9896125514580868307:1=1:=rfl
theorem tw5896509966833932061:1=1:=rfl
theorem tw6660328930737588324:1=1:=rfl
theorem tw18325623365200460990:1=1:=rfl
theorem tw6964706606195873888:1=1:=rfl
theorem tw13106316814215088474:1=1:=rfl
theorem tw5579644466059814353:1=1:=rfl
theorem tw6211841164139077467:1=1:=rfl
theorem tw8072986039038172687:1=1:=rfl
theorem tw13575049624474800532:1=1:=rfl
theorem tw4232253009797686964:1=1:=rfl
theorem tw3559757346264315163:1=1:=rfl
theorem tw17334421318553108790:1=1:=rfl
theorem tw1427428290521652407:1=1:=rfl
theorem tw15330414573621252208:1=1:=rfl
theorem tw12801852303136250635:1=1:=rfl
theorem tw15523806023654389114:1=1:=rfl
theorem tw7620741952082087209:1=1:=rfl
theorem tw3145686140494878461:1=1:=rfl
theorem tw14987490431284799057:1=1:=rfl
theorem tw13411418505142251411:1=1:=rfl
theorem tw2533910062012834267:1=1:=rfl
theorem tw8687822255792304459:1=1:=rfl
theorem tw18045038795298607072:1=1:=rfl
theorem tw17310654993205796658:1=1:=rfl
theorem tw14410145598208017097:1=1:=rfl
theorem tw3330644114272836740:1=1:=rfl
theorem tw4570168713117979215:1=1:=rfl
theorem tw17181751464723917207:1=1:=rfl
theorem tw16282725642533750461:1=1:=rfl
theorem tw4043538613750098039:1=1:=rfl
theorem tw9692827265016550304:1=1:=rfl
theorem tw14469046176823303004:1=1:=rfl
theorem tw3418008388156909639:1=1:=rfl
theorem tw16106314296063888483:1=1:=rfl
theorem tw3394197892584075910:1=1:=rfl
theorem tw14343892947740455242:1=1:=rfl
theorem tw2469965274948818092:1=1:=rfl
theorem tw6750585545863844174:1=1:=rfl
theorem tw12117853857298153476:1=1:=rfl
theorem tw459098264457266669:1=1:=rfl
theorem tw4214663852033271266:1=1:=rfl
theorem tw256045285569120730:1=1:=rfl
theorem tw96841807732292981:1=1:=rfl
theorem tw7985270810335418011:1=1:=rfl
theorem tw9523463835653666390:1=1:=rfl
theorem tw5749528522586387160:1=1:=rfl
theorem tw10716621081704201657:1=1:=rfl
theorem tw9672576862658621401:1=1:=rfl
theorem tw10610921012556425801:1=1:=rfl
theorem tw16314442586683054463:1=1:=rfl
end PySem.W.Fast
open PySem PySem.W PyProof.Rows
set_option maxRecDepth 100000 in
set_option maxHeartbeats 0 in
theorem PySem.Challenge.cw_sharetrail_k04_first_wrong_deeds_holds : PySem.Challenge.rw_sharetrail_k04_first_wrong_deeds.Holds := by
 w_on;o_law;k_head;(case hw=>w_witness2)
 k_fill
 refine Mi.walk (l:=PySem.Challenge.rw_sharetrail_k04_first_wrong_deeds) rfl rfl (λw h Y=>PySem.W.kIn_of Y) rfl ?F
 case F=>
  intro w mg h KX G
  have QB:Mi.RX (L2.KOf KX) mg "ALL" Mi.UC:=by
   dsimp only[L2.KOf]
   refine' Mi.UN KX G ?e ?r
   (case e=>k_is)
   case r=>
    refine' Mi.Pu ?l ?z ?r
    (case l=>k_is)
    (case z=>decide)
    case r=>
     refine' Paired.cons ?_ ?_
     .exact Mi.Nq
     refine' Paired.cons ?_ ?_
     .exact Mi.Nq
     exact Paired.nil
  have DA:Mi.RX (L2.KOf KX) mg "MAKERS" Mi.B2:=by
   dsimp only[L2.KOf]
   refine' Mi.UN KX G ?e ?r
   (case e=>k_is)
   case r=>
    refine' Mi.Pu ?l ?z ?r
    (case l=>k_is)
    (case z=>decide)
    case r=>
     refine' Paired.cons ?_ ?_
     .exact Mi.Nu
     refine' Paired.cons ?_ ?_
     .exact Mi.Nu
     refine' Paired.cons ?_ ?_
     .exact Mi.Nu
     refine' Paired.cons ?_ ?_
     .exact Mi.Nu
     exact Paired.nil
  have Fg:Mi.RX (L2.KOf KX) mg "NOTHING" Mi.Hw:=by
   dsimp only[L2.KOf]
   refine' Mi.UN KX G ?e ?r
   (case e=>k_is)
   case r=>
    refine' Mi.Pu ?l ?z ?r
    (case l=>k_is)
    (case z=>decide)
    case r=>
     refine' Paired.cons ?_ ?_
     .exact Mi.Nq
     refine' Paired.cons ?_ ?_
     .exact Mi.Nq
     exact Paired.nil
  have EH:Mi.XcD (L2.KOf KX) mg "NoNumber":=by
   dsimp only[L2.KOf]
   refine' Mi.dG KX G ?xce ?xcq
   (case xce=>k_is)
   (case xcq=>k_exc)
  have Ja:Mi.XiR (L2.KOf KX) mg "NotDone" "TrailError" "NotDone.__init__" Mi.EV:=by
   dsimp only[L2.KOf]
   refine' Mi.aC KX G ?j1 ?j2 ?j3 ?jn ?jm ?j5 ?je ?j7 ?j8 ?j9 ?j10 ?j11 ?j12 ?j13 ?jl ?jo ?jc ?jk
   (case j1=>k_is)
   (case j2=>k_is)
   (case j3=>k_is)
   (case jn=>k_is)
   (case jm=>simp)
   (case j5=>k_is)
   (case je=>k_exc)
   (case j7=>k_is)
   (case j8=>k_is)
   (case j9=>k_is)
   (case j10=>k_is)
   (case j11=>k_is)
   (case j12=>k_is)
   (case j13=>k_is)
   (case jl=>k_is)
   (case jo=>rfl)
   (case jc=>k_is)
   (case jk=>k_is)
  have Fv:Mi.XmD (L2.KOf KX) mg ["NotDone"] "NotDone":=by
   dsimp only[L2.KOf]
   refine' Mi.Zd KX G ?xme ?xmt
   (case xme=>k_is)
   case xmt=>
    refine' Mi.ao ?xma ?xmb ?xmc ?_
    (case xma=>k_is)
    (case xmb=>kts_exm)
    (case xmc=>decide)
    exact Mi.all_nil
  have z_abs:mg "abs"=none:=by
   refine' PySem.W.mg_none_of KX G ?z
   (case z=>k_is)
  have z_bool:mg "bool"=none:=by
   refine' PySem.W.mg_none_of KX G ?z
   (case z=>k_is)
  have z_enumerate:mg "enumerate"=none:=by
   refine' PySem.W.mg_none_of KX G ?z
   (case z=>k_is)
  have z_int:mg "int"=none:=by
   refine' PySem.W.mg_none_of KX G ?z
   (case z=>k_is)
  have z_isinstance:mg "isinstance"=none:=by
   refine' PySem.W.mg_none_of KX G ?z
   (case z=>k_is)
  have z_len:mg "len"=none:=by
   refine' PySem.W.mg_none_of KX G ?z
   (case z=>k_is)
  have z_list:mg "list"=none:=by
   refine' PySem.W.mg_none_of KX G ?z
   (case z=>k_is)
  have z_max:mg "max"=none:=by
   refine' PySem.W.mg_none_of KX G ?z
   (case z=>k_is)
  have z_min:mg "min"=none:=by
   refine' PySem.W.mg_none_of KX G ?z
   (case z=>k_is)
  have z_range:mg "range"=none:=by
   refine' PySem.W.mg_none_of KX G ?z
   (case z=>k_is)
  have z_sorted:mg "sorted"=none:=by
   refine' PySem.W.mg_none_of KX G ?z
   (case z=>k_is)
  have z_sum:mg "sum"=none:=by
   refine' PySem.W.mg_none_of KX G ?z
   (case z=>k_is)
  have z_tuple:mg "tuple"=none:=by
   refine' PySem.W.mg_none_of KX G ?z
   (case z=>k_is)
  have z_zip:mg "zip"=none:=by
   refine' PySem.W.mg_none_of KX G ?z
   (case z=>k_is)
  refine⟨⟨z_abs,z_bool,z_enumerate,z_int,z_isinstance,z_len,z_list,z_max,z_min,z_range,z_sorted,z_sum,z_tuple,z_zip⟩,QB,DA,Fg,EH,Ja,Fv,?_,?_,?_,?_,?_,?_,?_,?_,?_,?_,?_,?_,?_,?_,?_,?_,?_,?_,?_,?_,?_,?_,?_,?_,?_,?_,?_,?_,?_,?_,?_,?_,?_,?_,?_,?_,?_,?_,?_,?_,?_,?_,?_,?_,?_,?_,?_,?_,?_,?_,?_,?_,?_,?_,?_,?_,?_,?_,?_,?_,?_,?_,?_⟩
  all_goals (refine' Mi.Z6 KX G ?a ?l ?c ?k;(case a=>k_is);(case l=>k_is);(case c=>k_is);(case k=>k_is))
end
