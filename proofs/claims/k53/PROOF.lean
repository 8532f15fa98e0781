import PyProof.Rows.All
import Wide.All
import OpenK.AllK
import Wide.FinOn
import Lean
import PyProof.EqAt
import PyProof.EqKinds
import PyProof.TupleCall
import PyProof.Draws
import PyProof.EnumMake
import PyProof.EnumFor
import PyProof.ZipIter
import PyProof.ListMulRoad
import PyProof.NeData
import PyProof.SumWalkG
import PyProof.ListRange
import PySem.Challenge.RW_sharetrail_k53_sales_refused
set_option Elab.async false
set_option linter.all false
set_option maxRecDepth 100000
set_option maxHeartbeats 4000000
set_option exponentiation.threshold 10000
open _root_ renaming List->Gc,Option->nG,of_decide_eq_true->nV,if_pos->oP,Bool->oQ,if_neg->oU,Array->pE,or_false->pO,decide_eq_true->qW,False->qa,String->qo,decide_eq_false->q4,decide_eq_true_eq->rD,if_true->sd,if_false->uT,not_or->vF,beq_eq_false_iff_ne->vR,beq_iff_eq->vh,DecidableEq->wu,True->x5
open Array renaming length_toList->tE,toList->ye
open Bool renaming and_eq_true->nU,false_ne_true->oX,or_eq_true->pA,noConfusion->qH,false_eq_true->vi,false_and->xP,and_false->xS,and_self->yP
open Classical renaming choose_spec->zL
open False renaming elim->pX
open ForInStep renaming yield->sk
open Int renaming toNat_of_nonneg->oo,mul_pos->pG,natAbs_natCast->qI,emod_nonneg->qf,natAbs_mul->qr,emod_lt_of_pos->qz,eq_ofNat_of_zero_le->rh,toNat_natCast->sE,mul_le_mul_of_nonneg_right->sZ,lt_of_lt_of_le->tw,mul_ediv_cancel_left->uK,natCast_mul->uv,natAbs_add_le->wM,emod_eq_of_lt->wO,mul_nonneg->xn,mul_le_mul->xo,sub_self->y8,pow_succ->y9,pow_pos->zy,le_refl->z5
open List renaming getElem?_append_left->nJ,mem_cons_of_mem->nK,getElem?_eq_getElem->nM,getElem?_set_ne->nN,mem_cons->nO,getElem?_eq_some_iff->nP,mem_cons_self->nT,getD_eq_getElem?_getD->nW,size_toArray->nX,getElem?_map->nY,getElem?_set_self->nZ,replicate->nh,mem_of_getElem?->ni,not_mem_nil->oB,getElem?_concat_length->oC,mem_append->oD,range->oF,map_cons->oG,getElem?_append_right->oI,mem_singleton->oJ,filterMap_cons->oR,mem_append_right->oW,nil_append->oY,cons_append->oZ,length_map->oa,mem_map->oj,map_map->om,prefix_rfl->pB,length_cons->pD,drop_eq_getElem_cons->pH,length_append->pI,map_append->pU,lookup_cons->pV,of_mem_zip->pf,map_nil->qB,replicate_succ->qD,append_nil->qP,nodup_cons->qQ,length_set->qR,drop_eq_nil_of_le->qS,map_set->qT,any_cons->qU,mem_iff_getElem?->qZ,mem_or_eq_of_mem_set->qc,mem_filter->qd,flatten_cons->qh,getElem_mem->qu,prefix_append->qy,sum_cons->rA,getElem?_zip_eq_some->rM,length_nil->rX,lookup_append->rY,append_assoc->sF,take_of_length_le->sG,getElem?_inj->sH,nodup_append->sI,zipWith->sN,mem_range'_1->sO,map_uncurry_zip_eq_zipWith->sP,length_filter_le->sS,all_cons->se,mem_append_left->sf,getElem?_zipWith_eq_some->sj,getElem?_range->tF,mem_range->tO,length->uB,ext_getElem?->uG,map_take->uM,length_take->uQ,getElem?_replicate->uR,any_eq_true->uW,take_length->uX,forIn_cons->uu,length_singleton->u3,set_append_right->u4,getElem?_eq_none->u6,forIn_nil->vD,take_succ->vG,drop_eq_nil_iff->vI,set_append_left->vN,mem_of_mem_take->vO,length_pos_iff->vV,mem_filterMap->vc,foldl->vg,any_eq_false->vv,length_drop->wY,zipIdx_cons->wc,take->wg,all_eq_true->wq,ext_getElem->wt,range'->xC,zipIdx_nil->xF,sum_append->xG,mapM_cons->xh,zip_map'->yQ,drop->yT,lookup->zk,map->zv
open List.MergeSort.Internal renaming splitInTwo->vk
open List.Pairwise renaming nil->v9
open Nat renaming lt_of_lt_of_le->nQ,le_trans->nR,le_refl->nS,ne_of_lt->oH,pow_le_pow_right->oV,lt_of_le_of_lt->oq,mul_le_mul_right->pS,lt_irrefl->pT,le_succ_of_le->qj,zero_le->qv,mul_comm->qx,le_of_succ_le->rC,pos_of_ne_zero->rZ,le_of_lt->tH,gcd->tM,mul_le_mul->tq,one_lt_two_pow->tu,mul_pos->uF,mul_assoc->uL,add_comm->ui,gcd_comm->uk,pow_succ->um,lt_or_ge->uo,ne_of_gt->vt,zero_add->wI,min_le_right->wX,le_succ->xB,not_lt_zero->xH,div_le_self->xI,add_le_add->xl,succ_mul->yq,lt_trans->yu,gcd_rec->zt
open Ne renaming symm->pb
open Option renaming some->Fk,none->nD,bind_some->sX,map->sY,getD_none->wZ
open Option.some renaming inj->oy
open Or renaming inl->xZ,inr->xf
open Prod renaming fst->zw,snd->zx
open PyProof.Rows renaming slot_tuple_getitem->og,envOfC->ox,boot_tuple->pq,callWith_type1->qA,IntsAre->rS,AllBare->rf,boot_isinstance->sx,assignInOrder_cons->tP,boot_list->uZ,subscriptTail_builtinR->ug,entry_tuple_getitem->vS,args_tuple_getitem->vf,assignInOrder_nil->vq,boot_int->wL,boot_range->wQ,callWith_builtin1->wW,slicePart_none->xR,mulOk_of_bits->xg,sortedAll_old->xi,boot_sum->xk,mul_int->xp,assign_Tuple->xt,sortedAll_at->xv,tupleItemsOf_->yD,sorted_ints->yJ,IsTup->zS,boot_abs->zr
open PyProof.Rows.IsTup renaming new->rO
open PySem renaming Value->Wp,wpAny_bind->nC,Shared->nE,Addr->nI,wpAny_pure->ng,starEach->nk,Program->nv,Expr->oA,Heap->oE,Stmt->oK,World->oM,Around->oN,mem_of_lookup->oS,Scope->pJ,wpAny_Call_Name_kw->pQ,wpAny_mono->pW,wpAny_callSpecial?_slot->pv,Env->p9,FuncData->qE,wpAny_call_entry->qF,wpAny_pyIter_tuple->qG,wpAny_holding->qJ,ExceptHandler->qK,wpAny_field->qN,wpAny_pyIter_list->qO,wpAny_setField_rec->qY,wpAny_passesOwn->qe,wpAny_newObj_type->qg,IsPair->ql,wpAny_execs_cons->qp,wpAny_getItem_str_slice->qq,NameKind->q5,wpAny_truthy_bool->rB,wpAny_seqItems->rF,wpAny_binaryOp_repeat_ref->rL,wpAny_standAt->rQ,boot_len->rV,wpAny_execs_nil->rW,wpAny_pyNext_list_item->rz,wpAny_pyNext_list_end->sQ,typeIs_int->sU,call_meets->sV,wpAny_updateSeq_pair->si,post_val_or_str->sv,Builtin->tK,Arguments->tN,wpAny_newFunctionEnv_cells->tT,IsZip->tY,Keyword->uA,wpAny_comprehension_free->uH,wpAny_onRaise->uI,noFill_tuple_add->uS,wpAny_rule->ub,wpAny_call->uc,codeAny_mono->ue,IsPart->uf,typeIs_str->uh,wpAny_pyIter_listiter->ux,codeAny_call_function->uy,wpAny_Expr_any->u7,intBits_le_iff->vH,wpAny_newFunctionEnv->vL,seq_tuple_add->vY,Model->vo,wpAny_assign_Name->vp,concat_meets->vz,wpAny_sequenceKey->v3,wpAny_typeOf->v5,slot_list_getitem->v7,ZipApart->wC,wpAny_pyIter_enum->wF,wpAny_passesOwnAt->wJ,PassesOwn->wU,wpAny_pyIter_zip->we,wpAny_Try_except->wk,seqIndex_of->wy,wpAny_letGo->xA,pushCells_keeps->xE,BindsTo->xJ,wpAny_Name->xN,wpAny_bindName->xO,call->xU,wpAny_setField->xV,rangeSize_one->x9,intBits_le_64->yA,evalPart_none->yE,call_list_seq->yG,wpAny_attempt->yH,Within->yd,call_range_1->yj,name_of_addr->yl,codeAny_func->ym,Params->yr,callType_new->yv,TriplesOk->yz,wpAny_If->zY,IsRangeIter->zZ,sizeLine_eq->zc
open PySem.Around renaming frames_deeper->vA
open PySem.AutoListH renaming list___mul___list_int_3->vm
open PySem.AutoSeq1 renaming wpAny_loadPart'->ny,list_extend_list_list_0->v8,sub_tuple_tuple->yK,sub_tuple_list->yZ,sub_list_tuple->ya,sub_list_list->y3
open PySem.Builtin.List renaming listTooLong->pY,listFitsIndex->xT
open PySem.Builtin.Range renaming rangeSize->yS
open PySem.Builtin.Slice renaming slicePlaces->qb,sliceAdjust->rK,sliceApplied->tU,slicePartIndex->xD,sliceFields->xq
open PySem.Builtin.SmallTypes renaming nextOf->oO,ownedTupleIsFree->pZ,ownedTupleHandOut->rP,stopIteration->wB
open PySem.Builtin.Tuple renaming tupleExact->qk,tupleItemsOf->tV,tupleTooMany->tZ,tupleIsExact->xY
open PySem.Calls renaming Name_function_global->rE,spliced_cons->sA,spliced_nil->sR,loadGlobal_global->uP,evalArgs_plain->vB
open PySem.Challenge renaming pw_sharetrail_k53_sales_refused->uE
open PySem.Data renaming fields->wx
open PySem.F renaming slot_list_append->ou,type_list_append->pM,slot_tuple_iterator_next->qX,slot_str_getitem->qm,slot_int_rmul->q8,args_tuple_add_2->rR,entry_tuple_add->rg,slot_tuple_add->sD,slot_tuple_mul->sW,slot_list_extend->sg,args_tuple_iterator_next_1->so,slot_zip_next->su,entry_tuple_iterator_next->tJ,args_int_rmul_2->uC,slot_int_index->uU,entry_int_rmul->uV,fills_int_mul->ur,args_list_extend_2->vC,excBase_ValueError->vJ,entry_list_extend->vT,args_tuple_mul_2->vj,args_zip_next_1->wD,slot_tuple_rmul->wG,entry_tuple_mul->wH,entry_zip_next->wd
open PySem.Heap renaming get?_push_of_some->W1,lt_size->nj,get?_push_size->nq,size_push->pR,get?_update_other->qw,SameBut->rm,IsTuple->tL,ExtBut->uD,get?_update_self->uz,IsList->vE,NotedW->zq
open PySem.Heap.SameBut renaming update->vU
open PySem.IsRange renaming new->za
open PySem.NameKind renaming free->pF,cell->q9
open PySem.Obj renaming mapSeq->tW
open PySem.PassesOwn renaming never->pC
open PySem.PassesOwnAt renaming never->wK
open PySem.PyData renaming strOk->pz,canLayAll0->sJ
open PySem.SeqAt.EqAt renaming int_str->vZ,str_int->va,none_bool->ze,bool_none->zf,bool_bool->zg
open PySem.Shared renaming heap->qi
open PySem.Str renaming ofString->pk
open PySem.TriplesOk renaming eq_def->wj
open PySem.Txt renaming slice_le->uj,slice->yW
open PySem.Value renaming ref->pL,none->pN,int->uN,str->uO,type->ua,isStrOf->vX,bool->vb,isInt->zQ,float->zR
open PySem.W renaming Frag->KE,kia_one->pK,nsIn->qC,envX->qL,keepIn->qM,kitOne->qV,exmOne->rG,fnOf->rH,mg_of->rT,findIn->r9,cellsFrom_some->sC,tabObj->sL,kla_fn->sM,callWith_K->tQ,codeIn->tS,methodObj->tz,excIn->uJ,OpenLaw->uY,instObj->uq,kla_obj->uw,lookIn->u9,kla_callFunE->vK,kla_codeExpr->vM,callWith_F0->vW,kitx_tuple->vd,codeRec_of->ve,specialIn->vw,kitx_list->vx,kitx_dict->vy,plainGet->wV,WalkO->xK,isFn->yk
open PySem.codeAmong renaming eq_def->rJ
open Rat renaming intCast_eq_zero_iff->qt,mkRat_eq_div->wm
open Sum renaming inl->vP,inr->vQ
open True renaming intro->sT
noncomputable section
namespace L2
open PySem PySem.Spec PyProof.Rows
abbrev Key:=Sum Int Str
noncomputable def TF:Key->Wp->oQ
 | .inl k,v=>zQ k v
 | .inr x,v=>vX x v
noncomputable def lT(w:oM):Key->Int
 | .inl k=>hashInt k
 | .inr x=>hashStr w x
theorem Cd:∀{k:Key} {v:Wp},TF k v=true->(∃i t,k=vP i/\v=uN i t)\/(∃x t,k=vQ x/\v=uO x t)
 | .inl i,v,h=>by
   obtain⟨t,e⟩:=Value.isInt_shape (k:=i) (v:=v) h
   exact .inl ⟨i,t,rfl,e⟩
 | .inr x,v,h=>by
   obtain⟨t,e⟩:=Value.isStrOf_shape (x:=x) (v:=v) h
   exact .inr ⟨x,t,rfl,e⟩
theorem Uj(i:Int)(t:Tok):TF (.inl i) (.int i t)=true:=by simp[TF,zQ]
theorem UP(x:Str)(t:Tok):TF (.inr x) (.str x t)=true:=by simp[TF,vX]
theorem dR(a b:Int):decide ((vP a:Key)=vP b)=(a==b):=by
 by_cases e:a=b
 .subst e;simp
 .have h:¬(vP a:Key)=vP b:=λq=>e (Sum.inl.inj q)
  rw[q4 h]
  exact(vR.mpr e).symm
theorem eJ(a b:Str):decide ((vQ a:Key)=vQ b)=decide (a=b):=by
 by_cases e:a=b
 .subst e;simp
 .have h:¬(vQ a:Key)=vQ b:=λq=>e (Sum.inr.inj q)
  rw[q4 h,q4 e]
theorem d8(a:Int)(b:Str):decide ((vP a:Key)=vQ b)=false:=q4 (λq=>nomatch q)
theorem cu(a:Str)(b:Int):decide ((vQ a:Key)=vP b)=false:=q4 (λq=>nomatch q)
noncomputable def Dw(prog:nv)(w:oM):PySem.KeyKind prog w Key where
 is:=TF
 hash:=lT w
 inj:=λv a b ha hb=>by
  rcases Cd ha with⟨i,t,rfl,rfl⟩|⟨x,t,rfl,rfl⟩
  .rcases Cd hb with⟨j,u,rfl,e⟩|⟨y,u,rfl,e⟩
   .injection e with e1 _;rw[e1]
   .exact nomatch e
  .rcases Cd hb with⟨j,u,rfl,e⟩|⟨y,u,rfl,e⟩
   .exact nomatch e
   .injection e with e1 _;rw[e1]
 byValue:=λk v h=>by
  rcases Cd h with⟨i,t,rfl,rfl⟩|⟨x,t,rfl,rfl⟩<;>rfl
 pyHash:=λhv h=>by
  rcases Cd hv with⟨i,t,rfl,rfl⟩|⟨x,t,rfl,rfl⟩
  .exact wpAny_pyHash_int h
  .exact wpAny_pyHash_str h
 eqBool:=λhu hv h=>by
  rcases Cd hu with⟨i,t,rfl,rfl⟩|⟨x,t,rfl,rfl⟩
  .rcases Cd hv with⟨j,u,rfl,rfl⟩|⟨y,u,rfl,rfl⟩
   .rw[dR]at h;exact wpAny_eqBool_int h
   .rw[d8]at h;exact vZ i t y u _ _ _ _ h
  .rcases Cd hv with⟨j,u,rfl,rfl⟩|⟨y,u,rfl,rfl⟩
   .rw[cu]at h;exact va x t j u _ _ _ _ h
   .rw[eJ]at h;exact wpAny_eqBool_str h
 «strs» :=λk x t v h=>by
  rcases Cd h with⟨i,u,rfl,e⟩|⟨y,u,rfl,e⟩
  .exact nomatch e
  .injection e with e1 _
   subst e1
   cases v<;>rfl
theorem Qw(prog:nv)(w:oM)(i:Int)(t:Tok):(Dw prog w).is (.inl i) (.int i t)=true:=Uj i t
theorem RM(prog:nv)(w:oM)(x:Str)(t:Tok):(Dw prog w).is (.inr x) (.str x t)=true:=UP x t
end L2
namespace L2
open PySem PySem.Spec PyProof.Rows
inductive V where
 |non|bl (b:oQ)|int (i:Int)|str (x:Str)|byt (b:pE UInt8)|flt (b:UInt64)|ref (a:nI)|ty (n:qo)
 deriving wu
def RelV:V->Wp->Prop
 | .non,u=>u=pN
 | .bl b,u=>u=vb b
 | .int i,u=>∃t,u=uN i t
 | .str x,u=>∃t,u=uO x t
 | .byt b,u=>∃t,u=Value.bytes b t
 | .flt b,u=>∃t,u=zR b t
 | .ref a,u=>u=pL a
 | .ty n,u=>u=ua n
abbrev Vals:Gc V->Gc Wp->Prop:=Paired RelV
theorem Vals.length{xs:Gc V}{us:Gc Wp}(r:Vals xs us):xs.length=us.length:=Paired.length r
theorem Vals.get:∀{xs:Gc V} {us:Gc Wp} {i:Nat} {x:V},Vals xs us->xs[i]?=Fk x->∃u,us[i]?=Fk u/\RelV x u
 |_,_,_,_,.nil,e=>by simp at e
 |_,_,0,_,.cons r _,e=>by simp at e;subst e;exact⟨_,rfl,r⟩
 |_,_,i+1,x,.cons _ t,e=>by
  obtain⟨u,h1,h2⟩:=Vals.get (i:=i) (x:=x) t (by simpa using e)
  exact⟨u,by simpa using h1,h2⟩
theorem Vals.set{x:V}{u:Wp}(r:RelV x u):∀{xs:Gc V} {us:Gc Wp} (i:Nat),Vals xs us->Vals (xs.set i x) (us.set i u)
 |_,_,_,.nil=>.nil
 |_,_,0,.cons _ t=>.cons r t
 |_,_,i+1,.cons q t=>.cons q (Vals.set r i t)
theorem Vals.append:∀{xs ys:Gc V} {us ws:Gc Wp},Vals xs us->Vals ys ws->Vals (xs++ys) (us++ws)
 |_,_,_,_,.nil,s=>s
 |_,_,_,_,.cons r t,s=>.cons r (Vals.append t s)
theorem Vals.take:∀{xs:Gc V} {us:Gc Wp} (n:Nat),Vals xs us->Vals (xs.take n) (us.take n)
 |_,_,0,_=>.nil
 |_,_,_+1,.nil=>.nil
 |_,_,n+1,.cons r t=>.cons r (Vals.take n t)
theorem Vals.drop:∀{xs:Gc V} {us:Gc Wp} (n:Nat),Vals xs us->Vals (xs.drop n) (us.drop n)
 |_,_,0,r=>r
 |_,_,_+1,.nil=>.nil
 |_,_,n+1,.cons _ t=>Vals.drop n t
def gI:nG V->nG Wp->Prop
 |some v,Fk u=>RelV v u
 |none,nD=>x5
 |_,_=>qa
def KV{κ:Type}:Gc (κ×V)->Gc (κ×Wp)->Prop:=Paired λ(p:κ×V) (q:κ×Wp)=>p.1=q.1/\RelV p.2 q.2
noncomputable def kV:Key->V
 | .inl i=>.int i
 | .inr x=>.str x
inductive HO where
 |lst (xs:Gc V)
 |tup (xs:Gc V)
 |dK (kvs:Gc (Key×V))|dT (kvs:Gc (Gc Key×V))
 |set (S:Int->oQ) (n:Nat)
 |ins (C dx:nI) (fs:Gc (Str×V))
 |own (x:nI)
 |xd (fs:Gc (Str×V))
 |met (f x:nI)
 |rng (lo hi:Int)
 |frz (o:Obj) (u:HO)
 |tbl (ps:pE Wp)
 |ext (φ:oE->Prop)
abbrev Hp:=nI->nG HO
noncomputable def upd(H:Hp)(a:nI)(o:HO):Hp:=λb=>if b=a then Fk o else H b
theorem BL{H:Hp}{a:nI}{o:HO}:upd H a o a=Fk o:=by unfold upd;rw[oP rfl]
theorem Ab{H:Hp}{a b:nI}{o:HO}(h:b≠a):upd H a o b=H b:=by unfold upd;rw[oU h]
theorem BW{H:Hp}{a b:nI}{o:HO}(h:H a=Fk o)(h':H b=nD):a≠b:=by
 intro e;subst e;rw[h]at h';cases h'
section
variable(P:nv)(w:oM)
def Ds(H:Hp)(h:oE)(a:nI):HO->Prop
 | .lst xs=>xs.length<=sizeLine/\∃(its:Gc Wp) (n:Nat),Vals xs its/\h.get? a=Fk {cls:=.type "list",data:=.seq its.toArray n}
 | .tup xs=>xs.length<=sizeLine/\∃its:Gc Wp,Vals xs its/\zS h a its.toArray
 | .dK kvs=>kvs.length<=sizeLine/\(a==sysModules)=false/\∃vs,KV kvs vs/\h.DictOf (Dw P w) a vs
 | .dT kvs=>kvs.length<=sizeLine/\(a==sysModules)=false/\∃xs:Gc (Gc Key×nI×Wp),
    Paired (λ(p:Gc Key×V) (q:Gc Key×nI×Wp)=>p.1=q.1/\H q.2.1=Fk (.tup (p.1.map kV))/\RelV p.2 q.2.2) kvs xs/\
    ∃o es ep,h.get? a=Fk o/\o.ExactDict/\o.data=.dict es ep/\es.toList=xs.map (entryOfKey (tupleKind (Dw P w)))/\(xs.map (·.1)).Nodup
 | .set S n=>h.SetOf (intKind P w) a S n
 | .ins C dx fs=>H dx=Fk (.own a)/\fs.length<=1000/\dx≠a/\h.get? a=Fk (uq C dx)/\
    ∃mA,h.Ns1 dx mA/\(∀f,gI (fs.lookup f) (mA f))/\yd mA (fs.map (·.1))
 | .own _=>∃o,h.get? a=Fk o
 | .xd fs=>∃mA,h.Ns1 a mA/\∀f,gI (fs.lookup f) (mA f)
 | .rng lo hi=>∃t u v,h.get? a=Fk {cls:=.type "range",data:=.fields #[.int lo t,.int hi u,.int 1 v]}
 | .frz o u=>h.get? a=Fk o/\Ds H h a u
 | .tbl ps=>h.get? a=Fk {cls:=.none,data:=.fields ps}
 | .met f x=>h.get? a=Fk (tz (.ref f) (.ref x))
 | .ext φ=>φ h/\(∃o,h.get? a=Fk o)/\∀h1 h2:oE,φ h1->(∀o,h1.get? a=Fk o->h2.get? a=Fk o)->φ h2
def HOk(H:Hp)(h:oE):Prop:=∀a o,H a=Fk o->Ds P w H h a o
end
section
variable{P:nv}{w:oM}{H H':Hp}{h h':oE}{a:nI}{o:HO}
theorem Ds.lt(x:Ds P w H h a o):a<h.objs.size:=by
 cases o with
 |lst xs=>obtain⟨_,_,_,_,e⟩:=x;exact nj e
 |tup xs=>obtain⟨_,_,_,p⟩:=x;exact p.lt
 |dK kvs=>obtain⟨_,_,_,_,o,_,_,e,_⟩:=x;exact nj e
 |dT kvs=>obtain⟨_,_,_,_,o,_,_,e,_⟩:=x;exact nj e
 |set S n=>obtain⟨o,_,_,_,e,_⟩:=x;exact nj e
 |ins C dx fs=>obtain⟨_,_,_,e,_⟩:=x;exact nj e
 |own y=>obtain⟨_,e⟩:=x;exact nj e
 |xd fs=>obtain⟨_,⟨_,_,_,e,_⟩,_⟩:=x;exact nj e
 |rng lo hi=>obtain⟨_,_,_,e⟩:=x;exact nj e
 |frz ob u=>obtain⟨e,_⟩:=x;exact nj e
 |tbl ps=>exact nj (show h.get? a=Fk _ from x)
 |met f y=>exact nj (show h.get? a=Fk _ from x)
 |ext φ=>obtain⟨_,⟨_,e⟩,_⟩:=x;exact nj e
theorem Paired.jy{α β:Type}{F G:α->β->Prop}:∀{l₁:Gc α} {l₂:Gc β},Paired F l₁ l₂->(∀a b,F a b->G a b)->Paired G l₁ l₂
 |_,_,.nil,_=>.nil
 |_,_,.cons r t,f=>.cons (f _ _ r) (Paired.jy t f)
theorem Ds.WC(x:Ds P w H h a o)(k:∀b u,(b=a\/H b=Fk (.own a))->h.get? b=Fk u->h'.get? b=Fk u)(ho:∀b,H b=Fk (.own a)->H' b=Fk (.own a))(ht:∀b xs,H b=Fk (.tup xs)->H' b=Fk (.tup xs)):Ds P w H' h' a o:=by
 induction o with
 |lst xs=>obtain⟨z,its,n,r,e⟩:=x;exact⟨z,its,n,r,k _ _ (.inl rfl) e⟩
 |tup xs=>obtain⟨z,its,r,ob,e,c⟩:=x;exact⟨z,its,r,ob,k _ _ (.inl rfl) e,c⟩
 |dK kvs=>obtain⟨z,y,vs,r,ob,es,ep,e,c⟩:=x;exact⟨z,y,vs,r,ob,es,ep,k _ _ (.inl rfl) e,c⟩
 |dT kvs=>
  obtain⟨z,y,xs,r,ob,es,ep,e,c⟩:=x
  exact⟨z,y,xs,Paired.jy r λp q z=>⟨z.1,ht _ _ z.2.1,z.2.2⟩,ob,es,ep,k _ _ (.inl rfl) e,c⟩
 |set S n=>obtain⟨ob,es,ep,t,e,c⟩:=x;exact⟨ob,es,ep,t,k _ _ (.inl rfl) e,c⟩
 |ins C dx fs=>
  obtain⟨d,z,ne,e,mA,⟨od,es,ep,e2,c⟩,r⟩:=x
  exact⟨ho _ d,z,ne,k _ _ (.inl rfl) e,mA,⟨od,es,ep,k _ _ (.inr d) e2,c⟩,r⟩
 |own y=>obtain⟨ob,e⟩:=x;exact⟨ob,k _ _ (.inl rfl) e⟩
 |xd fs=>obtain⟨mA,⟨od,es,ep,e,c⟩,r⟩:=x;exact⟨mA,⟨od,es,ep,k _ _ (.inl rfl) e,c⟩,r⟩
 |rng lo hi=>obtain⟨t,u,v,e⟩:=x;exact⟨t,u,v,k _ _ (.inl rfl) e⟩
 |frz ob u ih=>obtain⟨e,q⟩:=x;exact⟨k _ _ (.inl rfl) e,ih q⟩
 |tbl ps=>
  have e:h.get? a=Fk {cls:=.none,data:=.fields ps}:=x
  show h'.get? a=Fk {cls:=.none,data:=.fields ps}
  exact k a _ (.inl rfl) e
 |met f y=>
  have e:h.get? a=Fk (tz (.ref f) (.ref y)):=x
  show h'.get? a=Fk (tz (.ref f) (.ref y))
  exact k a _ (.inl rfl) e
 |ext φ=>obtain⟨p,⟨o,e⟩,st⟩:=x;exact⟨st _ _ p λo q=>k _ _ (.inl rfl) q,⟨o,k _ _ (.inl rfl) e⟩,st⟩
theorem HOk.lt(x:HOk P w H h)(e:H a=Fk o):a<h.objs.size:=(x a o e).lt
theorem HOk.fresh(x:HOk P w H h)(e:h.objs.size<=a):H a=none:=by
 cases q:H a with
 |none=>rfl
 |some u=>exact absurd (nQ (x.lt q) e) (pT _)
theorem HOk.kept(x:HOk P w H h)(k:∀b u,h.get? b=Fk u->h'.get? b=Fk u):HOk P w H h':=λa o e=>
 (x a o e).WC (λb u _ q=>k b u q) (λ_ q=>q) λ_ _ q=>q
theorem HOk.laid(x:HOk P w H h)(k:∀b u,h.get? b=Fk u->h'.get? b=Fk u)(hp:h.objs.size<=a)(new:Ds P w (upd H a o) h' a o):HOk P w (upd H a o) h':=λb u e=>by
 have hn:=x.fresh hp
 by_cases hb:b=a
 .subst hb;rw[BL]at e;cases e;exact new
 .rw[Ab hb]at e
  exact(x b u e).WC (λc v _ q=>k c v q) (λc q=>by rw[Ab (BW q hn)];exact q) λc xs q=>by rw[Ab (BW q hn)];exact q
end
def Rd(H:Hp)(a:nI)(u:HO):Prop:=H a=Fk u\/∃o,H a=Fk (.frz o u)
theorem Rd.ok{P:nv}{w:oM}{H:Hp}{h:oE}{a:nI}{u:HO}(r:Rd H a u)(x:HOk P w H h):Ds P w H h a u:=by
 rcases r with r|⟨o,r⟩
 .exact x a u r
 .obtain⟨_,q⟩:=x a _ r
  exact q
def Mut:nG HO->Prop
 |some (.lst _)=>x5
 |some (.dK _)=>x5
 |some (.dT _)=>x5
 |some (.set _ _)=>x5
 |some (.ins _ _ _)=>x5
 |some (.ext _)=>x5
 |_=>qa
section
variable{P:nv}{w:oM}{H:Hp}{h h':oE}{x e:nI}{o':HO}
theorem HOk.write(ok:HOk P w H h)(mu:Mut (H x))(he:e=x\/H e=Fk (.own x))(k:∀b u,b≠e->h.get? b=Fk u->h'.get? b=Fk u)(heo:∃u,h'.get? e=Fk u)(new:Ds P w (upd H x o') h' x o'):HOk P w (upd H x o') h':=λb u q=>by
 have nown:∀c y,H c=Fk (.own y)->c≠x:=λc y r z=>by subst z;rw[r]at mu;exact mu
 have ntup:∀c xs,H c=Fk (.tup xs)->c≠x:=λc xs r z=>by subst z;rw[r]at mu;exact mu
 by_cases hb:b=x
 .subst hb;rw[BL]at q;cases q;exact new
 .rw[Ab hb]at q
  by_cases hbe:b=e
  .have q':H b=Fk (.own x):=by
    rcases he with z|z
    .exact absurd (hbe.trans z) hb
    .rw[hbe];exact z
   rw[q]at q';cases q'
   obtain⟨v,hv⟩:=heo
   exact⟨v,by rw[hbe];exact hv⟩
  .refine(ok b u q).WC (λc v hc r=>k c v ?_ r) (λc r=>by rw[Ab (nown c b r)];exact r) λc xs r=>by rw[Ab (ntup c xs r)];exact r
   rcases hc with rfl|hc
   .exact hbe
   .rintro rfl
    rcases he with z|z
    .exact nown c b hc z
    .rw[hc]at z;cases z;exact hb rfl
end
structure Un(fs ex:Gc nI)(H H':Hp)(h h':oE):Prop where
 keep:∀b o,h.get? b=Fk o->H b=nD->b∉fs->b∉ex->h'.get? b=Fk o
 slot:∀b o,h.get? b=Fk o->H b=nD->b∈fs->b∉ex->∃sl,h'.get? b=Fk {o with slots:=sl}
 free:∀b o,h.get? b=Fk o->H b=nD->b∉ex->H' b=nD
 there:∀b o,h.get? b=Fk o->b∉ex->∃o',h'.get? b=Fk o'
 Ws:∀b xs,H b=Fk (.tup xs)->H' b=Fk (.tup xs)
 Va:∀b o u,H b=Fk (.frz o u)->H' b=Fk (.frz o u)
 V4:∀b ps,H b=Fk (.tbl ps)->∃more,H' b=Fk (.tbl (ps++more))
section
variable{fs fs' ex ex':Gc nI}{H H1 H2:Hp}{h h1 h2 h':oE}{a x e:nI}{o:HO}
theorem Un.any(u:Un fs ex H H1 h h1){b:nI}{ob:Obj}(q:h.get? b=Fk ob)(n:H b=nD)(hx:b∉ex):∃sl,h1.get? b=Fk {ob with slots:=sl}:=by
 by_cases hb:b∈fs
 .exact u.slot b ob q n hb hx
 .exact⟨ob.slots,u.keep b ob q n hb hx⟩
theorem Un.kept(k:∀b u,h.get? b=Fk u->h'.get? b=Fk u):Un fs ex H H h h':=
 ⟨λb ob q _ _ _=>k b ob q,λb ob q _ _ _=>⟨ob.slots,k b ob q⟩,λ_ _ _ n _=>n,λb ob q _=>⟨ob,k b ob q⟩,λ_ _ q=>q,λ_ _ _ q=>q,λ_ ps q=>⟨#[],by rw[q];simp⟩⟩
theorem Un.refl:Un fs ex H H h h:=Un.kept λ_ _ q=>q
theorem Un.laid(k:∀b u,h.get? b=Fk u->h'.get? b=Fk u)(hp:h.objs.size<=a)(hn:H a=nD):Un fs ex H (upd H a o) h h' where
 keep:=λb u q _ _ _=>k b u q
 slot:=λb u q _ _ _=>⟨u.slots,k b u q⟩
 free:=λb u q n _=>by rw[Ab (oH (nQ (nj q) hp))];exact n
 there:=λb u q _=>⟨u,k b u q⟩
 Ws:=λb xs q=>by rw[Ab (BW q hn)];exact q
 Va:=λb u xs q=>by rw[Ab (BW q hn)];exact q
 V4:=λb ps q=>⟨#[],by rw[Ab (BW q hn),q];simp⟩
theorem Un.write(mu:Mut (H x))(he:e=x\/H e=Fk (.own x))(k:∀b u,b≠e->h.get? b=Fk u->h'.get? b=Fk u)(heo:∃u,h'.get? e=Fk u):Un fs ex H (upd H x o) h h':=by
 have hx:∀b,H b=nD->b≠x:=λb n z=>by subst z;rw[n]at mu;exact mu
 have hb:∀b,H b=nD->b≠e:=λb n z=>by
  subst z
  rcases he with r|r
  .exact hx b n r
  .rw[n]at r;cases r
 have hm:∀b u,H b=Fk u->¬Mut (Fk u)->b≠x:=λb u q nm z=>by subst z;rw[q]at mu;exact nm mu
 refine⟨λb u q n _ _=>k b u (hb b n) q,λb u q n _ _=>⟨u.slots,k b u (hb b n) q⟩,λb u q n _=>by rw[Ab (hx b n)];exact n,λb u q _=>?_,
  λb xs q=>by rw[Ab (hm b _ q λz=>z)];exact q,λb u xs q=>by rw[Ab (hm b _ q λz=>z)];exact q,λb ps q=>⟨#[],by rw[Ab (hm b _ q λz=>z),q];simp⟩⟩
 by_cases hbe:b=e
 .subst hbe;exact heo
 .exact⟨u,k b u hbe q⟩
end
noncomputable def trk(h:oE)(H:Hp):Gc nI:=(oF h.objs.size).filter λa=>(H a).isSome
noncomputable def WB(h:oE)(H:Hp):oE:=PySem.W.hideAll h (trk h H)
theorem T5(h:oE)(H:Hp):(WB h H).objs.size=h.objs.size:=PySem.W.hideAll_size _ _
theorem X2{h:oE}{H:Hp}{b:nI}{o:Obj}(e:h.get? b=Fk o)(n:H b=nD):(WB h H).get? b=Fk o:=
 PySem.W.hideAll_get _ e λhm=>by
  have q:(H b).isSome=true:=(qd.mp hm).2
  rw[n]at q;simp at q
theorem Zn{h:oE}{H:Hp}{b:nI}{o:Obj}(e:(WB h H).get? b=Fk o):h.get? b=Fk o/\H b=none:=by
 have e':h.get? b=Fk o:=PySem.W.of_hideAll (trk h H) e
 refine⟨e',?_⟩
 cases q:H b with
 |none=>rfl
 |some x=>
  have hm:b∈trk h H:=qd.mpr ⟨tO.mpr (nj e'),by simp[q]⟩
  have z:(WB h H).get? b=none:=PySem.W.hideAll_none (trk h H) hm
  rw[z]at e;cases e
noncomputable def bJ(g h:oE)(L:nI):Gc (nI×Obj):=(oF h.objs.size).filterMap λa=>if a=L\/(g.get? a).isSome=true then nD else(h.get? a).map λo=>(a,o)
noncomputable def rest(g h:oE)(L d:nI):Gc (nI×Obj):=(bJ g h L).filter λp=>decide (p.1≠d)
end L2
namespace L2
open PySem PySem.Spec PyProof.Rows
structure Mod(K:KE)(mg:Str->nG Wp)(base:oE):Prop where
 kin:K.In base
 glob:base.Ns mainGlobals mg
 blt:∃mb,base.Ns builtinsNs mb/\∀x:Str,x≠ "__name__"->mb x=bootBuiltins x
 nolimit:base.NoLimit
structure Cx where
 prog:nv
 w:oM
 K:KE
 mg:Str->nG Wp
 base:oE
 A:oN
 N:Gc Str
 s₀:nE
 H₀:Hp
 env:Env
 outer:Gc Env
 stack:Gc Env
 ex:Gc nI
 fn:Str->oQ
 calm:oQ
 pn:Gc (nI×Obj)
 xe:Wp->nE->Prop
noncomputable def frs(l:Gc Env):Gc nI:=l.filterMap (·.frame)
abbrev Cx.fs(X:Cx):Gc nI:=frs X.outer
def Vis(sc:pJ)(x:Str):Prop:=sc.names.lookup x=Fk .local\/sc.names.lookup x=Fk .cell\/sc.names.lookup x=Fk .free
def Loc(sc:pJ)(x:Str):Prop:=sc.names.lookup x=Fk .local\/sc.names.lookup x=Fk .cell
def Look(env:Env)(h:oE)(m:Str->nG Wp)(x:Str)(u:Wp):Prop:=
 (env.kindOf x=Fk .local/\m x=Fk u)\/((env.kindOf x=Fk .cell\/env.kindOf x=Fk .free)/\∃c,env.cells.lookup x=Fk c/\h.IsCell c (Fk u))
structure Cx.Ok(X:Cx):Prop where
 mod:Mod X.K X.mg X.base
 kind:X.env.scope.kind=.function
 glob:X.env.globals=mainGlobals
 blt:X.env.builtins=builtinsNs
 above:X.s₀.heap.objs.size<=X.env.locals
 inj:∀x y c,X.env.cells.lookup x=Fk c->X.env.cells.lookup y=Fk c->x=y
 has:∀x,(X.env.kindOf x=Fk .cell\/X.env.kindOf x=Fk .free)->∃c,X.env.cells.lookup x=Fk c
 cab:∀x c,X.fn x=true->X.env.cells.lookup x=Fk c->X.s₀.heap.objs.size<=c
 hd:X.calm=true->X.A.handled=nD
 frames:X.A.frames=Fk X.stack
 stk:X.stack=X.outer\/(X.stack=X.env::X.outer/\X.env.frame=Fk X.env.locals)
 exf:∀b∈X.ex,b≠X.env.locals/\∀x c,X.env.cells.lookup x=Fk c->c≠b
 bs:∀b o,X.base.get? b=Fk o->X.s₀.heap.get? b=Fk o/\X.H₀ b=nD
 bsz:X.base.objs.size<=X.s₀.heap.objs.size
 Yj:∀b o,X.base.get? b=Fk o->b∉X.ex
 af:∀b∈X.ex,b∉X.fs
 R6:X.s₀.heap.FunFrames X.base X.outer
 frf:∀b∈X.fs,X.H₀ b=nD
structure Inv(X:Cx)(pins:Gc (nI×Obj))(σ:Gc (nG V))(H:Hp)(s:nE):Prop where
 ok:X.Ok
 os:s.os=X.s₀.os
 bare:rf s.gens
 base:Un X.fs X.ex X.H₀ H X.s₀.heap s.heap
 loc:∃m,s.heap.Ns X.env.locals m/\∀(i:Nat) (x:Str) (v:V),X.N[i]?=Fk x->σ[i]?=Fk (Fk v)->Vis X.env.scope x->∃u,RelV v u/\Look X.env s.heap m x u
 cell:∀x c,X.env.cells.lookup x=Fk c->∃v,s.heap.IsCell c v
 free:H X.env.locals=nD
 Jt:∀x c,X.env.cells.lookup x=Fk c->H c=nD
 pin:∀p∈X.pn++pins,s.heap.get? p.1=Fk p.2/\H p.1=nD/\p.1≠X.env.locals/\p.1∉X.fs/\∀v,p.2.data≠.cell v
 hok:HOk X.prog X.w H s.heap
 len:σ.length=X.N.length
section
variable{X:Cx}{pins:Gc (nI×Obj)}{σ:Gc (nG V)}{H H':Hp}{s:nE}{h':oE}
theorem Cx.Ok.lh(ok:X.Ok){b:nI}{o:Obj}(e:X.base.get? b=Fk o):b∉X.fs:=λhb=>by
 have:=(ok.R6.mem hb).1
 rw[e]at this;cases this
theorem Inv.bs(I:Inv X pins σ H s):∀b o,X.base.get? b=Fk o->s.heap.get? b=Fk o/\H b=none:=λb o e=>
 ⟨I.base.keep b o (I.ok.bs b o e).1 (I.ok.bs b o e).2 (I.ok.lh e) (I.ok.Yj b o e),I.base.free b o (I.ok.bs b o e).1 (I.ok.bs b o e).2 (I.ok.Yj b o e)⟩
theorem Inv.bk(I:Inv X pins σ H s):∀b o,X.base.get? b=Fk o->s.heap.get? b=Fk o:=λb o e=>(I.bs b o e).1
theorem Inv.mod(I:Inv X pins σ H s):Mod X.K X.mg X.base:=I.ok.mod
theorem Inv.kIn(I:Inv X pins σ H s):X.K.In s.heap:=I.ok.mod.kin.keeps I.bk
theorem Inv.nolimit(I:Inv X pins σ H s):s.heap.NoLimit:=I.ok.mod.nolimit.keeps I.bk
theorem Inv.lt(I:Inv X pins σ H s):X.env.locals<s.heap.objs.size:=let⟨_,hn,_⟩:=I.loc;hn.lt
theorem Inv.sz(I:Inv X pins σ H s):X.s₀.heap.objs.size<=s.heap.objs.size:=nR I.ok.above (tH I.lt)
theorem Inv.mJ(I:Inv X pins σ H s){a:nI}(h:s.heap.objs.size<=a):a∉X.fs:=λhb=>by
 obtain⟨_,o,ho,_⟩:=I.ok.R6.mem hb
 exact absurd (nQ (nj ho) (nR I.sz h)) (pT _)
theorem Inv.cne(I:Inv X pins σ H s):∀x c,X.env.cells.lookup x=Fk c->c≠X.env.locals:=λx c e z=>by
 obtain⟨v,o,ho,hd⟩:=I.cell x c e
 obtain⟨m,⟨o',es,ep,ho',hd',_⟩,_⟩:=I.loc
 rw[z,ho']at ho;cases ho;rw[hd']at hd;cases hd
theorem Inv.R6(I:Inv X pins σ H s):s.heap.FunFrames X.base X.outer:=by
 have all:∀(l:Gc Env),(∀b∈frs l,b∈X.fs)->X.s₀.heap.FunFrames X.base l->s.heap.FunFrames X.base l:=by
  intro l
  induction l with
  |nil=>intro _ _;trivial
  |cons env r ih=>
   intro hs hl
   obtain⟨hk,⟨L,o,hf,hn,ho,hd⟩,hr⟩:=hl
   have hL:L∈X.fs:=hs L (by unfold frs;rw[oR,hf];exact nT)
   obtain⟨sl,e⟩:=I.base.slot L o ho (I.ok.frf L hL) hL λz=>I.ok.af L z hL
   exact⟨hk,⟨L,_,hf,hn,e,hd⟩,ih (λb hb=>hs b (by unfold frs;rw[oR,hf];exact nK _ hb)) hr⟩
 exact all X.outer (λ_ hb=>hb) I.ok.R6
theorem Inv.stack(I:Inv X pins σ H s):s.heap.FunFrames X.base X.stack:=by
 rcases I.ok.stk with e|⟨e,hf⟩
 .rw[e];exact I.R6
 .rw[e]
  obtain⟨m,hn,_⟩:=I.loc
  refine .cons (by rw[I.ok.kind];decide) hf hn ?_ I.R6
  exact Heap.get?_none_of_le (nR I.ok.bsz I.ok.above)
theorem Inv.U3(I:Inv X pins σ H s):∀b∈frs X.stack,b∈X.env.locals::X.fs:=λb hb=>by
 rcases I.ok.stk with e|⟨e,hf⟩
 .rw[e]at hb;exact nK _ hb
 .rw[e]at hb
  unfold frs at hb
  rw[oR,hf]at hb
  exact hb
theorem Inv.RH(I:Inv X pins σ H s):∀b∈frs X.stack,H b=none:=λb hb=>by
 rcases nO.mp (I.U3 b hb)with e|hb
 .rw[e];exact I.free
 .obtain⟨_,o,ho,_⟩:=I.ok.R6.mem hb
  exact I.base.free b o ho (I.ok.frf b hb) λz=>I.ok.af b z hb
theorem Inv.step{g':pE GenState}{t':Nat}{d':Drawn}{ch:Gc nI}(I:Inv X pins σ H s)(hch:∀b∈ch,(b∈X.ex\/X.s₀.heap.objs.size<=b)/\b≠X.env.locals/\(∀x c,X.env.cells.lookup x=Fk c->c≠b)/\∀p∈X.pn++pins,p.1≠b)(keep:∀b o,b≠X.env.locals->b∉X.fs->b∉ch->s.heap.get? b=Fk o->H b=nD->h'.get? b=Fk o)(slot:∀b o,b≠X.env.locals->b∈X.fs->b∉ch->s.heap.get? b=Fk o->H b=nD->∃sl,h'.get? b=Fk {o with slots:=sl})(free:∀b o,b∉ch->s.heap.get? b=Fk o->H b=nD->H' b=nD)(there:∀b o,b∉ch->s.heap.get? b=Fk o->∃o',h'.get? b=Fk o')(Ws:∀b xs,H b=Fk (.tup xs)->H' b=Fk (.tup xs))(Va:∀b o u,H b=Fk (.frz o u)->H' b=Fk (.frz o u))(V4:∀b ps,H b=Fk (.tbl ps)->∃more,H' b=Fk (.tbl (ps++more)))(ns:∀m,s.heap.Ns X.env.locals m->h'.Ns X.env.locals m)(hok:HOk X.prog X.w H' h')(hg:rf g'):Inv X pins σ H' {s with heap:=h',gens:=g',drawn:=d',toks:=t'}:=by
 have neL:∀b o,X.s₀.heap.get? b=Fk o->b≠X.env.locals:=λb o e=>oH (nQ (nj e) I.ok.above)
 have neC:∀b o,X.s₀.heap.get? b=Fk o->b∉X.ex->b∉ch:=λb o e hx hb=>by
  rcases(hch b hb).1 with z|z
  .exact hx z
  .exact absurd (nQ (nj e) z) (pT _)
 have cellK:∀x c,X.env.cells.lookup x=Fk c->∀v,s.heap.IsCell c v->h'.IsCell c v:=λx c e v ⟨o,ho,hd⟩=>by
  have nch:c∉ch:=λz=>(hch c z).2.2.1 x c e rfl
  by_cases hc:c∈X.fs
  .obtain⟨sl,q⟩:=slot c o (I.cne x c e) hc nch ho (I.Jt x c e)
   exact⟨_,q,hd⟩
  .exact⟨o,keep c o (I.cne x c e) hc nch ho (I.Jt x c e),hd⟩
 refine⟨I.ok,I.os,hg,⟨λb o e n hb hx=>?_,λb o e n hb hx=>?_,λb o e n hx=>?_,λb o e hx=>?_,λb xs e=>Ws b xs (I.base.Ws b xs e),λb o xs e=>Va b o xs (I.base.Va b o xs e),λb ps e=>?_⟩,?_,λx c e=>?_,?_,λx c e=>?_,λp hp=>?_,hok,I.len⟩
 .exact keep b o (neL b o e) hb (neC b o e hx) (I.base.keep b o e n hb hx) (I.base.free b o e n hx)
 .obtain⟨sl,e1⟩:=I.base.slot b o e n hb hx
  obtain⟨sl',e2⟩:=slot b _ (neL b o e) hb (neC b o e hx) e1 (I.base.free b o e n hx)
  exact⟨sl',e2⟩
 .obtain⟨o',e1⟩:=I.base.there b o e hx
  exact free b o' (neC b o e hx) e1 (I.base.free b o e n hx)
 .obtain⟨o',e1⟩:=I.base.there b o e hx
  exact there b o' (neC b o e hx) e1
 .obtain⟨m1,e1⟩:=I.base.V4 b ps e
  obtain⟨m2,e2⟩:=V4 b _ e1
  exact⟨m1++m2,by rw[e2,Array.append_assoc]⟩
 .obtain⟨m,hn,hl⟩:=I.loc
  refine⟨m,ns m hn,λi x v e1 e2 e3=>?_⟩
  obtain⟨u,r,l⟩:=hl i x v e1 e2 e3
  refine⟨u,r,?_⟩
  rcases l with l|⟨k,c,e,z⟩
  .exact .inl l
  .exact .inr ⟨k,c,e,cellK x c e _ z⟩
 .obtain⟨v,z⟩:=I.cell x c e
  exact⟨v,cellK x c e v z⟩
 .obtain⟨m,⟨o,_,_,ho,_⟩,_⟩:=I.loc
  exact free _ o (λz=>(hch _ z).2.1 rfl) ho I.free
 .obtain⟨v,o,ho,hd⟩:=I.cell x c e
  exact free c o (λz=>(hch c z).2.2.1 x c e rfl) ho (I.Jt x c e)
 .obtain⟨e,n,ne,nf,d⟩:=I.pin p hp
  have nch:p.1∉ch:=λz=>(hch p.1 z).2.2.2 p hp rfl
  exact⟨keep p.1 p.2 ne nf nch e n,free p.1 p.2 nch e n,ne,nf,d⟩
theorem Inv.un{t':Nat}(I:Inv X pins σ H s)(u:Un X.fs [] H H' s.heap h')(hok:HOk X.prog X.w H' h'):Inv X pins σ H' {s with heap:=h',toks:=t'}:=by
 obtain⟨m,⟨o,es,ep,ho,r⟩,_⟩:=id I.loc
 obtain⟨sl,hL⟩:=u.any ho I.free (by simp)
 exact I.step (g':=s.gens) (d':=s.drawn) (ch:=[]) (λ_ z=>nomatch z) (λb o _ hb _ e n=>u.keep b o e n hb (by simp)) (λb o _ hb _ e n=>u.slot b o e n hb (by simp)) (λb o _ e n=>u.free b o e n (by simp)) (λb o _ e=>u.there b o e (by simp)) u.Ws u.Va u.V4 (λm' hm=>by
  obtain⟨o',es',ep',ho',r'⟩:=hm
  rw[ho]at ho';cases ho'
  exact⟨_,es',ep',hL,r'⟩) hok I.bare
theorem Inv.call{g':pE GenState}{t':Nat}{d':Drawn}{ch:Gc nI}(I:Inv X pins σ H s)(u:Un (frs X.stack) ch H H' s.heap h')(hok:HOk X.prog X.w H' h')(hg:rf g')(hch:∀b∈ch,(b∈X.ex\/X.s₀.heap.objs.size<=b)/\b≠X.env.locals/\(∀x c,X.env.cells.lookup x=Fk c->c≠b)/\∀p∈X.pn++pins,p.1≠b):Inv X pins σ H' {s with heap:=h',gens:=g',drawn:=d',toks:=t'}:=by
 obtain⟨m,⟨o,es,ep,ho,r⟩,_⟩:=id I.loc
 obtain⟨sl,hL⟩:=u.any ho I.free λz=>(hch _ z).2.1 rfl
 exact I.step (ch:=ch) hch (λb o hL hb hc e n=>u.keep b o e n (λz=>(nO.mp (I.U3 b z)).elim hL hb) hc) (λb o _ _ hc e n=>u.any e n hc) (λb o hc e n=>u.free b o e n hc) (λb o hc e=>u.there b o e hc) u.Ws u.Va u.V4 (λm' hm=>by
  obtain⟨o',es',ep',ho',r'⟩:=hm
  rw[ho]at ho';cases ho'
  exact⟨_,es',ep',hL,r'⟩) hok hg
theorem Inv.turned{t':Nat}{it:nI}(I:Inv X pins σ H s)(k:∀b o,b≠it->s.heap.get? b=Fk o->h'.get? b=Fk o)(hn:H it=nD)(hL:it≠X.env.locals)(h1:it∈X.ex\/X.s₀.heap.objs.size<=it)(h2:∀x c,X.env.cells.lookup x=Fk c->c≠it)(h3:∀p∈X.pn++pins,p.1≠it):Inv X pins σ H {s with heap:=h',toks:=t'}:=by
 have nit:∀b u,H b=Fk u->b≠it:=λb u e z=>by rw[z,hn]at e;cases e
 refine I.step (g':=s.gens) (d':=s.drawn) (ch:=[it]) (λb hb=>?_) (λb o _ _ hc e _=>k b o (λz=>hc (by simp[z])) e) (λb o _ _ hc e _=>⟨o.slots,k b o (λz=>hc (by simp[z])) e⟩) (λ_ _ _ _ n=>n)
  (λb o hc e=>⟨o,k b o (λz=>hc (by simp[z])) e⟩) (λ_ _ e=>e) (λ_ _ _ e=>e) (λb ps e=>⟨#[],by rw[e];simp⟩) (λm hm=>?_) (λb u e=>?_) I.bare
 .have e:b=it:=by simpa using hb
  subst e
  exact⟨h1,hL,h2,h3⟩
 .obtain⟨o,es,ep,ho,r⟩:=hm
  exact⟨o,es,ep,k _ o (pb hL) ho,r⟩
 .refine(I.hok b u e).WC (λc v hc q=>k c v ?_ q) (λ_ q=>q) λ_ _ q=>q
  rcases hc with z|z
  .rw[z];exact nit b u e
  .exact nit c _ z
theorem Inv.tok(I:Inv X pins σ H s)(t:Nat):Inv X pins σ H {s with toks:=t}:=I.un (h':=s.heap) (t':=t) Un.refl I.hok
theorem Inv.kept{t':Nat}(I:Inv X pins σ H s)(k:∀b u,s.heap.get? b=Fk u->h'.get? b=Fk u):Inv X pins σ H {s with heap:=h',toks:=t'}:=I.un (Un.kept k) (I.hok.kept k)
theorem Inv.laid{a:nI}{o:HO}{t':Nat}(I:Inv X pins σ H s)(k:∀b u,s.heap.get? b=Fk u->h'.get? b=Fk u)(hp:s.heap.objs.size<=a)(new:Ds X.prog X.w (upd H a o) h' a o):Inv X pins σ (upd H a o) {s with heap:=h',toks:=t'}:=I.un (Un.laid k hp (I.hok.fresh hp)) (I.hok.laid k hp new)
theorem Inv.write{x e:nI}{o:HO}{t':Nat}(I:Inv X pins σ H s)(mu:Mut (H x))(he:e=x\/H e=Fk (.own x))(k:∀b u,b≠e->s.heap.get? b=Fk u->h'.get? b=Fk u)(heo:∃u,h'.get? e=Fk u)(new:Ds X.prog X.w (upd H x o) h' x o):Inv X pins σ (upd H x o) {s with heap:=h',toks:=t'}:=I.un (Un.write mu he k heo) (I.hok.write mu he k heo new)
theorem Inv.UA{pins':Gc (nI×Obj)}(I:Inv X pins σ H s)(h:∀p∈pins',s.heap.get? p.1=Fk p.2/\H p.1=nD/\p.1≠X.env.locals/\p.1∉X.fs/\∀v,p.2.data≠.cell v):Inv X pins' σ H s:=
 ⟨I.ok,I.os,I.bare,I.base,I.loc,I.cell,I.free,I.Jt,λp hp=>(oD.mp hp).elim (λz=>I.pin p (sf _ z)) (h p),I.hok,I.len⟩
theorem R1{N:Gc Str}(hN:N.Nodup){i j:Nat}{x:Str}(a:N[i]?=Fk x)(b:N[j]?=Fk x):i=j:=by
 obtain⟨h1,e1⟩:=nP.mp a
 obtain⟨h2,e2⟩:=nP.mp b
 exact(List.getElem_inj hN).mp (e1.trans e2.symm)
theorem QJ{M:vo}{A:oN}{E:Wp->nE->Prop}{i:Nat}{x:Str}{v:V}{u:Wp}{Q:Unit->nE->Prop}(I:Inv X pins σ H s)(hN:X.N.Nodup)(hi:X.N[i]?=Fk x)(hx:Loc X.env.scope x)(r:RelV v u)(h:∀s',Inv X pins (σ.set i (Fk v)) H s'->(∃a,rm a s.heap s'.heap/\(a=X.env.locals\/X.env.cells.lookup x=Fk a))->Q () s')(hf:X.fn x=true\/X.env.scope.names.lookup x=Fk .local:=by first|exact .inl rfl|exact .inr rfl|assumption):wpAny M A (storeName X.env x u) Q E s:=by
 obtain⟨m,hn,hl⟩:=id I.loc
 have hcls:(X.env.scope.kind== .class||(X.env.scope.kind== .module && X.env.locals !=X.env.globals))=false:=by rw[I.ok.kind];rfl
 have hiσ:i<σ.length:=by rw[I.len];exact(nP.mp hi).1
 have cne:=I.cne
 have tracked:∀{a:nI} {h':oE},(∃o,s.heap.get? a=Fk o/\H a=nD)->rm a s.heap h'->HOk X.prog X.w H h':=λ{a h'} ha hs b ob e=>by
  obtain⟨_,_,hfree⟩:=ha
  refine(I.hok b ob e).WC (λc w' hc q=>(hs.2 c ?_).trans q) (λ_ q=>q) λ_ _ q=>q
  rintro rfl
  rcases hc with rfl|hc
  .rw[hfree]at e;cases e
  .rw[hfree]at hc;cases hc
 rcases hx with hk|hk
 .refine wpAny_storeName_local hk hn (λh' hn' hs=>?_) hcls
  obtain⟨oL,_,_,hoL,_⟩:=id hn
  refine h _ ⟨I.ok,I.os,I.bare,⟨λb o e n hb hx=>?_,λb o e n hb hx=>?_,I.base.free,λb o e hx=>?_,I.base.Ws,I.base.Va,I.base.V4⟩,⟨_,hn',λj y v' e1 e2 e3=>?_⟩,λy c e=>?_,I.free,I.Jt,λp hp=>?_,tracked ⟨oL,hoL,I.free⟩ hs,by simpa using I.len⟩ ⟨_,hs,.inl rfl⟩
  .exact(hs.2 b (oH (nQ (nj e) I.ok.above))).trans (I.base.keep b o e n hb hx)
  .obtain⟨sl,e1⟩:=I.base.slot b o e n hb hx
   exact⟨sl,(hs.2 b (oH (nQ (nj e) I.ok.above))).trans e1⟩
  .obtain⟨o',e1⟩:=I.base.there b o e hx
   exact⟨o',(hs.2 b (oH (nQ (nj e) I.ok.above))).trans e1⟩
  .by_cases hj:j=i
   .subst hj
    rw[hi]at e1;cases e1
    rw[nZ hiσ]at e2
    cases e2
    exact⟨u,r,.inl ⟨hk,by simp⟩⟩
   .rw[nN (pb hj)]at e2
    obtain⟨u',r',q⟩:=hl j y v' e1 e2 e3
    refine⟨u',r',?_⟩
    rcases q with⟨k,e⟩|⟨k,c,e,z⟩
    .refine .inl ⟨k,?_⟩
     have:y≠x:=λe=>hj (R1 hN e1 (e▸hi))
     simp[this,e]
    .exact .inr ⟨k,c,e,z.sameBut hs (cne y c e)⟩
  .obtain⟨w',z⟩:=I.cell y c e
   exact⟨w',z.sameBut hs (cne y c e)⟩
  .obtain⟨e,n,ne,nf,d⟩:=I.pin p hp
   exact⟨(hs.2 p.1 ne).trans e,n,ne,nf,d⟩
 .have hfn:X.fn x=true:=by
   rcases hf with z|z
   .exact z
   .rw[z]at hk;cases hk
  obtain⟨c,hc⟩:=I.ok.has x (.inl hk)
  obtain⟨w',z⟩:=I.cell x c hc
  refine wpAny_storeName_cell I.ok.kind hk hc z (λh' hc' hs=>?_)
  obtain⟨oc,hoc,hocd⟩:=id z
  refine h {s with heap:=h'} ⟨I.ok,I.os,I.bare,⟨λb o e n hb hx=>?_,λb o e n hb hx=>?_,I.base.free,λb o e hx=>?_,I.base.Ws,I.base.Va,I.base.V4⟩,⟨m,hn.sameBut hs (pb (cne x c hc)),λj y v' e1 e2 e3=>?_⟩,λy c' e=>?_,I.free,I.Jt,λp hp=>?_,tracked ⟨oc,hoc,I.Jt x c hc⟩ hs,by simpa using I.len⟩ ⟨c,hs,.inr hc⟩
  .exact(hs.2 b (oH (nQ (nj e) (I.ok.cab x c hfn hc)))).trans (I.base.keep b o e n hb hx)
  .obtain⟨sl,e1⟩:=I.base.slot b o e n hb hx
   exact⟨sl,(hs.2 b (oH (nQ (nj e) (I.ok.cab x c hfn hc)))).trans e1⟩
  .obtain⟨o',e1⟩:=I.base.there b o e hx
   exact⟨o',(hs.2 b (oH (nQ (nj e) (I.ok.cab x c hfn hc)))).trans e1⟩
  .by_cases hj:j=i
   .subst hj
    rw[hi]at e1;cases e1
    rw[nZ hiσ]at e2
    cases e2
    exact⟨u,r,.inr ⟨.inl hk,c,hc,hc'⟩⟩
   .rw[nN (pb hj)]at e2
    obtain⟨u',r',q⟩:=hl j y v' e1 e2 e3
    refine⟨u',r',?_⟩
    rcases q with q|⟨k,c',e,z'⟩
    .exact .inl q
    .refine .inr ⟨k,c',e,z'.sameBut hs ?_⟩
     rintro rfl
     exact hj (R1 hN e1 (I.ok.inj _ _ _ e hc▸hi))
  .by_cases hcc:c'=c
   .subst hcc;exact⟨_,hc'⟩
   .obtain⟨w2,z2⟩:=I.cell y c' e
    exact⟨w2,z2.sameBut hs hcc⟩
  .obtain⟨e,n,ne,nf,d⟩:=I.pin p hp
   refine⟨(hs.2 p.1 ?_).trans e,n,ne,nf,d⟩
   intro q
   rw[q,hoc]at e
   have q':oc=p.2:=oy e
   exact d w' (by rw[<-q'];exact hocd)
theorem Lk{M:vo}{A:oN}{E:Wp->nE->Prop}{i:Nat}{x:Str}{v:V}{u:Wp}{Q:Unit->nE->Prop}(I:Inv X pins σ H s)(hN:X.N.Nodup)(hi:X.N[i]?=Fk x)(hx:Loc X.env.scope x)(r:RelV v u)(h:∀s',Inv X pins (σ.set i (Fk v)) H s'->Q () s')(hf:X.fn x=true\/X.env.scope.names.lookup x=Fk .local:=by first|exact .inl rfl|exact .inr rfl|assumption):wpAny M A (storeName X.env x u) Q E s:=
 QJ I hN hi hx r (λs' I' _=>h s' I') hf
theorem Inv.aH{s':nE}{ch:Gc nI}(I:Inv X pins σ H s)(ho:s'.os=s.os)(u:Un (frs X.stack) ch H H' s.heap s'.heap)(hok:HOk X.prog X.w H' s'.heap)(hg:rf s'.gens)(hch:∀b∈ch,(b∈X.ex\/X.s₀.heap.objs.size<=b)/\b≠X.env.locals/\(∀x c,X.env.cells.lookup x=Fk c->c≠b)/\∀p∈X.pn++pins,p.1≠b):Inv X pins σ H' s':=by
 obtain⟨h',g',d',t',o'⟩:=s'
 have e:o'=s.os:=ho
 subst e
 exact I.call (g':=g') (t':=t') (d':=d') u hok hg hch
end
abbrev XK:=Wp->nG nI->Hp->Prop
abbrev St:=Gc (nG V)
abbrev VK:=V->Hp->Prop
abbrev TE:=St->Hp->VK->Prop
abbrev TT:=St->Hp->(oQ->Hp->Prop)->Prop
abbrev TA:=St->Hp->(Gc V->Hp->Prop)->Prop
structure Ends where
 nx:St->Hp->Prop
 rt:VK
 bk:St->Hp->Prop:=λ_ _=>qa
 ct:St->Hp->Prop:=λ_ _=>qa
abbrev TS:=Ends->St->Hp->Prop
def EP(X:Cx)(pins:Gc (nI×Obj))(σ:St)(Q:VK)(u:Wp)(s':nE):Prop:=∃v H',Inv X pins σ H' s'/\RelV v u/\Q v H'
def TP(X:Cx)(pins:Gc (nI×Obj))(σ:St)(Q:oQ->Hp->Prop)(b:oQ)(s':nE):Prop:=∃H',Inv X pins σ H' s'/\Q b H'
def AP(X:Cx)(pins:Gc (nI×Obj))(σ:St)(Q:Gc V->Hp->Prop)(us:Gc Wp)(s':nE):Prop:=∃vs H',Inv X pins σ H' s'/\Vals vs us/\Q vs H'
def SP(X:Cx)(pins:Gc (nI×Obj))(D:Ends)(f:Flow)(s':nE):Prop:=
 match f with
 | .next=>∃σ' H',Inv X pins σ' H' s'/\D.nx σ' H'
 | .brk=>∃σ' H',Inv X pins σ' H' s'/\D.bk σ' H'
 | .cont=>∃σ' H',Inv X pins σ' H' s'/\D.ct σ' H'
 | .ret u=>∃v σ' H',Inv X pins σ' H' s'/\RelV v u/\D.rt v H'
def PE(X:Cx)(e:oA)(t:TE):Prop:=
 ∀(pins:Gc (nI×Obj)) (s:nE) (σ:St) (H:Hp) (Q:VK),Inv X pins σ H s->t σ H Q->wpAny (model X.prog X.w) X.A (eval e X.env) (EP X pins σ Q) X.xe s
def PT(X:Cx)(e:oA)(t:TT):Prop:=
 ∀(pins:Gc (nI×Obj)) (s:nE) (σ:St) (H:Hp) (Q:oQ->Hp->Prop),Inv X pins σ H s->t σ H Q->wpAny (model X.prog X.w) X.A (isTrue e X.env (eval e X.env)) (TP X pins σ Q) X.xe s
def PW(X:Cx)(e:oA)(t:TT):Prop:=
 ∀(whole:Sem Wp) (pins:Gc (nI×Obj)) (s:nE) (σ:St) (H:Hp) (Q:oQ->Hp->Prop),Inv X pins σ H s->t σ H Q->wpAny (model X.prog X.w) X.A (isTrue e X.env whole) (TP X pins σ Q) X.xe s
theorem PW.pt{X:Cx}{e:oA}{t:TT}(h:PW X e t):PT X e t:=h _
def PA(X:Cx)(es:Gc oA)(t:TA):Prop:=
 ∀(pos:Pos) (pins:Gc (nI×Obj)) (s:nE) (σ:St) (H:Hp) (Q:Gc V->Hp->Prop),Inv X pins σ H s->t σ H Q->wpAny (model X.prog X.w) X.A (spliced (backTo pos (nk es X.env))) (AP X pins σ Q) X.xe s
def PS(X:Cx)(st:oK)(t:TS):Prop:=
 ∀(pins:Gc (nI×Obj)) (s:nE) (σ:St) (H:Hp) (D:Ends),Inv X pins σ H s->t D σ H->wpAny (model X.prog X.w) X.A (exec st X.env) (SP X pins D) X.xe s
def PSs(X:Cx)(st:Gc oK)(t:TS):Prop:=
 ∀(pins:Gc (nI×Obj)) (s:nE) (σ:St) (H:Hp) (D:Ends),Inv X pins σ H s->t D σ H->wpAny (model X.prog X.w) X.A (execs st X.env) (SP X pins D) X.xe s
theorem thn{α:Type}{t:Sem α}{Q Q':α->nE->Prop}{M:vo}{A:oN}{E:Wp->nE->Prop}{s:nE}(h:wpAny M A t Q E s)(hQ:∀a s,Q a s->Q' a s):wpAny M A t Q' E s:=pW h hQ λ_ _ x=>x
end L2
namespace L2
open PySem PySem.Spec PyProof.Rows
section
variable{X:Cx}
noncomputable def mS(i:Nat):TE:=λσ H Q=>∃v,σ[i]?=Fk (Fk v)/\Q v H
noncomputable def tC(v:V):TE:=λ_ H Q=>Q v H
theorem U6{i:Nat}{x:Str}{pos:Pos}(hN:X.N[i]?=Fk x)(hv:Vis X.env.scope x)(hd:(x==("__debug__":Str))=false:=by decide)(hcd:(x==("__classdict__":Str))=false:=by decide):PE X (.Name x pos) (mS i):=by
 intro pins s σ H Q I h
 obtain⟨v,e,h⟩:=h
 obtain⟨m,hn,hl⟩:=I.loc
 obtain⟨u,r,l⟩:=hl i x v hN e hv
 have fin:EP X pins σ Q u s:=⟨v,H,I,r,h⟩
 rcases l with⟨hk,hm⟩|⟨hk,c,hc,hcell⟩
 .exact xN (wpAny_loadName_local I.ok.kind hk hn hm fin) hd
 .rcases hk with hk|hk
  .exact xN (wpAny_loadName_cell I.ok.kind hk hc hcell fin) hd
  .exact xN (wpAny_loadName_free I.ok.kind hk hc hcell fin hcd) hd
theorem eU{i j pos}:PE X (.Constant (.int i) j pos) (tC (.int i)):=λ_ _ _ H _ I h=>wpAny_Constant_int ⟨.int i,H,I.tok _,⟨_,rfl⟩,h⟩
theorem jU{b j pos}:PE X (.Constant (.bool b) j pos) (tC (.bl b)):=λ_ _ _ H _ I h=>Constant_bool ⟨.bl b,H,I,rfl,h⟩
theorem d9{j pos}:PE X (.Constant .none j pos) (tC .non):=λ_ _ _ H _ I h=>Constant_none ⟨.non,H,I,rfl,h⟩
theorem cU{x j pos}:PE X (.Constant (.str x) j pos) (tC (.str x)):=λ_ _ _ H _ I h=>Calls.Constant_str ⟨.str x,H,I.tok _,⟨_,rfl⟩,h⟩
def Gl(X:Cx)(x:Str):Prop:=X.env.kindOf x=Fk .globalImplicit
theorem NB{E:Wp->nE->Prop}{pins:Gc (nI×Obj)}{s:nE}{σ:St}{H:Hp}{x:Str}{u:Wp}{pos:Pos}{Q:Wp->nE->Prop}(I:Inv X pins σ H s)(hg:Gl X x)(hm:X.mg x=Fk u)(h:Q u s)(hd:(x==("__debug__":Str))=false:=by decide):wpAny (model X.prog X.w) X.A (eval (.Name x pos) X.env) Q E s:=
 rE I.ok.kind hg (uP (by rw[I.ok.glob];exact I.mod.glob.keeps I.bk) hm h) hd
theorem LF{E:Wp->nE->Prop}{pins:Gc (nI×Obj)}{s:nE}{σ:St}{H:Hp}{x:Str}{u:Wp}{pos:Pos}{Q:Wp->nE->Prop}(I:Inv X pins σ H s)(hg:Gl X x)(hm:X.mg x=nD)(hv:bootBuiltins x=Fk u)(h:Q u s)(hn:x≠ "__name__":=by decide)(hd:(x==("__debug__":Str))=false:=by decide):wpAny (model X.prog X.w) X.A (eval (.Name x pos) X.env) Q E s:=by
 obtain⟨mb,h1,h2⟩:=I.mod.blt
 exact rE I.ok.kind hg (Calls.loadGlobal_builtin (by rw[I.ok.glob];exact I.mod.glob.keeps I.bk) hm (by rw[I.ok.blt];exact h1.keeps I.bk) ((h2 x hn).trans hv) h) hd
theorem aU{x:Str}{v:V}{u:Wp}{pos:Pos}(hg:Gl X x)(hm:X.mg x=Fk u)(r:RelV v u)(hd:(x==("__debug__":Str))=false:=by decide):PE X (.Name x pos) (tC v):=
 λ_ _ _ H _ I h=>NB I hg hm ⟨v,H,I,r,h⟩ hd
theorem Z8{x:Str}{v:V}{u:Wp}{pos:Pos}(hg:Gl X x)(hm:X.mg x=nD)(hv:bootBuiltins x=Fk u)(r:RelV v u)(hn:x≠ "__name__":=by decide)(hd:(x==("__debug__":Str))=false:=by decide):PE X (.Name x pos) (tC v):=
 λ_ _ _ H _ I h=>LF I hg hm hv ⟨v,H,I,r,h⟩ hn hd
variable{a b:oA}{ta tb:TE}{pos:Pos}
noncomputable def tB(t:TE):TT:=λσ H Q=>t σ H λx H1=>∃c,x=.bl c/\Q c H1
theorem cw{e:oA}{t:TE}(h:PE X e t)(he:∀whole,isTrue e X.env whole=(do let v<-whole;standAt e.pos;holding [v] (truthy v)):=by intro _;rfl):PT X e (tB t):=by
 intro pins s σ H Q I hw
 refine isTrue_plain (thn (h pins s σ H _ I hw) λv s1 ⟨x,H1,I1,r1,q1⟩=>?_) (he _)
 obtain⟨d,rfl,q⟩:=q1
 cases r1
 exact rB ⟨H1,I1,q⟩
variable{tA tB':TT}{rest:Gc oA}
noncomputable def lK(t u:TT):TT:=λσ H Q=>t σ H λc H1=>if c=true then u σ H1 Q else Q false H1
noncomputable def tOr(t u:TT):TT:=λσ H Q=>t σ H λc H1=>if c=true then Q true H1 else u σ H1 Q
noncomputable def l0(t:TT):TT:=λσ H Q=>t σ H λc H1=>Q (!c) H1
theorem aL(ha:PT X a tA):PW X (.BoolOp .And [a] pos) tA:=by
 intro wh pins s σ H Q I h
 refine isTrue_and (thn (ha pins s σ H Q I h) λc s1 e=>?_)
 cases c with
 |true=>exact isTrue_and_nil e
 |false=>exact e
theorem cb(ha:PT X a tA):PW X (.BoolOp .Or [a] pos) tA:=by
 intro wh pins s σ H Q I h
 refine isTrue_or (thn (ha pins s σ H Q I h) λc s1 e=>?_)
 cases c with
 |false=>exact isTrue_or_nil e
 |true=>exact e
theorem eg(ha:PT X a tA)(hb:PW X (.BoolOp .And (b::rest) pos) tB'):PW X (.BoolOp .And (a::b::rest) pos) (lK tA tB'):=by
 intro wh pins s σ H Q I h
 refine isTrue_and (thn (ha pins s σ H _ I h) λc s1 ⟨H1,I1,q1⟩=>?_)
 cases c with
 |true=>exact hb wh pins s1 σ H1 Q I1 q1
 |false=>exact⟨H1,I1,q1⟩
theorem hO(ha:PT X a tA)(hb:PW X (.BoolOp .Or (b::rest) pos) tB'):PW X (.BoolOp .Or (a::b::rest) pos) (tOr tA tB'):=by
 intro wh pins s σ H Q I h
 refine isTrue_or (thn (ha pins s σ H _ I h) λc s1 ⟨H1,I1,q1⟩=>?_)
 cases c with
 |true=>exact⟨H1,I1,q1⟩
 |false=>exact hb wh pins s1 σ H1 Q I1 q1
theorem cI(ha:PT X a tA):PT X (.UnaryOp .Not a pos) (l0 tA):=by
 intro pins s σ H Q I h
 exact isTrue_not (ha pins s σ H (λc H1=>Q (!c) H1) I h)
noncomputable def ji(ta tb:TE):TE:=λσ H Q=>ta σ H λx H1=>∃c,x=.bl c/\if c=true then tb σ H1 Q else Q (.bl false) H1
noncomputable def mU(ta tb:TE):TE:=λσ H Q=>ta σ H λx H1=>∃c,x=.bl c/\if c=true then Q (.bl true) H1 else tb σ H1 Q
noncomputable def jX(ta:TE):TE:=λσ H Q=>ta σ H λx H1=>∃c,x=.bl c/\Q (.bl (!c)) H1
theorem di{op}{t:TE}(h:PE X a t):PE X (.BoolOp op [a] pos) t:=λpins s σ H Q I hw=>BoolOp_one (h pins s σ H Q I hw)
theorem dP(ha:PE X a ta)(hb:PE X (.BoolOp .And (b::rest) pos) tb):PE X (.BoolOp .And (a::b::rest) pos) (ji ta tb):=by
 intro pins s σ H Q I h
 refine BoolOp_and (thn (ha pins s σ H _ I h) λv s1 ⟨x,H1,I1,r1,q1⟩=>?_)
 obtain⟨c,rfl,q1⟩:=q1
 cases r1
 refine rB ?_
 cases c with
 |true=>exact hb pins s1 σ H1 Q I1 q1
 |false=>exact⟨.bl false,H1,I1,rfl,q1⟩
theorem jA(ha:PE X a ta)(hb:PE X (.BoolOp .Or (b::rest) pos) tb):PE X (.BoolOp .Or (a::b::rest) pos) (mU ta tb):=by
 intro pins s σ H Q I h
 refine BoolOp_or (thn (ha pins s σ H _ I h) λv s1 ⟨x,H1,I1,r1,q1⟩=>?_)
 obtain⟨c,rfl,q1⟩:=q1
 cases r1
 refine rB ?_
 cases c with
 |false=>exact hb pins s1 σ H1 Q I1 q1
 |true=>exact⟨.bl true,H1,I1,rfl,q1⟩
theorem c9(ha:PE X a ta):PE X (.UnaryOp .Not a pos) (jX ta):=by
 intro pins s σ H Q I h
 refine UnaryOp_ (thn (ha pins s σ H _ I h) λv s1 ⟨x,H1,I1,r1,q1⟩=>?_)
 obtain⟨c,rfl,q1⟩:=q1
 cases r1
 exact not_of (rB ⟨.bl (!c),H1,I1,rfl,q1⟩)
noncomputable def tIf(t:TT)(ta tb:TE):TE:=λσ H Q=>t σ H λc H1=>if c=true then ta σ H1 Q else tb σ H1 Q
theorem Wu{c:oA}(hc:PT X c tA)(ha:PE X a ta)(hb:PE X b tb):PE X (.IfExp c a b pos) (tIf tA ta tb):=by
 intro pins s σ H Q I h
 refine wpAny_IfExp (thn (hc pins s σ H _ I h) λd s1 ⟨H1,I1,q1⟩=>?_)
 cases d with
 |true=>exact ha pins s1 σ H1 Q I1 q1
 |false=>exact hb pins s1 σ H1 Q I1 q1
end
end L2
namespace L2
open PySem PySem.Spec PyProof.Rows
def SqL(K:KE)(H:Hp)(a:nI)(xs:Gc V):Prop:=
 Rd H a (.lst xs)∨
  ∃(o:Obj) (its:pE Wp) (n:Nat),K.lookup a=Fk o/\o.cls=.type "list" /\o.dict=nD/\o.data=.seq its n/\its.size<=sizeLine/\Vals xs its.toList
def SqT(K:KE)(H:Hp)(a:nI)(xs:Gc V):Prop:=
 Rd H a (.tup xs)∨
  ∃(o:Obj) (its:pE Wp) (n:Nat),K.lookup a=Fk o/\o.cls=.type "tuple" /\o.data=.seq its n/\its.size<=sizeLine/\Vals xs its.toList
noncomputable def mQ:Wp->nG V
 | .none=>Fk .non
 | .bool b=>Fk (.bl b)
 | .int i _=>Fk (.int i)
 | .str x _=>Fk (.str x)
 | .bytes b _=>Fk (.byt b)
 | .float b _=>Fk (.flt b)
 | .ref a=>Fk (.ref a)
 | .type n=>Fk (.ty n)
 |_=>nD
theorem RelV.abs{x:V}{u:Wp}(r:RelV x u):mQ u=Fk x:=by
 cases x with
 |non=>cases r;rfl
 |bl _=>cases r;rfl
 |int _=>obtain⟨t,rfl⟩:=r;rfl
 |str _=>obtain⟨t,rfl⟩:=r;rfl
 |byt _=>obtain⟨t,rfl⟩:=r;rfl
 |flt _=>obtain⟨t,rfl⟩:=r;rfl
 |ref _=>cases r;rfl
 |ty _=>cases r;rfl
theorem RelV.inj{x y:V}{u:Wp}(r:RelV x u)(q:RelV y u):x=y:=oy (r.abs.symm.trans q.abs)
theorem Vals.inj:∀{xs ys:Gc V} {us:Gc Wp},Vals xs us->Vals ys us->xs=ys
 |_,_,_,.nil,.nil=>rfl
 |_,_,_,.cons r t,.cons r' t'=>by rw[r.inj r',Vals.inj t t']
section
variable{X:Cx}{pins:Gc (nI×Obj)}{σ:St}{H:Hp}{s:nE}{a:nI}{xs ys:Gc V}
theorem SqL.of{K:KE}(h:H a=Fk (.lst xs)):SqL K H a xs:=.inl (.inl h)
theorem SqT.of{K:KE}(h:H a=Fk (.tup xs)):SqT K H a xs:=.inl (.inl h)
theorem Inv.list(I:Inv X pins σ H s)(h:SqL X.K H a xs):∃its:Gc Wp,Vals xs its/\PlainL s.heap a its.toArray/\xs.length<=sizeLine:=by
 rcases h with h|⟨o,its,n,hk,hc,hd,hs,hz,r⟩
 .obtain⟨z,its,n,r,e⟩:=h.ok I.hok
  exact⟨its,r,⟨_,n,e,rfl,rfl,rfl⟩,z⟩
 .refine⟨its.toList,r,⟨o,n,I.kIn a o hk,hc,hd,by simpa using hs⟩,?_⟩
  have e:=r.length
  simp only[tE]at e
  lia
theorem Inv.tuple(I:Inv X pins σ H s)(h:SqT X.K H a xs):∃its:Gc Wp,Vals xs its/\zS s.heap a its.toArray/\xs.length<=sizeLine:=by
 rcases h with h|⟨o,its,n,hk,hc,hs,hz,r⟩
 .obtain⟨z,its,r,p⟩:=h.ok I.hok
  exact⟨its,r,p,z⟩
 .refine⟨its.toList,r,⟨o,I.kIn a o hk,hc,n,by simpa using hs⟩,?_⟩
  have e:=r.length
  simp only[tE]at e
  lia
theorem Inv.R9(I:Inv X pins σ H s)(h:SqL X.K H a xs)(h':SqL X.K H a ys):xs=ys:=by
 obtain⟨its,r,⟨o,n,e,_,_,d⟩,_⟩:=I.list h
 obtain⟨its',r',⟨o',n',e',_,_,d'⟩,_⟩:=I.list h'
 rw[e]at e';cases e'
 rw[d]at d'
 injection d' with d1 _
 have:its=its':=by simpa using congrArg ye d1
 subst this
 exact r.inj r'
theorem Inv.Po(I:Inv X pins σ H s)(h:SqT X.K H a xs)(h':SqT X.K H a ys):xs=ys:=by
 obtain⟨its,r,⟨o,e,_,n,d⟩,_⟩:=I.tuple h
 obtain⟨its',r',⟨o',e',_,n',d'⟩,_⟩:=I.tuple h'
 rw[e]at e';cases e'
 rw[d]at d'
 injection d' with d1 _
 have:its=its':=by simpa using congrArg ye d1
 subst this
 exact r.inj r'
end
abbrev Cx.Ti(X:Cx)(E:Wp->nE->Prop):Cx:={X with xe:=E}
abbrev Cx.nox(X:Cx):Cx:=X.Ti λ_ _=>qa
theorem Cx.Ok.Ti{X:Cx}(ok:X.Ok)(E:Wp->nE->Prop):(X.Ti E).Ok:=
 ⟨ok.mod,ok.kind,ok.glob,ok.blt,ok.above,ok.inj,ok.has,ok.cab,ok.hd,ok.frames,ok.stk,ok.exf,ok.bs,ok.bsz,ok.Yj,ok.af,ok.R6,ok.frf⟩
theorem Cx.Ok.LI{X:Cx}{E:Wp->nE->Prop}(ok:(X.Ti E).Ok):X.Ok:=
 ⟨ok.mod,ok.kind,ok.glob,ok.blt,ok.above,ok.inj,ok.has,ok.cab,ok.hd,ok.frames,ok.stk,ok.exf,ok.bs,ok.bsz,ok.Yj,ok.af,ok.R6,ok.frf⟩
section
variable{X:Cx}{pins:Gc (nI×Obj)}{σ:St}{H:Hp}{s:nE}{E:Wp->nE->Prop}
theorem Inv.Ti(I:Inv X pins σ H s)(E:Wp->nE->Prop):Inv (X.Ti E) pins σ H s:=⟨I.ok.Ti E,I.os,I.bare,I.base,I.loc,I.cell,I.free,I.Jt,I.pin,I.hok,I.len⟩
theorem Inv.LI(I:Inv (X.Ti E) pins σ H s):Inv X pins σ H s:=⟨I.ok.LI,I.os,I.bare,I.base,I.loc,I.cell,I.free,I.Jt,I.pin,I.hok,I.len⟩
theorem SP.LI{D:Ends}{f:Flow}{s':nE}(h:SP (X.Ti E) pins D f s'):SP X pins D f s':=by
 cases f with
 |next=>obtain⟨σ',H',I,q⟩:=h;exact⟨σ',H',I.LI,q⟩
 |brk=>obtain⟨σ',H',I,q⟩:=h;exact⟨σ',H',I.LI,q⟩
 |cont=>obtain⟨σ',H',I,q⟩:=h;exact⟨σ',H',I.LI,q⟩
 |ret u=>obtain⟨v,σ',H',I,r,q⟩:=h;exact⟨v,σ',H',I.LI,r,q⟩
theorem PSs.nox{st:Gc oK}{t:TS}(h:PSs X.nox st t):PSs X st t:=λpins s σ H D I hw=>
 pW (h pins s σ H D (I.Ti _) hw) (λ_ _ q=>q.LI) λ_ _ z=>pX z
end
section
variable{X:Cx}{st:oK}{rest:Gc oK}{t u:TS}{e:oA}{te:TE}{pos:Pos}
noncomputable def gw:TS:=λD σ H=>D.nx σ H
noncomputable def mY(t u:TS):TS:=λD σ H=>t {D with nx:=u D} σ H
theorem aa:PSs X [] gw:=λ_ _ σ H _ I h=>rW ⟨σ,H,I,h⟩
theorem Rg(h1:PS X st t)(h2:PSs X rest u):PSs X (st::rest) (mY t u):=by
 intro pins s σ H D I h
 refine qp (thn (h1 pins s σ H {D with nx:=u D} I h) λf s1 q=>?_)
 cases f with
 |next=>
  obtain⟨σ',H',I',q⟩:=q
  exact h2 pins s1 σ' H' D I' q
 |ret v=>exact q
 |brk=>exact q
 |cont=>exact q
theorem RI(h1:PS X st t):PSs X [st] t:=by
 intro pins s σ H D I h
 refine qp (thn (h1 pins s σ H D I h) λf s1 q=>?_)
 cases f with
 |next=>exact rW q
 |ret v=>exact q
 |brk=>exact q
 |cont=>exact q
theorem Inv.quiet{pins:Gc (nI×Obj)}{σ:St}{H:Hp}{s:nE}(I:Inv X pins σ H s):interactive X.env=false:=by simp[interactive,I.ok.kind]
noncomputable def gv(te:TE):TS:=λD σ H=>te σ H λ_ H1=>D.nx σ H1
theorem Tv(he:PE X e te)(hs:swapsWith e nD pos.line X.env=pure false:=by rfl):PS X (.Expr e pos) (gv te):=by
 intro pins s σ H D I h
 exact u7 (thn (he pins s σ H _ I h) λv s1 ⟨x,H1,I1,r1,q1⟩=>⟨σ,H1,I1,q1⟩) I.quiet hs
noncomputable def lR(te:TE):TS:=λD σ H=>te σ H D.rt
theorem dW(he:PE X e te):PS X (.Return (Fk e) pos) (lR te):=by
 intro pins s σ H D I h
 exact wpAny_Return_some (thn (he pins s σ H _ I h) λv s1 ⟨x,H1,I1,r1,q1⟩=>⟨x,σ,H1,I1,r1,q1⟩)
noncomputable def mB(c:TT)(t u:TS):TS:=λD σ H=>c σ H λb H1=>if b=true then t D σ H1 else u D σ H1
theorem jr{c:oA}{a b:Gc oK}{tc:TT}(hc:PT X c tc)(ha:PSs X a t)(hb:PSs X b u):PS X (.If c a b pos) (mB tc t u):=by
 intro pins s σ H D I h
 refine zY (thn (hc pins s σ H _ I h) λd s1 ⟨H1,I1,q1⟩=>?_)
 cases d with
 |true=>exact ha pins s1 σ H1 D I1 q1
 |false=>exact hb pins s1 σ H1 D I1 q1
end
abbrev TG:=V->St->Hp->(St->Hp->Prop)->Prop
abbrev TGs:=Gc V->St->Hp->(St->Hp->Prop)->Prop
def PG(X:Cx)(target:oA)(t:TG):Prop:=
 ∀(pins:Gc (nI×Obj)) (s:nE) (σ:St) (H:Hp) (v:V) (u:Wp) (Q:St->Hp->Prop),Inv X pins σ H s->RelV v u->t v σ H Q->
  wpAny (model X.prog X.w) X.A (assign target X.env u) (λ_ s'=>∃σ' H',Inv X pins σ' H' s'/\Q σ' H') X.xe s
def PGs(X:Cx)(ts:Gc oA)(t:TGs):Prop:=
 ∀(pins:Gc (nI×Obj)) (s:nE) (σ:St) (H:Hp) (vs:Gc V) (us:Gc Wp) (Q:St->Hp->Prop),Inv X pins σ H s->Vals vs us->t vs σ H Q->
  wpAny (model X.prog X.w) X.A (assignInOrder ((assignEach ts X.env).map (·.2)) us) (λ_ s'=>∃σ' H',Inv X pins σ' H' s'/\Q σ' H') X.xe s
abbrev iW:=V->V->V->Hp->(Hp->Prop)->Prop
def kY(X:Cx)(t:iW):Prop:=
 ∀(pins:Gc (nI×Obj)) (s:nE) (σ:St) (H:Hp) (o i v:V) (ov iv u:Wp) (Q:Hp->Prop),Inv X pins σ H s->RelV o ov->RelV i iv->RelV v u->t o i v H Q->
  wpAny (model X.prog X.w) X.A (setItem ov iv u) (λ_ s'=>∃H',Inv X pins σ H' s'/\Q H') X.xe s
section
variable{X:Cx}{pos:Pos}
noncomputable def Z5(i:Nat):TG:=λv σ H Q=>Q (σ.set i (Fk v)) H
theorem Zw{i:Nat}{x:Str}(hN:X.N.Nodup)(hi:X.N[i]?=Fk x)(hx:Loc X.env.scope x)(hf:X.fn x=true\/X.env.scope.names.lookup x=Fk .local:=by first|exact .inl rfl|exact .inr rfl|assumption):PG X (.Name x pos) (Z5 i):=by
 intro pins s σ H v u Q I r h
 exact vp (Lk I hN hi hx r (λs' I'=>⟨_,H,I',h⟩) hf)
noncomputable def kU:TGs:=λvs σ H Q=>vs=[]/\Q σ H
noncomputable def cD(t:TG)(u:TGs):TGs:=λvs σ H Q=>∃v r,vs=v::r/\t v σ H λσ' H'=>u r σ' H' Q
theorem bL:PGs X [] kU:=by
 intro pins s σ H vs us Q I r h
 obtain⟨e,h⟩:=h
 subst e
 cases r
 exact vq ⟨σ,H,I,h⟩
theorem YG{e:oA}{es:Gc oA}{t:TG}{u:TGs}(h1:PG X e t)(h2:PGs X es u)(hs:(assignEach (e::es) X.env).map (·.2)=assign e X.env::(assignEach es X.env).map (·.2):=by rfl):PGs X (e::es) (cD t u):=by
 intro pins s σ H vs us Q I r h
 obtain⟨v,vr,e1,h⟩:=h
 subst e1
 cases r with
 |cons r rr=>
  rw[hs]
  refine tP (thn (h1 pins s σ H _ _ _ I r h) λ_ s1 ⟨σ1,H1,I1,q1⟩=>?_)
  exact h2 pins s1 σ1 H1 _ _ Q I1 rr q1
noncomputable def lY(K:KE)(n:Nat)(t:TGs):TG:=λv σ H Q=>∃a xs,v=.ref a/\SqT K H a xs/\xs.length=n/\t xs σ H Q
theorem bz{es:Gc oA}{k:Nat}{t:TGs}{n:Nat}(hc:X.calm=true)(h:PGs X es t)(hn:(assignEach es X.env).length=n:=by rfl)(hst:(assignEach es X.env).findIdx? (·.1)=none:=by rfl):PG X (.Tuple es k pos) (lY X.K n t):=by
 intro pins s σ H v u Q I r hw
 obtain⟨a,xs,e1,hq,hl,hw⟩:=hw
 subst e1
 cases r
 obtain⟨its,rv,ht,hz⟩:=I.tuple hq
 refine assign_Tuple_tuple (I.ok.hd hc) ht (by simp[hn,<-hl,rv.length]) hst λh' hx=>?_
 have I1:Inv X pins σ H {s with heap:=h'}:=I.kept (t':=s.toks) λb o e=>hx b o (oH (nj e)) e
 exact h pins _ σ H xs _ Q I1 (by simpa using rv) hw
noncomputable def lP(to ti:TE)(t:iW):TG:=λv σ H Q=>to σ H λo H1=>ti σ H1 λi H2=>t o i v H2 λH3=>Q σ H3
theorem cJ {o i : oA} {to ti : TE} {t : iW} (ho : PE X o to) (hi : PE X i ti) (hs : kY X t) (ha : ∀ v, assign (.Subscript o i pos) X.env v = (do
      let ov ← holding [v] (eval o X.env)
      let iv ← holding [v, ov] (eval i X.env)
      standAt pos
      holding [v, ov, iv] (setItem ov iv v)
      release [v, ov, iv] []) := by intro _; rfl) : PG X (.Subscript o i pos) (lP to ti t) := by
  intro pins s σ H v u Q I r h
  rw [ha]
  refine nC (qJ (thn (ho pins s σ H _ I h) fun ov s1 ⟨x, H1, I1, r1, q1⟩ => ?_))
  refine nC (qJ (thn (hi pins s1 σ H1 _ I1 q1) fun iv s2 ⟨y, H2, I2, r2, q2⟩ => ?_))
  refine nC (rQ (nC (qJ (thn (hs pins s2 σ H2 x y v ov iv u _ I2 r1 r2 r q2) fun _ s3 ⟨H3, I3, q3⟩ => ?_))))
  exact wpAny_release ⟨σ, H3, I3, q3⟩
noncomputable def iR(te:TE)(g:TG):TS:=λD σ H=>te σ H λx H1=>g x σ H1 D.nx
theorem ZN{tg e:oA}{te:TE}{g:TG}(he:PE X e te)(hg:PG X tg g)(hs:swapsWithSole [tg] e pos.line X.env=pure false:=by rfl)(hw:swappedStores [tg] e X.env=pure none:=by rfl)(h1:(assignEach [tg] X.env).map (·.2)=[assign tg X.env]:=by rfl):PS X (.Assign [tg] e pos) (iR te g):=by
 intro pins s σ H D I h
 refine wpAny_Assign_stores (thn (he pins s σ H _ I h) λv s1 ⟨x,H1,I1,r1,q1⟩=>?_) hs hw
 rw[h1]
 exact thn (hg pins s1 σ H1 x v _ I1 r1 q1) λ_ s2 q=>q
theorem ck{i:Nat}{x:Str}{e:oA}{te:TE}{pos':Pos}(hN:X.N.Nodup)(hi:X.N[i]?=Fk x)(hx:Loc X.env.scope x)(he:PE X e te)(hs:swapsWith e (Fk (.Name x pos')) pos.line X.env=pure false:=by rfl)(hf:X.fn x=true\/X.env.scope.names.lookup x=Fk .local:=by first|exact .inl rfl|exact .inr rfl|assumption):PS X (.Assign [.Name x pos'] e pos) (iR te (Z5 i)):=by
 intro pins s σ H D I h
 refine wpAny_Assign_Name (thn (he pins s σ H _ I h) λv s1 ⟨y,H1,I1,r1,q1⟩=>?_) hs
 exact Lk I1 hN hi hx r1 (λs2 I2=>⟨_,H1,I2,q1⟩) hf
noncomputable def lO(i j:Nat)(ta:TA):TS:=λD σ H=>ta σ H λvs H1=>∃v w,vs=[v,w]/\D.nx ((σ.set i (Fk v)).set j (Fk w)) H1
theorem eE{i j:Nat}{x y:Str}{a b:oA}{ta:TA}{px py pt:Pos}{kt k2 pt2}(hc:X.calm=true)(hN:X.N.Nodup)(hi:X.N[i]?=Fk x)(hj:X.N[j]?=Fk y)(hij:i≠j)(hx:X.env.scope.names.lookup x=Fk .local)(hy:X.env.scope.names.lookup y=Fk .local)(ha:PA X [a,b] ta)(hw:swappedStores [.Tuple [.Name x px,.Name y py] kt pt] (.Tuple [a,b] k2 pt2) X.env=pure (Fk [x,y]))(hs:swapsWithSole [.Tuple [.Name x px,.Name y py] kt pt] (.Tuple [a,b] k2 pt2) pos.line X.env=pure false:=by rfl):PS X (.Assign [.Tuple [.Name x px,.Name y py] kt pt] (.Tuple [a,b] k2 pt2) pos) (lO i j ta):=by
 intro pins s σ H D I h
 rw[exec_Assign_arm]
 refine nC (rQ ?_)
 rw[hs]
 refine nC (ng ?_)
 rw[oU (by decide)]
 refine nC (Tuple_ (thn (ha _ pins s σ H _ I h) λus s1 ⟨vs,H1,I1,r1,q1⟩=>?_))
 obtain⟨v,w,e1,q1⟩:=q1
 subst e1
 obtain⟨u1,u2,rfl,rv,rw'⟩:∃u1 u2,us=[u1,u2]/\RelV v u1/\RelV w u2:=by
  cases r1 with
  |cons p q=>
   cases q with
   |cons p' q'=>
    cases q'
    exact⟨_,_,rfl,p,p'⟩
 refine qg ?_ (by show 2<=sizeLine;decide)
 have I2:Inv X pins σ H1 {s1 with heap:=s1.heap.push {cls:=.type "tuple",data:=.seq [u1,u2].toArray}}:=I1.kept (t':=s1.toks) λb o e=>W1 _ e
 rw[hw]
 refine nC (ng ?_)
 show wpAny (model X.prog X.w) X.A (do rule "assign.swapped-stores"; let items<-unpackItems (.ref s1.heap.objs.size) 2 nD;assignInOrder [λv=>bindName X.env y v,λv=>bindName X.env x v] items.reverse;pure Flow.next) _ _ _
 refine nC (ub (nC (unpackItems_tuple (items:= #[u1,u2]) (I.ok.hd hc) (rO s1.heap _) λh' hx'=>?_)))
 have I3:=I2.kept (h':=h') (t':=s1.toks) λb o e=>hx' b o (oH (nj e)) e
 show wpAny _ _ (assignInOrder [λv=>bindName X.env y v,λv=>bindName X.env x v] [u2,u1] >>= λ_=>pure Flow.next) _ _ _
 refine nC (tP (xO (Lk I3 hN hj (.inl hy) rw' (λs2 I4=>?_) (.inr hy))))
 refine tP (xO (Lk I4 hN hi (.inl hx) rv (λs3 I5=>vq (ng ?_)) (.inr hx)))
 rw[List.set_comm _ _ (pb hij)]at I5
 exact⟨_,H1,I5,q1⟩
end
section
variable{X:Cx}{pos:Pos}
noncomputable def dB(c:TT)(tb:TS):TS:=λD σ H=>∃W:Nat->St->Hp->Prop,(∃m,W m σ H)/\∀m σ H,W m σ H->
 c σ H λb H1=>if b=true then∃N:St->Hp->Prop,(∀σ' H',N σ' H'->∃m',m'<m/\W m' σ' H')/\tb {D with nx:=N,ct:=N,bk:=D.nx} σ H1 else D.nx σ H1
theorem YF{c:oA}{body:Gc oK}{tc:TT}{tb:TS}(hp:wU (model X.prog X.w) X.A X.env X.xe)(hc:PT X c tc)(hb:PSs X body tb):PS X (.While c body [] pos) (dB tc tb):=by
 intro pins s σ H D I h
 obtain⟨W,⟨m0,w0⟩,turn⟩:=h
 refine wpAny_While (codeAny_whileLoop (λn s'=>∃σ' H',Inv X pins σ' H' s'/\W n σ' H') ?_ m0 ⟨σ,H,I,w0⟩)
 rintro n s1 ⟨σ1,H1,I1,w1⟩
 refine qe hp (thn (hc pins s1 σ1 H1 _ I1 (turn n σ1 H1 w1)) λb s2 ⟨H2,I2,q2⟩=>?_)
 cases b with
 |true=>
  obtain⟨N,hN,q2⟩:=q2
  rw[oP rfl]
  refine qe hp (thn (hb pins s2 σ1 H2 _ I2 q2) λf s3 q3=>?_)
  cases f with
  |next=>
   obtain⟨σ3,H3,I3,n3⟩:=q3
   obtain⟨m',hm,w3⟩:=hN σ3 H3 n3
   exact⟨m',hm,σ3,H3,I3,w3⟩
  |cont=>
   obtain⟨σ3,H3,I3,n3⟩:=q3
   obtain⟨m',hm,w3⟩:=hN σ3 H3 n3
   exact⟨m',hm,σ3,H3,I3,w3⟩
  |brk=>exact q3
  |ret v=>exact q3
 |false=>
  rw[oU oX]
  exact rW ⟨σ1,H2,I2,q2⟩
end
structure It where
 go:Nat->Hp->Prop
 yld:Nat->Hp->V->Hp->Prop
 stop:Nat->Hp->Prop
def Q7(X:Cx)(pins:Gc (nI×Obj))(H:Hp)(b:nI):Prop:=
 H b=nD/\b≠X.env.locals/\b∉X.fs/\(b∈X.ex\/X.s₀.heap.objs.size<=b)/\(∀x c,X.env.cells.lookup x=Fk c->c≠b)/\∀p∈X.pn++pins,p.1≠b
theorem Inv.ZV{X:Cx}{pins:Gc (nI×Obj)}{σ:St}{H H':Hp}{s:nE}{b:nI}(I:Inv X pins σ H s)(hb:s.heap.objs.size<=b)(hn:H' b=nD):Q7 X pins H' b:=by
 refine⟨hn,vt (nQ I.lt hb),I.mJ hb,.inr (nR I.sz hb),λx c e z=>?_,λp hp z=>?_⟩
 .obtain⟨v,q⟩:=I.cell x c e
  exact absurd (nQ q.lt (by rw[z];exact hb)) (pT _)
 .exact absurd (nQ (nj (I.pin p hp).1) (by rw[z];exact hb)) (pT _)
structure Turn(P:nv)(w:oM)(K:KE)(tg:oA)(J:It)(fp:Gc nI)(it:nI)(tn:Nat->oE->Prop):Prop where
 mem:it∈fp
 obj:∀i h,tn i h->∀b∈fp,∃o,h.get? b=Fk o/\∀v,o.data≠.cell v
 keep:∀i h h',tn i h->(∀b∈fp,∀o,h.get? b=Fk o->h'.get? b=Fk o)->tn i h'
 item:∀(X:Cx),X.prog=P->X.w=w->X.K=K->X.calm=true->∀(i:Nat) (pins:Gc (nI×Obj)) (s:nE) (σ:St) (H:Hp) (E:Wp->nE->Prop),Inv X pins σ H s->(∀b∈fp,Q7 X pins H b)->tn i s.heap->J.go i H->
  wpAny (model P w) X.A (pyNext (.ref it)) (λr s1=>∃u,r=Fk u/\
   wpAny (model P w) X.A (letOwnedTupleGo tg (.ref it) u) (λ_ s2=>∃x H',Inv X pins σ H' s2/\RelV x u/\J.yld i H x H'/\tn (i+1) s2.heap/\∀b∈fp,H' b=nD) E s1) E s
 done:∀(X:Cx),X.prog=P->X.w=w->X.K=K->X.calm=true->∀(i:Nat) (pins:Gc (nI×Obj)) (s:nE) (σ:St) (H:Hp) (E:Wp->nE->Prop),Inv X pins σ H s->(∀b∈fp,Q7 X pins H b)->tn i s.heap->J.stop i H->
  wpAny (model P w) X.A (pyNext (.ref it)) (λr s1=>r=nD/\Inv X pins σ H s1) E s
 self:∀(A:oN) (i:Nat) (s:nE) (Q:Wp->nE->Prop) (E:Wp->nE->Prop),tn i s.heap->Q (.ref it) s->wpAny (model P w) A (pyIter (.ref it)) Q E s
abbrev TI:=St->Hp->(It->Hp->Prop)->Prop
def PIE(X:Cx)(pins:Gc (nI×Obj))(σ:St)(tg:oA)(R:It->Hp->Prop)(itv:Wp)(s2:nE):Prop:=
 ∃(it:nI) (fp:Gc nI) (tn:Nat->oE->Prop) (J:It) (H':Hp),itv=.ref it/\Inv X pins σ H' s2/\Turn X.prog X.w X.K tg J fp it tn/\tn 0 s2.heap/\(∀b∈fp,Q7 X pins H' b)/\R J H'
def PI(X:Cx)(tg iter:oA)(wi:TI):Prop:=
 ∀(pins:Gc (nI×Obj)) (s:nE) (σ:St) (H:Hp) (R:It->Hp->Prop),Inv X pins σ H s->wi σ H R->
  wpAny (model X.prog X.w) X.A (eval iter X.env) (λv s1=>wpAny (model X.prog X.w) X.A (pyIter v) (PIE X pins σ tg R) X.xe s1) X.xe s
theorem ZT{M:vo}{A:oN}{E:Wp->nE->Prop}{s:nE}{tg:oA}{it:nI}{u:Wp}{o:Obj}{n:qo}{vs:pE Wp}{Q:Unit->nE->Prop}(ho:s.heap.get? it=Fk o)(hc:o.cls=.type n)(hd:o.data=.fields vs)(hn:["enumerate","zip","dict_itemiterator","dict_reverseitemiterator","odict_iterator","itertools.zip_longest","itertools.pairwise"].contains n=false)(hQ:Q () s):wpAny M A (letOwnedTupleGo tg (.ref it) u) Q E s:=by
 unfold letOwnedTupleGo
 cases tg<;>first
  |exact ng hQ
  |(cases u<;>first
     |exact ng hQ
     |(refine nC (wpAny_load ho ?_)
       rw[hc,hd]
       show wpAny M A (if(["enumerate","zip","dict_itemiterator","dict_reverseitemiterator","odict_iterator","itertools.zip_longest","itertools.pairwise"].contains n && vs[0]?==Fk (rawInt _))=true then _ else _) Q E s
       rw[oU (by intro h;rw[hn,xP]at h;cases h)]
       exact ng hQ))
noncomputable def Itl(K:KE)(a:nI):It:=
 ⟨λi H=>∃xs x,SqL K H a xs/\xs[i]?=Fk x,λi H x H'=>H'=H/\∀xs,SqL K H a xs->xs[i]?=Fk x,λi H=>∃xs,SqL K H a xs/\xs.length<=i⟩
noncomputable def Itt(K:KE)(a:nI):It:=
 ⟨λi H=>∃xs x,SqT K H a xs/\xs[i]?=Fk x,λi H x H'=>H'=H/\∀xs,SqT K H a xs->xs[i]?=Fk x,λi H=>∃xs,SqT K H a xs/\xs.length<=i⟩
noncomputable def Itr(lo:Int)(n:Nat):It:=⟨λi _=>i<n,λi H x H'=>H'=H/\x=.int (lo+i),λi _=>n<=i⟩
theorem Uo{P:nv}{w:oM}{K:KE}{tg:oA}(a it:nI):Turn P w K tg (Itl K a) [it] it (λi h=>h.IsListIter it a i) where
 mem:=by simp
 obj:=λi h st b hb=>by
  have e:b=it:=by simpa using hb
  subst e
  obtain⟨o,e,c,d⟩:=st
  exact⟨o,e,λv z=>by rw[d]at z;cases z⟩
 keep:=λi h h' st k=>st.at λo e=>k it (by simp) o e
 item:=by
  intro X hP hw hK hc i pins s σ H E I hf st hg
  subst hP hw hK
  obtain⟨xs,x,hq,hx⟩:=hg
  obtain⟨its,rv,p,hz⟩:=I.list hq
  obtain⟨u,hu,ru⟩:=rv.get hx
  obtain⟨f0,f1,f2,f3,f4,f5⟩:=hf it (by simp)
  refine rz st p.isList (x:=u) (by simpa using hu) λh' st' sb=>?_
  have I1:Inv X pins σ H {s with heap:=h'}:=I.turned (t':=s.toks) (λb o hb e=>(sb.2 b hb).trans e) f0 f1 f3 f4 f5
  obtain⟨o,e,c,d⟩:=id st'
  exact⟨u,rfl,ZT (s:={s with heap:=h'}) e c d (by decide) ⟨x,H,I1,ru,⟨rfl,λys hy=>by rw[I.R9 hy hq];exact hx⟩,st',λb hb=>(hf b hb).1⟩⟩
 done:=by
  intro X hP hw hK hc i pins s σ H E I hf st hg
  subst hP hw hK
  obtain⟨xs,hq,hx⟩:=hg
  obtain⟨its,rv,p,hz⟩:=I.list hq
  obtain⟨f0,f1,f2,f3,f4,f5⟩:=hf it (by simp)
  have hl:=rv.length
  exact sQ (I.ok.hd hc) st p.isList (by simp;lia) λh' eb=>⟨rfl,I.turned (t':=s.toks) (λb o hb e=>eb b o hb e) f0 f1 f3 f4 f5⟩
 self:=λ_ _ _ _ _ st h=>ux st h
theorem Te{P:nv}{w:oM}{K:KE}{tg:oA}(a it:nI):Turn P w K tg (Itt K a) [it] it (λi h=>h.IsTupleIter it a i) where
 mem:=by simp
 obj:=λi h st b hb=>by
  have e:b=it:=by simpa using hb
  subst e
  obtain⟨o,e,c,d⟩:=st
  exact⟨o,e,λv z=>by rw[d]at z;cases z⟩
 keep:=λi h h' st k=>st.at λo e=>k it (by simp) o e
 item:=by
  intro X hP hw hK hc i pins s σ H E I hf st hg
  subst hP hw hK
  obtain⟨xs,x,hq,hx⟩:=hg
  obtain⟨its,rv,p,hz⟩:=I.tuple hq
  obtain⟨u,hu,ru⟩:=rv.get hx
  obtain⟨f0,f1,f2,f3,f4,f5⟩:=hf it (by simp)
  refine wpAny_pyNext_tuple_item st (show s.heap.IsTuple a its.toArray from p) (x:=u) (by simpa using hu) λh' st' sb=>?_
  have I1:Inv X pins σ H {s with heap:=h'}:=I.turned (t':=s.toks) (λb o hb e=>(sb.2 b hb).trans e) f0 f1 f3 f4 f5
  obtain⟨o,e,c,d⟩:=id st'
  exact⟨u,rfl,ZT (s:={s with heap:=h'}) e c d (by decide) ⟨x,H,I1,ru,⟨rfl,λys hy=>by rw[I.Po hy hq];exact hx⟩,st',λb hb=>(hf b hb).1⟩⟩
 done:=by
  intro X hP hw hK hc i pins s σ H E I hf st hg
  subst hP hw hK
  obtain⟨xs,hq,hx⟩:=hg
  obtain⟨its,rv,p,hz⟩:=I.tuple hq
  obtain⟨f0,f1,f2,f3,f4,f5⟩:=hf it (by simp)
  have hl:=rv.length
  exact wpAny_pyNext_tuple_end (I.ok.hd hc) st (show s.heap.IsTuple a its.toArray from p) (by simp;lia) λh' eb=>⟨rfl,I.turned (t':=s.toks) (λb o hb e=>eb b o hb e) f0 f1 f3 f4 f5⟩
 self:=λ_ _ _ _ _ st h=>wpAny_pyIter_tupleiter st h
theorem TX{P:nv}{w:oM}{K:KE}{tg:oA}(it:nI)(lo:Int)(n:Nat):Turn P w K tg (Itr lo n) [it] it (λi h=>zZ h it (lo+(i:Nat)*1) ((n:Int)-(i:Nat)) 1) where
 mem:=by simp
 obj:=λi h st b hb=>by
  have e:b=it:=by simpa using hb
  subst e
  exact⟨_,st,λv z=>by
   have z':wx _=Data.cell v:=z
   cases z'⟩
 keep:=λi h h' st k=>k it (by simp) _ st
 item:=by
  intro X hP hw hK hc i pins s σ H E I hf st hg
  subst hP hw hK
  obtain⟨f0,f1,f2,f3,f4,f5⟩:=hf it (by simp)
  have W:=Walks.range (prog:=X.prog) (w:=X.w) (I.ok.hd hc) it lo 1 n
  refine W.item i s _ _ hg st λv h' tk hv st' kk=>?_
  obtain⟨t,rfl⟩:=hv
  have I1:Inv X pins σ H {s with heap:=h',toks:=tk}:=I.turned (λb o hb e=>kk b o (by simpa using hb) e) f0 f1 f3 f4 f5
  refine⟨_,rfl,ZT (s:={s with heap:=h',toks:=tk}) (n:="range_iterator") st' rfl rfl (by decide) ⟨.int (lo+i),H,I1,⟨t,?_⟩,⟨rfl,rfl⟩,st',λb hb=>(hf b hb).1⟩⟩
  rw[Int.mul_one]
 done:=by
  intro X hP hw hK hc i pins s σ H E I hf st hg
  subst hP hw hK
  obtain⟨f0,f1,f2,f3,f4,f5⟩:=hf it (by simp)
  exact wpAny_pyNext_range_end (I.ok.hd hc) st (by have:n<=i:=hg;lia) λh' eb=>⟨rfl,I.turned (t':=s.toks) (λb o hb e=>eb b o hb e) f0 f1 f3 f4 f5⟩
 self:=λ_ _ _ _ _ st h=>wpAny_pyIter_rangeiter st h
end L2
namespace L2
open PySem PySem.Spec PyProof.Rows
section
variable{X:Cx}{tg:oA}
theorem Wr{pins:Gc (nI×Obj)}{σ:St}{H:Hp}{s:nE}{R:It->Hp->Prop}{E:Wp->nE->Prop}{lo hi:Int}{t u v:Tok}{tk:Nat}(I:Inv X pins σ H s)(h1: -(2^62)<=lo)(h2:lo<2^62)(h3: -(2^62)<=hi)(h4:hi<2^62)(q:R (Itr lo (hi-lo).toNat) H):wpAny (model X.prog X.w) X.A (pyIter (.ref s.heap.objs.size)) (PIE X pins σ tg R) E {s with heap:=s.heap.push {cls:=.type "range",data:=.fields #[.int lo t,.int hi u,.int 1 v]},toks:=tk}:=by
 refine wpAny_pyIter_range (za ..) (small_one h1 h2 h3 h4) ?_
 have I1:Inv X pins σ H {s with heap:=s.heap.push {cls:=.type "range",data:=.fields #[.int lo t,.int hi u,.int 1 v]},toks:=tk}:=I.kept λb o e=>W1 _ e
 refine⟨(s.heap.push {cls:=.type "range",data:=.fields #[.int lo t,.int hi u,.int 1 v]}).objs.size,[(s.heap.push {cls:=.type "range",data:=.fields #[.int lo t,.int hi u,.int 1 v]}).objs.size],_,_,H,rfl,
  I1.kept (t':=tk) λb o e=>W1 _ e,TX _ lo (hi-lo).toNat,?_,λb hb=>?_,q⟩
 .have e1:lo+((0:Nat):Int)*1=lo:=by simp
  have e2:(((hi-lo).toNat:Nat):Int)-((0:Nat):Int)=yS lo hi 1:=by rw[x9];split<;>lia
  show zZ _ _ (lo+((0:Nat):Int)*1) ((((hi-lo).toNat:Nat):Int)-((0:Nat):Int)) 1
  rw[e1,e2]
  exact nq _ rfl
 .have e:b=(s.heap.push {cls:=.type "range",data:=.fields #[.int lo t,.int hi u,.int 1 v]}).objs.size:=by simpa using hb
  subst e
  exact I1.ZV (nS _) (I1.hok.fresh (nS _))
noncomputable def jP(ta:TA):TI:=λσ H R=>ta σ H λvs H1=>∃j:Int,vs=[.int j]/\ -(2^62)<=j/\j<2^62/\R (Itr 0 j.toNat) H1
theorem Uw{a:oA}{ta:TA}{p pos:Pos}(hg:Gl X "range")(hm:X.mg "range"=nD)(ha:PA X [a] ta)(hs:nk [a] X.env=[(false,eval a X.env)]:=by rfl):PI X tg (.Call (.Name "range" p) [a] [] pos) (jP ta):=by
 intro pins s σ H R I h
 refine Call_ (LF I hg hm wQ (qA (thn (ha pos pins s σ H _ I h) λus s1 ⟨vs,H1,I1,r1,q1⟩=>?_) hs rfl))
 obtain⟨j,e,q1,q2,q⟩:=q1
 subst e
 cases r1 with
 |cons r rr=>
  cases rr
  obtain⟨t,rfl⟩:=r
  exact yj (Wr I1 (by lia) (by lia) q1 q2 (by simpa using q))
noncomputable def lH(wi:TI)(g:TG)(tb:TS):TS:=λD σ H=>wi σ H λJ H1=>∃W:Nat->Nat->St->Hp->Prop,(∃m,W 0 m σ H1)/\∀i m σ H,W i m σ H->
 (J.stop i H/\D.nx σ H)\/(J.go i H/\∃N:St->Hp->Prop,(∀σ' H',N σ' H'->∃m',m'<m/\W (i+1) m' σ' H')/\∀x H',J.yld i H x H'->g x σ H' λσ2 H2=>tb {D with nx:=N,ct:=N,bk:=D.nx} σ2 H2)
noncomputable def P1(fp:Gc nI)(h:oE):Gc (nI×Obj):=fp.filterMap λb=>(h.get? b).map λo=>(b,o)
theorem JH{fp:Gc nI}{h:oE}{b:nI}{o:Obj}(hb:b∈fp)(e:h.get? b=Fk o):(b,o)∈P1 fp h:=vc.mpr ⟨b,hb,by rw[e];rfl⟩
theorem Ve{fp:Gc nI}{h:oE}{p:nI×Obj}(hp:p∈P1 fp h):p.1∈fp/\h.get? p.1=Fk p.2:=by
 obtain⟨b,hb,e⟩:=vc.mp hp
 cases q:h.get? b with
 |none=>rw[q]at e;cases e
 |some o=>
  rw[q]at e
  have e':(b,o)=p:=oy e
  subst e'
  exact⟨hb,q⟩
theorem Inv.pinned{pins:Gc (nI×Obj)}{σ:St}{H:Hp}{s:nE}{fp:Gc nI}(I:Inv X pins σ H s)(hf:∀b∈fp,Q7 X pins H b)(ho:∀b∈fp,∃o,s.heap.get? b=Fk o/\∀v,o.data≠.cell v):Inv X (pins++P1 fp s.heap) σ H s:=
 I.UA λp hp=>(oD.mp hp).elim (λz=>I.pin p (oW _ z)) λz=>by
  obtain⟨hb,e⟩:=Ve z
  obtain⟨f0,f1,f2,_⟩:=hf p.1 hb
  obtain⟨o,e',d⟩:=ho p.1 hb
  rw[e]at e';cases e'
  exact⟨e,f0,f1,f2,d⟩
theorem Inv.Ls{pins pl:Gc (nI×Obj)}{σ:St}{H:Hp}{s:nE}(I:Inv X (pins++pl) σ H s):Inv X pins σ H s:=I.UA λp hp=>I.pin p (oW _ (sf _ hp))
theorem b9{iter:oA}{body:Gc oK}{wi:TI}{g:TG}{tb:TS}{pos:Pos}(hp:wU (model X.prog X.w) X.A X.env X.xe)(hc:X.calm=true)(hi:PI X tg iter wi)(hg:PG X tg g)(hb:PSs X body tb)(hs:∀x,foldedSetIterable iter X.env x=pure x:=by intro _;rfl):PS X (.For tg iter body [] pos) (lH wi g tb):=by
 intro pins s σ H D I h
 refine wpAny_For (thn (hi pins s σ H _ I h) λv s1 h1=>thn h1 λitv s2 h2=>?_) hs
 obtain⟨it,fp,tn,J,H2,e,I2,T,st2,f2,W,⟨m0,w0⟩,turn⟩:=h2
 subst e
 have stat:∀{H':Hp},(∀b∈fp,H' b=nD)->∀b∈fp,Q7 X pins H' b:=λhn b hb=>⟨hn b hb,(f2 b hb).2⟩
 refine codeAny_forLoop_any (λn s'=>∃i σ' H',Inv X pins σ' H' s'/\tn i s'.heap/\(∀b∈fp,H' b=nD)/\W i n σ' H') ?_ m0 ⟨0,σ,H2,I2,st2,λb hb=>(f2 b hb).1,w0⟩
 rintro n s3 ⟨i,σ3,H3,I3,st3,fr3,w3⟩
 rcases turn i n σ3 H3 w3 with⟨stop,qn⟩|⟨go,N,hN,step⟩
 .refine qe hp (thn (T.done X rfl rfl rfl hc i pins s3 σ3 H3 X.xe I3 (stat fr3) st3 stop) λr s4 ⟨hr,I4⟩=>?_)
  subst hr
  exact rW ⟨σ3,H3,I4,qn⟩
 .refine qe hp (thn (T.item X rfl rfl rfl hc i pins s3 σ3 H3 X.xe I3 (stat fr3) st3 go) λr s4 ⟨u,hr,h4⟩=>?_)
  subst hr
  refine qe hp (thn h4 λ_ s5 ⟨x,H5,I5,r5,y5,st5,fr5⟩=>?_)
  have I5':=I5.pinned (stat fr5) (T.obj _ _ st5)
  refine qe hp (thn (hg _ s5 σ3 H5 x u _ I5' r5 (step x H5 y5)) λ_ s6 ⟨σ6,H6,I6,q6⟩=>?_)
  refine qe hp (thn (hb _ s6 σ6 H6 _ I6 q6) λf s7 q7=>?_)
  have again:∀{σ7:St} {H7:Hp},Inv X (pins++P1 fp s5.heap) σ7 H7 s7->N σ7 H7->∃m,m<n/\∃i σ' H',Inv X pins σ' H' s7/\tn i s7.heap/\(∀b∈fp,H' b=nD)/\W i m σ' H':=λ{σ7 H7} I7 n7=>by
   obtain⟨m',hm,w7⟩:=hN σ7 H7 n7
   refine⟨m',hm,i+1,σ7,H7,I7.Ls,T.keep _ _ _ st5 λb hb o e=>(I7.pin (b,o) (oW _ (oW _ (JH hb e)))).1,λb hb=>?_,w7⟩
   obtain⟨o,e,d⟩:=T.obj _ _ st5 b hb
   exact(I7.pin (b,o) (oW _ (oW _ (JH hb e)))).2.1
  cases f with
  |next=>obtain⟨σ7,H7,I7,n7⟩:=q7;exact again I7 n7
  |cont=>obtain⟨σ7,H7,I7,n7⟩:=q7;exact again I7 n7
  |brk=>obtain⟨σ7,H7,I7,q7⟩:=q7;exact⟨σ7,H7,I7.Ls,q7⟩
  |ret v=>obtain⟨x7,σ7,H7,I7,r7,q7⟩:=q7;exact⟨x7,σ7,H7,I7.Ls,r7,q7⟩
end
end L2
namespace L2
open PySem PySem.Spec PyProof.Rows
abbrev R2:=V->V->Hp->VK->Prop
def OpR(X:Cx)(f:Wp->Wp->Sem Wp)(r:R2):Prop:=
 ∀(pins:Gc (nI×Obj)) (s:nE) (σ:St) (H:Hp) (x y:V) (v u:Wp) (Q:VK),Inv X pins σ H s->RelV x v->RelV y u->r x y H Q->
  wpAny (model X.prog X.w) X.A (f v u) (EP X pins σ Q) X.xe s
def UnR(X:Cx)(f:Wp->Sem Wp)(r:V->Hp->VK->Prop):Prop:=
 ∀(pins:Gc (nI×Obj)) (s:nE) (σ:St) (H:Hp) (x:V) (v:Wp) (Q:VK),Inv X pins σ H s->RelV x v->r x H Q->
  wpAny (model X.prog X.w) X.A (f v) (EP X pins σ Q) X.xe s
def Ga(X:Cx)(f:Wp)(r:Gc V->Hp->VK->Prop):Prop:=
 ∀(pins:Gc (nI×Obj)) (s:nE) (σ:St) (H:Hp) (xs:Gc V) (us:Gc Wp) (Q:VK),Inv X pins σ H s->Vals xs us->r xs H Q->
  wpAny (model X.prog X.w) X.A (call f us) (EP X pins σ Q) X.xe s
noncomputable def tOp(r:R2)(ta tb:TE):TE:=λσ H Q=>ta σ H λx H1=>tb σ H1 λy H2=>r x y H2 Q
noncomputable def tUn(r:V->Hp->VK->Prop)(ta:TE):TE:=λσ H Q=>ta σ H λx H1=>r x H1 Q
noncomputable def rI(C:Int->Int->Prop)(g:Int->Int->V):R2:=λx y H Q=>∃i j,x=.int i/\y=.int j/\C i j/\Q (g i j) H
noncomputable def rI0(g:Int->Int->V):R2:=λx y H Q=>∃i j,x=.int i/\y=.int j/\Q (g i j) H
def rU(g:Int->V):V->Hp->VK->Prop:=λx H Q=>∃i,x=.int i/\Q (g i) H
section
variable{X:Cx}{a b c:oA}{ta tb tc:TE}{pos:Pos}
theorem iz(ha:PE X a ta)(hb:PE X b tb){pins:Gc (nI×Obj)}{s:nE}{σ:St}{H:Hp}{R:V->V->Hp->Prop}(I:Inv X pins σ H s)(h:ta σ H λx H1=>tb σ H1 λy H2=>R x y H2){Q:Wp->nE->Prop}{f:Wp->Wp->Sem Wp}(hf:∀v u s2 x y H2,Inv X pins σ H2 s2->RelV x v->RelV y u->R x y H2->wpAny (model X.prog X.w) X.A (f v u) Q X.xe s2):wpAny (model X.prog X.w) X.A (eval a X.env) (λv s₁=>wpAny (model X.prog X.w) X.A (eval b X.env) (λu s₂=>wpAny (model X.prog X.w) X.A (f v u) Q X.xe s₂) X.xe s₁) X.xe s:=by
 refine thn (ha pins s σ H _ I h) λv s1 ⟨x,H1,I1,r1,q1⟩=>?_
 refine thn (hb pins s1 σ H1 _ I1 q1) λu s2 ⟨y,H2,I2,r2,q2⟩=>?_
 exact hf v u s2 x y H2 I2 r1 r2 q2
theorem jV{op:Operator}{r:R2}(ho:OpR X (binaryOp op) r)(ha:PE X a ta)(hb:PE X b tb):PE X (.BinOp a op b pos) (tOp r ta tb):=by
 intro pins s σ H Q I h
 exact wpAny_BinOp (iz ha hb I h λv u s2 x y H2 I2 rx ry q=>ho pins s2 σ H2 x y v u Q I2 rx ry q)
theorem ia{op:UnaryOp}{r:V->Hp->VK->Prop}(ho:UnR X (unaryOp op) r)(ha:PE X a ta):PE X (.UnaryOp op a pos) (tUn r ta):=by
 intro pins s σ H Q I h
 exact UnaryOp_ (thn (ha pins s σ H _ I h) λv s1 ⟨x,H1,I1,r1,q1⟩=>ho pins s1 σ H1 x v Q I1 r1 q1)
theorem opI{f:Wp->Wp->Sem Wp}{C:Int->Int->Prop}{g:Int->Int->Int}(rule:∀(i j:Int) (t u:Tok) (s:nE) (Q:Wp->nE->Prop) (E:Wp->nE->Prop),C i j->Q (.int (g i j) s.toks) {s with toks:=s.toks+1}->wpAny (model X.prog X.w) X.A (f (.int i t) (.int j u)) Q E s):OpR X f (rI C λi j=>.int (g i j)):=by
 intro pins s σ H x y v u Q I rx ry h
 obtain⟨i,j,rfl,rfl,hc,q⟩:=h
 obtain⟨t,rfl⟩:=rx
 obtain⟨t',rfl⟩:=ry
 exact rule i j t t' s _ _ hc ⟨.int (g i j),H,I.tok _,⟨_,rfl⟩,q⟩
theorem kC{f:Wp->Wp->Sem Wp}{g:Int->Int->Int}(rule:∀(i j:Int) (t u:Tok) (s:nE) (Q:Wp->nE->Prop) (E:Wp->nE->Prop),Q (.int (g i j) s.toks) {s with toks:=s.toks+1}->wpAny (model X.prog X.w) X.A (f (.int i t) (.int j u)) Q E s):OpR X f (rI0 λi j=>.int (g i j)):=by
 intro pins s σ H x y v u Q I rx ry h
 obtain⟨i,j,rfl,rfl,q⟩:=h
 obtain⟨t,rfl⟩:=rx
 obtain⟨t',rfl⟩:=ry
 exact rule i j t t' s _ _ ⟨.int (g i j),H,I.tok _,⟨_,rfl⟩,q⟩
theorem fL{f:Wp->Wp->Sem Wp}{g:Int->Int->oQ}(rule:∀(i j:Int) (t u:Tok) (s:nE) (Q:Wp->nE->Prop) (E:Wp->nE->Prop),Q (.bool (g i j)) s->wpAny (model X.prog X.w) X.A (f (.int i t) (.int j u)) Q E s):OpR X f (rI0 λi j=>.bl (g i j)):=by
 intro pins s σ H x y v u Q I rx ry h
 obtain⟨i,j,rfl,rfl,q⟩:=h
 obtain⟨t,rfl⟩:=rx
 obtain⟨t',rfl⟩:=ry
 exact rule i j t t' s _ _ ⟨.bl (g i j),H,I,rfl,q⟩
def mV(i j:Int):Prop:=0<=j/\j<=1000000/\i.natAbs<2^64
def jd(i j:Int):Prop:=(-(2^64)<i/\i<2^64)\/(-(2^64)<j/\j<2^64)
theorem jd.ok{i j:Int}(h:jd i j):IntMulOk i j:=by
 rcases h with⟨h1,h2⟩|⟨h1,h2⟩
 .exact .of_left (yA h1 h2)
 .exact .of_right (yA h1 h2)
theorem eF:OpR X (binaryOp .Add) (rI0 λi j=>.int (i+j)):=kC λ_ _ _ _ _ _ _ q=>add_int q
theorem cE:OpR X (binaryOp .Sub) (rI0 λi j=>.int (i-j)):=kC λ_ _ _ _ _ _ _ q=>sub_int q
theorem Yn:OpR X (binaryOp .Mult) (rI jd λi j=>.int (i*j)):=opI λ_ _ _ _ _ _ _ hc q=>xp q hc.ok
theorem eS:OpR X (binaryOp .Mod) (rI (λ_ j=>0<j) λi j=>.int (i % j)):=opI λi j _ _ _ _ _ hc q=>by
 have h1:(0:Int)<j:=hc
 exact mod_int' (by lia) (by rw[Int.fmod_eq_emod_of_nonneg i (by lia)];exact q)
theorem c8:OpR X (binaryOp .Pow) (rI mV λi j=>.int (i^j.toNat)):=opI λ_ _ _ _ _ _ _ hc q=>pow_int_small hc.1 hc.2.1 hc.2.2 q
theorem unI{f:Wp->Sem Wp}{g:Int->Int}(rule:∀(i:Int) (t:Tok) (s:nE) (Q:Wp->nE->Prop) (E:Wp->nE->Prop),Q (.int (g i) s.toks) {s with toks:=s.toks+1}->wpAny (model X.prog X.w) X.A (f (.int i t)) Q E s):UnR X f (rU λi=>.int (g i)):=by
 intro pins s σ H x v Q I rx h
 obtain⟨i,rfl,q⟩:=h
 obtain⟨t,rfl⟩:=rx
 exact rule i t s _ _ ⟨.int (g i),H,I.tok _,⟨_,rfl⟩,q⟩
theorem dy:UnR X (unaryOp .USub) (rU λi=>.int (-i)):=unI λ_ _ _ _ _ q=>neg_int q
end
section
variable{X:Cx}{a b c:oA}{ta tb tc:TE}{pos:Pos}
theorem cV{pins:Gc (nI×Obj)}{σ:St}{H:Hp}{s:nE}{Q:VK}{k k':oQ}(I:Inv X pins σ H s)(q:Q (.bl k) H)(e:k=k'):EP X pins σ Q (.bool k') s:=by
 subst e
 exact⟨.bl k,H,I,rfl,q⟩
theorem iI:OpR X (compareOp .Lt) (rI0 λi j=>.bl (decide (i<j))):=fL λ_ _ _ _ _ _ _ q=>lt_int q
theorem jg:OpR X (compareOp .LtE) (rI0 λi j=>.bl (decide (i<=j))):=fL λ_ _ _ _ _ _ _ q=>le_int q
theorem hJ:OpR X (compareOp .Gt) (rI0 λi j=>.bl (decide (j<i))):=fL λ_ _ _ _ _ _ _ q=>gt_int q
theorem ik:OpR X (compareOp .GtE) (rI0 λi j=>.bl (decide (j<=i))):=fL λ_ _ _ _ _ _ _ q=>ge_int q
theorem Zb:OpR X (compareOp .IsNot) (λx y H Q=>y=.non/\Q (.bl (!decide (x=.non))) H):=by
 intro pins s σ H x y v u Q I rx ry h
 obtain⟨rfl,q⟩:=h
 cases ry
 refine isnot_none_gen (cV I q ?_)
 cases x<;>first
  |(cases rx;rfl)
  |(obtain⟨t,rfl⟩:=rx;rfl)
theorem Zr{op:CmpOp}{r:R2}(ho:OpR X (compareOp op) r)(ha:PE X a ta)(hb:PE X b tb)(hm:behindInMarks op b=false):PE X (.Compare a [op] [b] pos) (tOp r ta tb):=by
 intro pins s σ H Q I h
 exact wpAny_Compare1 (iz ha hb I h λv u s2 x y H2 I2 rx ry q=>ho pins s2 σ H2 x y v u Q I2 rx ry q) hm
noncomputable def bZ(t:TE):TT:=λσ H Q=>t σ H λx H'=>∃k,x=.bl k/\Q k H'
theorem ay{op:CmpOp}{r:R2}(ho:OpR X (compareOp op) r)(ha:PE X a ta)(hb:PE X b tb)(hm:behindInMarks op b=false):PT X (.Compare a [op] [b] pos) (bZ (tOp r ta tb)):=by
 intro pins s σ H Q I h
 refine wpAny_isTrue_Compare1 (thn (ha pins s σ H _ I h) λv s1 ⟨x,H1,I1,r1,q1⟩=>thn (hb pins s1 σ H1 _ I1 q1) λu s2 ⟨y,H2,I2,r2,q2⟩=>
  thn (ho pins s2 σ H2 x y v u _ I2 r1 r2 q2) λc s3 ⟨z,H3,I3,r3,k,e,q3⟩=>?_) hm
 subst e
 cases r3
 exact rB ⟨H3,I3,q3⟩
theorem QT:(sizeLine:Nat)<2^63:=by rw[zc];decide
theorem Sq:OpR X (binaryOp .Add) (λx y H Q=>∃i j,x=.str i/\y=.str j/\i.length+j.length<=sizeLine/\Q (.str (i++j)) H):=by
 intro pins s σ H x y v u Q I rx ry h
 obtain⟨i,j,rfl,rfl,hz,q⟩:=h
 obtain⟨t,rfl⟩:=rx
 obtain⟨t',rfl⟩:=ry
 exact add_str (λt' tk=>⟨.str (i++j),H,I.tok _,⟨_,rfl⟩,q⟩) hz
theorem vals1{x:V}{us:Gc Wp}(r:Vals [x] us):∃u,us=[u]/\RelV x u:=by
 cases r with
 |cons r1 r2=>cases r2;exact⟨_,rfl,r1⟩
theorem vals2{x y:V}{us:Gc Wp}(r:Vals [x,y] us):∃u w',us=[u,w']/\RelV x u/\RelV y w':=by
 cases r with
 |cons r1 r2=>
  cases r2 with
  |cons r3 r4=>cases r4;exact⟨_,_,rfl,r1,r3⟩
theorem XM:Ga X (.builtin "abs") (λxs H Q=>∃i,xs=[.int i]/\Q (.int (if i<0 then-i else i)) H):=by
 intro pins s σ H xs us Q I r h
 obtain⟨i,rfl,q⟩:=h
 obtain⟨u,rfl,t,rfl⟩:=vals1 r
 exact call_abs_int λu tk=>⟨.int (if i<0 then-i else i),H,I.tok _,⟨_,rfl⟩,q⟩
theorem Uc(hc:X.calm=true):Ga X (.builtin "min") (λxs H Q=>∃i j,xs=[.int i,.int j]/\Q (.int (if j<i then j else i)) H):=by
 intro pins s σ H xs us Q I r h
 obtain⟨i,j,rfl,q⟩:=h
 obtain⟨u,w',rfl,⟨t,rfl⟩,⟨t',rfl⟩⟩:=vals2 r
 refine min_two_ints (I.ok.hd hc) λh' tk k=>⟨_,H,I.kept k,?_,q⟩
 by_cases hj:j<i
 .rw[oP hj,oP hj];exact⟨_,rfl⟩
 .rw[oU hj,oU hj];exact⟨_,rfl⟩
theorem QL:Ga X (.type "int") (λxs H Q=>(∃i,xs=[.int i]/\Q (.int i) H)\/∃k,xs=[.bl k]/\Q (.int (if k then 1 else 0)) H):=by
 intro pins s σ H xs us Q I r h
 rcases h with⟨i,rfl,q⟩|⟨k,rfl,q⟩
 .obtain⟨u,rfl,t,rfl⟩:=vals1 r
  exact call_int_int ⟨.int i,H,I,⟨_,rfl⟩,q⟩
 .obtain⟨u,rfl,r1⟩:=vals1 r
  cases r1
  exact call_int_bool ⟨.int (if k then 1 else 0),H,I.tok _,⟨_,rfl⟩,q⟩
end
end L2
namespace L2
open PySem PySem.Spec PyProof.Rows
structure jR(h:oE)(x dx C:nI)(mA:Str->nG Wp):Prop where
 obj:h.get? x=Fk (uq C dx)
 ns:h.Ns1 dx mA
 ne:dx≠x
theorem Vh{h:oE}{dx:nI}{mA:Str->nG Wp}(n:h.Ns1 dx mA):∃od,h.get? dx=Fk od/\∀name,u9 name od=Fk (mA name):=by
 obtain⟨o,es,ep,ho,hd,hk,_,hm⟩:=n
 refine⟨o,ho,λname=>?_⟩
 have e:=hm name
 unfold nsFind findBy at e
 rw[<-Array.find?_toList]at e
 unfold u9
 rw[hd]
 dsimp only
 split
 .rename_i y q
  rw[q]at e
  exact congrArg Fk e
 .rename_i q
  rw[q]at e
  have a:es.toList.any (·.refKey)=false:=by
   rw[vv]
   intro y hy
   obtain⟨z,t,hkey⟩:=hk y (Array.mem_toList_iff.mp hy)
   simp[DictEntry.refKey,hkey]
  have a':¬es.toList.any (·.refKey)=true:=by rw[a];exact oX
  rw[oU a']
  exact congrArg Fk e
theorem jR.look{h:oE}{x dx C:nI}{mA:Str->nG Wp}(I:jR h x dx C mA):∃od,PySem.W.InstAt h x (uq C dx) C (Fk od)/\∀name,u9 name od=Fk (mA name):=
 let⟨od,ho,hl⟩:=Vh I.ns
 ⟨od,⟨I.obj,rfl,rfl,ho⟩,hl⟩
section
variable{prog:nv}{w:oM}{A:oN}{E:Wp->nE->Prop}{s:nE}{K:KE}{x dx C f:nI}{mA:Str->nG Wp}{name:Str}{v:Wp}
end
section
variable{P:nv}{w:oM}{H H':Hp}{h h':oE}{a C dx:nI}{fs fs':Gc (Str×V)}
theorem Zt(hok:HOk P w H h)(e:H a=Fk (.ins C dx fs)):∃mA,jR h a dx C mA/\(∀f,gI (fs.lookup f) (mA f))/\yd mA (fs.map (·.1))/\fs.length<=1000/\H dx=Fk (.own a):=by
 obtain⟨d,z,ne,ob,mA,n,r,q⟩:=(show Ds P w H h a (.ins C dx fs)from hok a _ e)
 exact⟨mA,⟨ob,n,ne⟩,r,q,z,d⟩
end
structure Cls(K:KE)(C:nI):Prop where
 pg:wV K C Str.empty=true
 hd:PySem.W.hasDictIn K C=true
 po:PySem.W.plainOver K C=true
 sa:r9 K (.ref C) "__setattr__"=Fk (Fk (.builtin "object.__setattr__"))
theorem Cls.get{K:KE}{C:nI}(c:Cls K C)(f:Str):wV K C f=true:=c.pg
structure Con(K:KE)(C:nI)(f:Str)(v:V)(u:Wp):Prop where
 at_:r9 K (.ref C) f=Fk (Fk u)
 rel:RelV v u
 get:vw K u "__get__"=Fk nD
 cp:PySem.W.copiedNames.contains f=false
structure Meth(K:KE)(C:nI)(m:Str)(f:nI):Prop where
 at_:r9 K (.ref C) m=Fk (Fk (.ref f))
 fn:yk K (.ref f)=true
 kp:qM K (.ref f)=true
section
variable{X:Cx}{pins:Gc (nI×Obj)}{σ:St}{H:Hp}{s:nE}{a C dx:nI}{fs:Gc (Str×V)}{f:Str}{v:V}{A:oN}{E:Wp->nE->Prop}
end
section
variable{X:Cx}{o e value:oA}{f:Str}{pos pos' tpos:Pos}{ta tv:TE}
end
section
variable{X:Cx}{pins:Gc (nI×Obj)}{σ:St}{H:Hp}{s:nE}{A:oN}{E:Wp->nE->Prop}{Q:Wp->nE->Prop}{c:Wp}{b:oQ}
inductive Tn(K:KE)(H:Hp):V->Wp->Prop where
 |non:Tn K H .non (.type "NoneType")
 |bl (x:oQ):Tn K H (.bl x) (.type "bool")
 |int (i:Int):Tn K H (.int i) (.type "int")
 |str (x:Str):Tn K H (.str x) (.type "str")
 |flt (x:UInt64):Tn K H (.flt x) (.type "float")
 |lst {a:nI} {xs:Gc V} (e:H a=Fk (.lst xs)):Tn K H (.ref a) (.type "list")
 |frz {a:nI} {o:Obj} {xs:Gc V} (e:H a=Fk (.frz o (.lst xs))):Tn K H (.ref a) (.type "list")
 |tup {a:nI} {xs:Gc V} (e:H a=Fk (.tup xs)):Tn K H (.ref a) (.type "tuple")
 |dK {a:nI} {kvs:Gc (Key×V)} (e:H a=Fk (.dK kvs)):Tn K H (.ref a) (.type "dict")
 |dT {a:nI} {kvs:Gc (Gc Key×V)} (e:H a=Fk (.dT kvs)):Tn K H (.ref a) (.type "dict")
 |ins {a C dx:nI} {fs:Gc (Str×V)} (e:H a=Fk (.ins C dx fs)) (cl:Cls K C) (ha:r9 K (.ref C) "__class__"=Fk (Fk (.builtin "object.__class__")))
   (hn:vw K (.builtin "object.__class__") "__get__"=Fk (Fk (.builtin "getset_descriptor.__get__"))) (htk:PySem.W.takesIn K (.builtin "object.__class__")=Fk true)
   (hm:PySem.W.mroIn K C (.type "object")=Fk true):Tn K H (.ref a) (.ref C)
theorem F7{x:V}{u t:Wp}(I:Inv X pins σ H s)(rx:RelV x u)(ty:Tn X.K H x t)(e:qV X.K t c=Fk b)(h:∀tk,Q (.bool b) {s with toks:=tk}):wpAny (model X.prog X.w) A (call (.builtin "isinstance") [u,c]) Q E s:=by
 cases ty with
 |non=>cases (show u=pN from rx);exact pK PySem.W.kitx_none I.kIn sT e (λz=>nomatch z) h
 |bl y=>cases (show u=vb y from rx);exact pK PySem.W.kitx_bool I.kIn sT e (λz=>nomatch z) h
 |int i=>obtain⟨t,q⟩:=(show∃t,u=uN i t from rx);cases q;exact pK PySem.W.kitx_int I.kIn sT e (λz=>nomatch z) h
 |str y=>obtain⟨t,q⟩:=(show∃t,u=uO y t from rx);cases q;exact pK PySem.W.kitx_str I.kIn sT e (λz=>nomatch z) h
 |flt y=>obtain⟨t,q⟩:=(show∃t,u=zR y t from rx);cases q;exact pK PySem.W.kitx_float I.kIn sT e (λz=>nomatch z) h
 | @lst a xs ea=>
   cases (show u=pL a from rx)
   obtain⟨_,_,n,_,h1⟩:=(show Ds X.prog X.w H s.heap a (.lst xs)from I.hok a _ ea)
   exact pK vx I.kIn ⟨_,h1,rfl⟩ e (λz=>nomatch z) h
 | @frz a ob xs ea=>
   cases (show u=pL a from rx)
   obtain⟨_,_,_,n,_,h1⟩:=(show Ds X.prog X.w H s.heap a (.frz ob (.lst xs))from I.hok a _ ea)
   exact pK vx I.kIn ⟨_,h1,rfl⟩ e (λz=>nomatch z) h
 | @tup a xs ea=>
   cases (show u=pL a from rx)
   obtain⟨_,_,_,p⟩:=(show Ds X.prog X.w H s.heap a (.tup xs)from I.hok a _ ea)
   obtain⟨o,h1,h2,_⟩:=p
   exact pK vd I.kIn ⟨o,h1,h2⟩ e (λz=>nomatch z) h
 | @dK a kvs ea=>
   cases (show u=pL a from rx)
   obtain⟨_,_,vs,_,p⟩:=(show Ds X.prog X.w H s.heap a (.dK kvs)from I.hok a _ ea)
   obtain⟨o,es,ep,h1,h2,_⟩:=p
   exact pK vy I.kIn ⟨o,h1,h2.1⟩ e (λz=>nomatch z) h
 | @dT a kvs ea=>
   cases (show u=pL a from rx)
   obtain⟨_,_,xs,_,o,es,ep,h1,h2,_⟩:=(show Ds X.prog X.w H s.heap a (.dT kvs)from I.hok a _ ea)
   exact pK vy I.kIn ⟨o,h1,h2.1⟩ e (λz=>nomatch z) h
 | @ins a C dx fs ea cl ha hn htk hm=>
   cases (show u=pL a from rx)
   obtain⟨mA,O,_⟩:=Zt I.hok ea
   obtain⟨od,J,_⟩:=O.look
   exact pK (PySem.W.kitx_own (cl.get _) cl.hd ha hn htk hm) I.kIn J e (λz=>nomatch z) h
end
end L2
namespace L2
open PySem PySem.Spec PyProof.Rows
structure Gz(k:Nat)(A:oN):Prop where
 hd:A.handled=nD
 dp:A.depth+3*k+5<recursionLimit
 un:A.units+16*k+200<cLine
theorem Gz.mono{j k:Nat}{A:oN}(r:Gz k A)(h:j<=k):Gz j A:=⟨r.hd,by have:=r.dp;lia,by have:=r.un;lia⟩
theorem Gz.deeper{k:Nat}{A:oN}(r:Gz (k+1) A)(env:Env):Gz k (A.deeper env):=
 ⟨r.hd,by have:=r.dp;show A.depth+1+3*k+5<_;lia,by have:=r.un;show A.units+3+16*k+200<_;lia⟩
theorem Gz.depth{k:Nat}{A:oN}(r:Gz k A):A.depth<recursionLimit:=by have:=r.dp;lia
noncomputable def j4:TA:=λ_ H Q=>Q [] H
noncomputable def cR(ta:TE)(tr:TA):TA:=λσ H Q=>ta σ H λx H1=>tr σ H1 λxs H2=>Q (x::xs) H2
section
variable{X:Cx}{e:oA}{es:Gc oA}{te:TE}{t:TA}{pos:Pos}
theorem U8:PA X [] j4:=λ_ _ _ _ H Q I h=>sR ⟨[],H,I,.nil,h⟩
theorem O1(ha:PE X e te)(hr:PA X es t)(hs:nk (e::es) X.env=(false,eval e X.env)::nk es X.env:=by rfl):PA X (e::es) (cR te t):=by
 intro pos pins s σ H Q I h
 rw[hs]
 show wpAny _ _ (spliced ((false,eval e X.env)::backTo pos (nk es X.env))) _ _ s
 refine sA (thn (ha pins s σ H _ I h) λu s1 ⟨x,H1,I1,r1,q1⟩=>?_)
 exact thn (hr pos pins s1 σ H1 _ I1 q1) λus s2 ⟨xs,H2,I2,r2,q2⟩=>⟨x::xs,H2,I2,.cons r1 r2,q2⟩
noncomputable def ku(t:TA):TE:=λσ H Q=>t σ H λxs H1=>xs.length<=sizeLine/\∀p,H1 p=nD->Q (.ref p) (upd H1 p (.tup xs))
noncomputable def mZ(t:TA):TE:=λσ H Q=>t σ H λxs H1=>xs.length<=sizeLine/\∀p,H1 p=nD->Q (.ref p) (upd H1 p (.lst xs))
theorem bp{x1}(h:PA X es t):PE X (.Tuple es x1 pos) (ku t):=by
 intro pins s σ H Q I hq
 refine wpAny_Tuple_spliced (thn (h pos pins s σ H _ I hq) λus s1 ⟨xs,H1,I1,r,z,q⟩=>⟨by rw[<-r.length];exact z,?_⟩)
 have hf:H1 s1.heap.objs.size=none:=I1.hok.fresh (nS _)
 refine⟨.ref s1.heap.objs.size,upd H1 s1.heap.objs.size (.tup xs),I1.laid (t':=s1.toks) (λb u e=>W1 _ e) (nS _) ?_,rfl,q _ hf⟩
 exact⟨z,us,r,⟨_,nq _ rfl,rfl,_,rfl⟩⟩
theorem eY(h:PA X es t):PE X (.List es pos) (mZ t):=by
 intro pins s σ H Q I hq
 refine wpAny_List_spliced (thn (h pos pins s σ H _ I hq) λus s1 ⟨xs,H1,I1,r,z,q⟩=>⟨by rw[<-r.length];exact z,?_⟩)
 have hf:H1 s1.heap.objs.size=none:=I1.hok.fresh (nS _)
 refine⟨.ref s1.heap.objs.size,upd H1 s1.heap.objs.size (.lst xs),I1.laid (t':=s1.toks) (λb u e=>W1 _ e) (nS _) ?_,rfl,q _ hf⟩
 exact⟨z,us,0,r,nq _ rfl⟩
end
abbrev Sp:=Gc V->Hp->VK->XK->Prop
abbrev CXT:=Gc Env->Hp->nE->XK->Wp->nE->Prop
structure dg(P:nv)(w:oM)(K:KE)(mg:Str->nG Wp)(base:oE)(A:oN)(outer:Gc Env)(s:nE)(H:Hp):Prop where
 frames:A.frames=Fk outer
 mod:Mod K mg base
 bs:∀b o,base.get? b=Fk o->s.heap.get? b=Fk o/\H b=nD
 bsz:base.objs.size<=s.heap.objs.size
 R6:s.heap.FunFrames base outer
 frf:∀b∈frs outer,H b=nD
 hok:HOk P w H s.heap
 bare:rf s.gens
def CE(outer:Gc Env)(P:nv)(w:oM)(H:Hp)(s:nE)(Q:VK)(u:Wp)(s':nE):Prop:=
 ∃v H',s'.os=s.os/\rf s'.gens/\Un (frs outer) [] H H' s.heap s'.heap/\HOk P w H' s'.heap/\RelV v u/\Q v H'
def CR(CX:CXT)(outer:Gc Env)(P:nv)(w:oM)(H:Hp)(s:nE)(Q:VK)(E:XK)(r:Result)(s':nE):Prop:=
 match r with
 | .ok (.ret u)=>CE outer P w H s Q u s'
 | .ok _=>qa
 | .error e=>CX outer H s E e s'
structure Rq(P:nv)(w:oM)(K:KE)(mg:Str->nG Wp)(base:oE)(CX:CXT)(k:Nat)(f:nI)(fd:qE)(ps:Gc Str)(sp:Sp):Prop where
 len:∀vs H Q E,sp vs H Q E->vs.length=ps.length
 run:∀(A:oN) (outer:Gc Env) (s:nE) (H:Hp) (args:Args) (us:Gc Wp) (vs:Gc V) (Q:VK) (E:XK),Gz k A->dg P w K mg base A outer s H->xJ s fd args (ps.zip us)->Vals vs us->sp vs H Q E->
  codeAny (model P w) A (.call (.ref f) args) (CR CX outer P w H s Q E) s
section
variable{X:Cx}{pins:Gc (nI×Obj)}{σ:St}{H:Hp}{s s':nE}
theorem Inv.bx(I:Inv X pins σ H s):dg X.prog X.w X.K X.mg X.base X.A X.stack s H:=
 ⟨I.ok.frames,I.ok.mod,I.bs,nR I.ok.bsz I.sz,I.stack,I.RH,I.hok,I.bare⟩
theorem Inv.after{Q:VK}{u:Wp}(I:Inv X pins σ H s)(h:CE X.stack X.prog X.w H s Q u s'):EP X pins σ Q u s':=by
 obtain⟨v,H',os,bare,un,hok,r,q⟩:=h
 obtain⟨hh,g,d,t,os'⟩:=s'
 obtain rfl:os'=s.os:=os
 exact⟨v,H',I.call (h':=hh) (g':=g) (d':=d) (t':=t) (ch:=[]) un hok bare (λb z=>absurd z (by simp)),r,q⟩
end
noncomputable def aj(sp:Sp)(dvs:Gc V)(E:XK)(t:TA):TE:=λσ H Q=>t σ H λvs H1=>sp (vs++dvs) H1 Q E
def Binds(K:KE)(fd:qE)(ps:Gc Str)(ds:Gc Wp):Prop:=
 ∀(s:nE) (us:Gc Wp),K.In s.heap->(us++ds).length=ps.length->xJ s fd ⟨us,[]⟩ (ps.zip (us++ds))
theorem Binds.all{K:KE}{fd:qE}{ps:Gc Str}(h:∀us:Gc Wp,us.length=ps.length->bindArgs fd ⟨us,[]⟩=pure (ps.zip us)):Binds K fd ps []:=λs us _ hl=>by
 rw[qP]at hl⊢
 exact .of_eq (h us hl)
def Passes(CX:CXT)(X:Cx)(E:XK):Prop:=∀(pins:Gc (nI×Obj)) (σ:St) (H:Hp) (s:nE) (e:Wp) (s':nE),Inv X pins σ H s->CX X.stack H s E e s'->X.xe e s'
section
variable{X:Cx}{CX:CXT}{k:Nat}{f C:nI}{fd:qE}{ps:Gc Str}{sp:Sp}{dvs:Gc V}{ds:Gc Wp}{E:XK}{x m:Str}{p pos apos:Pos}{e o:oA}{es:Gc oA}{ta:TE}{t:TA}
theorem dC{pins:Gc (nI×Obj)}{σ:St}{H:Hp}{s:nE}{Q:VK}{us:Gc Wp}{vs:Gc V}(F:Rq X.prog X.w X.K X.mg X.base CX k f fd ps sp)(hr:Gz k X.A)(hb:Binds X.K fd ps ds)(hd:Vals dvs ds)(hx:Passes CX X E)(I:Inv X pins σ H s)(r:Vals vs us)(h:sp (vs++dvs) H Q E):wpAny (model X.prog X.w) X.A (call (.ref f) us) (EP X pins σ Q) X.xe s:=by
 have r2:Vals (vs++dvs) (us++ds):=r.append hd
 have hl:(us++ds).length=ps.length:=by rw[<-r2.length];exact F.len _ _ _ _ h
 refine uc (ue (F.run X.A X.stack s H ⟨us,[]⟩ (us++ds) (vs++dvs) Q E hr I.bx (hb s us I.kIn hl) r2 h) λr s' hq=>?_)
 cases r with
 |error e=>exact hx pins σ H s e s' I hq
 |ok fl=>
  cases fl with
  |ret u=>exact I.after hq
  |next=>exact pX hq
  |brk=>exact pX hq
  |cont=>exact pX hq
theorem aO(F:Rq X.prog X.w X.K X.mg X.base CX k f fd ps sp)(hr:Gz k X.A)(hg:Gl X x)(hm:X.mg x=Fk (.ref f))(hk:qM X.K (.ref f)=true)(hb:Binds X.K fd ps ds)(hd:Vals dvs ds)(hx:Passes CX X E)(ha:PA X (e::es) t)(hdb:(x==("__debug__":Str))=false:=by decide)(he:nk (e::es) X.env=(false,eval e X.env)::nk es X.env:=by rfl)(hpl:(backTo pos (nk es X.env)).any (·.1)=false:=by rfl):PE X (.Call (.Name x p) (e::es) [] pos) (aj sp dvs E t):=by
 intro pins s σ H Q I h
 refine pQ (NB I hg hm ?_ hdb)
 refine tQ (h₀:=X.base) I.ok.mod.kin hk (thn (ha pos pins s σ H _ I h) λus s1 ⟨vs,H1,I1,r,q⟩=>⟨I1.kIn,?_⟩) he hpl
 exact dC F hr hb hd hx I1 r q
structure Mk(K:KE)(C f:nI):Prop where
 makes:PySem.W.makesIn K C=true
 init:r9 K (.ref C) "__init__"=Fk (Fk (.ref f))
 fn:yk K (.ref f)=true
 kp:qM K (.ref C)=true
end
section
variable{X:Cx}{CX:CXT}{k:Nat}{f C:nI}{fd:qE}{ps ks:Gc Str}{sp:Sp}{E:XK}{x m:Str}{p pos apos kpos:Pos}{e o:oA}{es:Gc oA}{kws:Gc uA}{te ta:TE}{t tk:TA}{nm:nG Str}
structure kg(K:KE)(fd:qE)(ps ks:Gc Str)(g:Gc Wp->Gc Wp->Gc Wp)(gV:Gc V->Gc V->Gc V):Prop where
 to:∀(s:nE) (us ws:Gc Wp),K.In s.heap->(g us ws).length=ps.length->xJ s fd ⟨us,ks.zip ws⟩ (ps.zip (g us ws))
 rel:∀{vs:Gc V} {us:Gc Wp} {zs:Gc V} {ws:Gc Wp},Vals vs us->Vals zs ws->Vals (gV vs zs) (g us ws)
variable{g:Gc Wp->Gc Wp->Gc Wp}{gV:Gc V->Gc V->Gc V}
end
structure AO(N P:Gc Str)(sc:pJ):Prop where
 kind:sc.kind=.function
 co:sc.isCoroutine=false
 gen:sc.isGenerator=false
 nd:N.Nodup
 pre:N.take P.length=P
 par:∀x∈P,sc.names.lookup x=Fk .local\/sc.names.lookup x=Fk .cell
 eR:∀y∈sc.names,y.2≠.free
theorem Pw{kindOf:Str->nG q5}{x:Str}:∀{binds:Gc (Str×Wp)} {m:Str->nG Wp},(∀v,(x,v)∉binds)->bindL kindOf binds m x=m x
 | [],_,_=>rfl
 |(n,v)::r,m,h=>by
  unfold bindL
  rw[Pw λw hw=>h w (nK _ hw)]
  split
  .have:x≠n:=by rintro rfl;exact h v nT
   simp[this]
  .rfl
theorem P5{kindOf:Str->nG q5}{x:Str}:∀{binds:Gc (Str×Wp)} {m:Str->nG Wp},(∀v,(x,v)∉binds)->bindC kindOf binds m x=m x
 | [],_,_=>rfl
 |(n,v)::r,m,h=>by
  unfold bindC
  rw[P5 λw hw=>h w (nK _ hw)]
  split
  .rfl
  .have:x≠n:=by rintro rfl;exact h v nT
   simp[this]
theorem P4{kindOf:Str->nG q5}{x:Str}{v:Wp}:∀{P:Gc Str} {vs:Gc Wp} {i:Nat} {m:Str->nG Wp},P.Nodup->P[i]?=Fk x->vs[i]?=Fk v->kindOf x=Fk .local->bindL kindOf (P.zip vs) m x=Fk v
 | [],_,_,_,_,h,_,_=>by simp at h
 |_::_,[],_,_,_,_,h,_=>by simp at h
 |p::P,w::vs,0,m,nd,h1,h2,hk=>by
  simp at h1 h2;subst h1;subst h2
  show bindL kindOf ((p,w)::P.zip vs) m p=_
  unfold bindL
  rw[Pw λv hv=>(qQ.mp nd).1 (pf hv).1,oP hk]
  simp
 |p::P,w::vs,i+1,m,nd,h1,h2,hk=>by
  show bindL kindOf ((p,w)::P.zip vs) m x=_
  unfold bindL
  exact P4 (i:=i) (qQ.mp nd).2 (by simpa using h1) (by simpa using h2) hk
theorem P7{kindOf:Str->nG q5}{x:Str}{v:Wp}:∀{P:Gc Str} {vs:Gc Wp} {i:Nat} {m:Str->nG Wp},P.Nodup->P[i]?=Fk x->vs[i]?=Fk v->kindOf x≠Fk .local->bindC kindOf (P.zip vs) m x=Fk v
 | [],_,_,_,_,h,_,_=>by simp at h
 |_::_,[],_,_,_,_,h,_=>by simp at h
 |p::P,w::vs,0,m,nd,h1,h2,hk=>by
  simp at h1 h2;subst h1;subst h2
  show bindC kindOf ((p,w)::P.zip vs) m p=_
  unfold bindC
  rw[P5 λv hv=>(qQ.mp nd).1 (pf hv).1,oU hk]
  simp
 |p::P,w::vs,i+1,m,nd,h1,h2,hk=>by
  show bindC kindOf ((p,w)::P.zip vs) m x=_
  unfold bindC
  exact P7 (i:=i) (qQ.mp nd).2 (by simpa using h1) (by simpa using h2) hk
noncomputable def start(N:Gc Str)(vs:Gc V):St:=vs.map Fk++nh (N.length-vs.length) nD
noncomputable def Ln(CX:CXT)(P:nv)(w:oM)(K:KE)(mg:Str->nG Wp)(base:oE)(N:Gc Str)(qual:Str)(scope:pJ)(f:nI)(cd:Wp)(A:oN)(outer:Gc Env)(s:nE)(H:Hp)(E:XK):Cx where
 prog:=P
 w:=w
 K:=K
 mg:=mg
 base:=base
 A:=A.deeper (envOfC qual scope s.heap.objs.size f cd)
 N:=N
 s₀:=s
 H₀:=H
 env:=envOfC qual scope s.heap.objs.size f cd
 outer:=outer
 stack:=envOfC qual scope s.heap.objs.size f cd::outer
 ex:=[]
 calm:=true
 fn:=λ_=>true
 pn:=[]
 xe:=λe s'=>wpAny (model P w) (A.deeper (envOfC qual scope s.heap.objs.size f cd)) (leaving (envOfC qual scope s.heap.objs.size f cd) e) (λ_ s''=>CX outer H s E e s'') (λe' s''=>CX outer H s E e' s'') s'
theorem Lw{sc:pJ}{n:Nat}{x:Str}(h:sc.names.lookup x=Fk .cell):∃c,(cellsFrom n sc.names []).lookup x=Fk c:=by
 have q:=sC sc.names n [] (.inl h)
 exact Option.isSome_iff_exists.mp q
theorem Pm{CX:CXT}{P:nv}{w:oM}{K:KE}{mg:Str->nG Wp}{base:oE}{N ps:Gc Str}{qual:Str}{scope:pJ}{f:nI}{cd:Wp}{A:oN}{outer:Gc Env}{s s1:nE}{H:Hp}{E:XK}{us:Gc Wp}{vs:Gc V}(S:AO N ps scope)(hd:A.handled=nD)(e0:dg P w K mg base A outer s H)(hl:vs.length=ps.length)(r:Vals vs us)(x:InCallC s s.heap.objs.size (bindL (envOfC qual scope s.heap.objs.size f cd).kindOf (ps.zip us) λ_=>nD) (cellsFrom (s.heap.objs.size+1) scope.names []) (bindC (envOfC qual scope s.heap.objs.size f cd).kindOf (ps.zip us) λ_=>nD) s1):Inv (Ln CX P w K mg base N qual scope f cd A outer s H E) [] (start N vs) H s1:=by
 have hpl:ps.length<=N.length:=by have:=congrArg uB S.pre;rw[uQ]at this;lia
 obtain⟨h1,tk,rfl,hk⟩:=x.done
 have noA:∀b:nI,b∉(Ln CX P w K mg base N qual scope f cd A outer s H E).ex:=λb z=>absurd (show b∈([]:Gc nI)from z) (by simp)
 refine⟨⟨e0.mod,S.kind,rfl,rfl,nS _,λy z c h1 h2=>?_,λy hy=>?_,λy c _ h=>?_,λ_=>hd,vA e0.frames,.inr ⟨rfl,rfl⟩,λb z=>absurd z (noA b),e0.bs,e0.bsz,λb _ _=>noA b,λb z=>absurd z (noA b),e0.R6,e0.frf⟩,
  rfl,e0.bare,Un.kept hk,⟨_,x.toInCall.ns,λi y v h1 h2 h3=>?_⟩,λy c h=>⟨_,x.cell y c h⟩,e0.hok.fresh (nS _),λy c h=>?_,λp hp=>absurd (show p∈([]:Gc (nI×Obj))from hp) (by simp),e0.hok.kept hk,?_⟩
 .exact yl x.apart (oS h1) (oS h2)
 .have hy:scope.names.lookup y=Fk .cell\/scope.names.lookup y=Fk .free:=hy
  rcases hy with hy|hy
  .exact Lw hy
  .exact absurd rfl (S.eR _ (oS hy))
 .exact tH (x.above y c (oS h))
 .have hi:i<vs.length:=by
   unfold start at h2
   by_cases hi:i<vs.length
   .exact hi
   .rw[oI (by simpa using hi)]at h2
    rw[uR]at h2
    split at h2<;>cases h2
  have ha:vs[i]?=Fk v:=by
   unfold start at h2
   rw[nJ (by simpa using hi),nY]at h2
   cases e:vs[i]? with
   |none=>rw[e]at h2;cases h2
   |some a=>rw[e]at h2;cases h2;rfl
  obtain⟨u,hu,rv⟩:=r.get ha
  have hp:ps[i]?=Fk y:=by
   rw[<-S.pre,List.getElem?_take_of_lt (by lia)];exact h1
  have ndP:ps.Nodup:=by rw[<-S.pre];exact S.nd.sublist (List.take_sublist _ _)
  refine⟨u,rv,?_⟩
  rcases S.par y (ni hp)with k|k
  .exact .inl ⟨k,P4 ndP hp hu k⟩
  .obtain⟨c,e⟩:=Lw (n:=s.heap.objs.size+1) k
   refine .inr ⟨.inl k,c,e,?_⟩
   have q:=x.cell y c e
   rw[P7 ndP hp hu (by show scope.names.lookup y≠_;rw[k];decide)]at q
   exact q
 .exact e0.hok.fresh (tH (x.above y c (oS h)))
 .unfold start
  show _=N.length
  rw[pI,oa,List.length_replicate]
  lia
theorem ZW{CX:CXT}{P:nv}{w:oM}{K:KE}{mg:Str->nG Wp}{base:oE}{k:Nat}{f:nI}{name qual:Str}{params:tN}{body:Gc oK}{scope:pJ}{dV kV doc pm cdv ct oc:Wp}{an od:nG nI}{osl:pE (nG Wp)}{N ps:Gc Str}{sp:Sp}(lk:K.lookup f=Fk ⟨oc,od,.func (rH name qual params body scope dV kV doc pm an cdv ct),osl⟩)(hcd:tS K cdv qual=true)(S:AO N ps scope)(len:∀vs H Q E,sp vs H Q E->vs.length=ps.length)(hbody:∀(A:oN) (outer:Gc Env) (s:nE) (H:Hp) (vs:Gc V) (Q:VK) (E:XK),Gz k (A.deeper (envOfC qual scope s.heap.objs.size f cdv))->sp vs H Q E->∃t,PSs (Ln CX P w K mg base N qual scope f cdv A outer s H E) body t/\t {nx:=λ_ H'=>Q .non H',rt:=Q} (start N vs) H):Rq P w K mg base CX (k+1) f (rH name qual params body scope dV kV doc pm an cdv ct) ps sp:=by
 refine⟨len,λA outer s H args us vs Q E hr e0 hb r hsp=>?_⟩
 have hl:=len _ _ _ _ hsp
 have KX:K.In s.heap:=e0.mod.kin.keeps λb o e=>(e0.bs b o e).1
 have lim:s.heap.NoLimit:=e0.mod.nolimit.keeps λb o e=>(e0.bs b o e).1
 have hkind:∀y∈ps.zip us,scope.names.lookup y.1=Fk .local\/(scope.names.lookup y.1=Fk .cell/\((cellsFrom (s.heap.objs.size+1) scope.names []).lookup y.1).isSome=true):=λ⟨n,v⟩ hy=>by
  rcases S.par n (pf hy).1 with q|q
  .exact .inl q
  .exact .inr ⟨q,sC _ _ _ (.inl q)⟩
 refine uy hr.depth (KX _ _ lk) rfl S.co S.gen rfl (ve KX hcd) (hb _ _ _ _ ?_)
 refine tT S.kind hkind λenv he s1 x=>?_
 subst he
 refine⟨lim.keeps x.toInCall.keep,ym ?_⟩
 obtain⟨t,ht,hq⟩:=hbody A outer s H vs Q E (hr.deeper _) hsp
 have I:Inv (Ln CX P w K mg base N qual scope f cdv A outer s H E) [] (start N vs) H s1:=Pm S hr.hd e0 hl r x
 refine pW (ht [] s1 (start N vs) H _ I hq) (λfl s' hs=>?_) λe s' hs=>hs
 have fin:∀{σ':St} {H':Hp} {v:V} {u:Wp},Inv (Ln CX P w K mg base N qual scope f cdv A outer s H E) [] σ' H' s'->RelV v u->Q v H'->CE outer P w H s Q u s':=
  λ{σ' H' v u} J rv q=>⟨v,H',J.os,J.bare,J.base,J.hok,rv,q⟩
 cases fl with
 |ret u=>
  obtain⟨v,σ',H',J,rv,q⟩:=hs
  exact fin J rv q
 |next=>
  obtain⟨σ',H',J,q⟩:=hs
  exact fin (v:=V.non) (u:=pN) J rfl q
 |brk=>
  obtain⟨_,_,_,q⟩:=hs
  exact pX q
 |cont=>
  obtain⟨_,_,_,q⟩:=hs
  exact pX q
end L2
namespace L2
open PySem PySem.Spec PyProof.Rows
section
variable{X:Cx}{x:Str}{p pos:Pos}{e:oA}{es:Gc oA}{t:TA}{id T:qo}{r:Gc V->Hp->VK->Prop}
noncomputable def tCB(r:Gc V->Hp->VK->Prop)(t:TA):TE:=λσ H Q=>t σ H λvs H1=>r vs H1 Q
theorem XJ(hc:Ga X (.builtin id) r)(hg:Gl X x)(hm:X.mg x=nD)(hv:bootBuiltins x=Fk (.builtin id))(ha:PA X (e::es) t)(hn:x≠ "__name__":=by decide)(hdb:(x==("__debug__":Str))=false:=by decide)(he:nk (e::es) X.env=(false,eval e X.env)::nk es X.env:=by rfl)(hpl:(backTo pos (nk es X.env)).any (·.1)=false:=by rfl):PE X (.Call (.Name x p) (e::es) [] pos) (tCB r t):=by
 intro pins s σ H Q I h
 refine pQ (LF I hg hm hv ?_ hn hdb)
 exact wW (thn (ha pos pins s σ H _ I h) λus s1 ⟨vs,H1,I1,r1,q1⟩=>hc pins s1 σ H1 vs us Q I1 r1 q1) he hpl
theorem UH(hc:Ga X (.type T) r)(hg:Gl X x)(hm:X.mg x=nD)(hv:bootBuiltins x=Fk (.type T))(ha:PA X (e::es) t)(hn:x≠ "__name__":=by decide)(hdb:(x==("__debug__":Str))=false:=by decide)(he:nk (e::es) X.env=(false,eval e X.env)::nk es X.env:=by rfl)(hpl:(backTo pos (nk es X.env)).any (·.1)=false:=by rfl):PE X (.Call (.Name x p) (e::es) [] pos) (tCB r t):=by
 intro pins s σ H Q I h
 refine pQ (LF I hg hm hv ?_ hn hdb)
 exact qA (thn (ha pos pins s σ H _ I h) λus s1 ⟨vs,H1,I1,r1,q1⟩=>hc pins s1 σ H1 vs us Q I1 r1 q1) he hpl
end
end L2
namespace HT
open PySem PyProof.Rows
section
open PySem.SeqAt
open PySem.AutoSeq1 (wpAny_loadPart')
open PySem.MeetsSeq PySem.MeetsSeq2 PySem.MeetsSeq3
end
section
variable{prog:nv}{w:oM}{A:oN}{E:Wp->nE->Prop}{s:nE}
theorem Zp{t b:nI}{vs ws:Gc Wp}{Q:Wp->nE->Prop}(ht:zS s.heap t vs.toArray)(hb:zS s.heap b ws.toArray)(hv:vs≠[])(h1:ws=[]->Q (.ref t) s)(h2:ws≠[]->Q (.ref s.heap.objs.size) {s with heap:=s.heap.push {cls:=.type "tuple",data:=.seq (vs++ws).toArray}})(hsz:vs.length+ws.length<=sizeLine):wpAny (model prog w) A (binaryOp .Add (.ref t) (.ref b)) Q E s:=by
 obtain⟨⟨cls,dd,data,sl⟩,ho,hc,n,hd⟩:=id ht
 obtain⟨⟨cls2,dd2,data2,sl2⟩,ho2,hc2,n2,hd2⟩:=id hb
 simp only at hc hd hc2 hd2
 subst hc hd hc2 hd2
 have e:vs.toArray++ws.toArray=(vs++ws).toArray:=by simp
 by_cases hw:ws=[]
 .exact vz ⟨_,ho,rfl⟩ ⟨_,ho2,rfl⟩ uS vY sD rg (rR _ _)
   (tuple_addW1 t b vs.toArray ws.toArray n n2 dd dd2 sl sl2 (by simpa using hv) (by simp[hw])) ⟨ho,ho2,h1 hw⟩
 .refine vz ⟨_,ho,rfl⟩ ⟨_,ho2,rfl⟩ uS vY sD rg (rR _ _)
   (tuple_addW2 t b vs.toArray ws.toArray n n2 dd dd2 sl sl2 (by simpa using hv) (by simpa using hw) (by rw[nX,nX];exact hsz)) ⟨ho,ho2,?_⟩
  rw[e]
  exact h2 hw
noncomputable def sIx(n d:Nat):nG Int->Nat
 |none=>d
 |some v=>if v<0 then(v+(n:Int)).toNat else min v.toNat n
theorem RL(n d k:Nat):sIx n d (Fk (k:Int))=min k n:=by
 show(if(k:Int)<0 then((k:Int)+(n:Int)).toNat else min (k:Int).toNat n)=min k n
 rw[oU (by lia),sE]
theorem dE(n d:Nat)(hd:d<=n)(o:nG Int):sIx n d o<=n:=by
 cases o with
 |none=>exact hd
 |some v=>
  show(if v<0 then(v+(n:Int)).toNat else min v.toNat n)<=n
  by_cases hv:v<0
  .rw[oP hv];lia
  .rw[oU hv];exact wX _ _
theorem US(v:Int)(n d:Nat):(if v<0 then max (v+(n:Int)) 0 else min v (n:Int))=((sIx n d (Fk v):Nat):Int):=by
 show(if v<0 then max (v+(n:Int)) 0 else min v (n:Int))=(((if v<0 then(v+(n:Int)).toNat else min v.toNat n):Nat):Int)
 by_cases hv:v<0
 .simp only[oP hv];lia
 .simp only[oU hv];lia
theorem Tc(lo hi:nG Int)(n:Nat):rK lo hi 1 (n:Int)=(((sIx n 0 lo:Nat):Int),((sIx n n hi:Nat):Int)):=by
 have h1:¬((1:Int)<0):=by lia
 unfold rK
 simp only[h1,uT]
 refine Prod.ext ?_ ?_
 .cases lo with
  |none=>rfl
  |some v=>exact US v n 0
 .cases hi with
  |none=>rfl
  |some v=>exact US v n n
theorem SY(i j:Nat):qb (i:Int) (j:Int) 1=j-i:=by
 unfold qb
 have h1:(1:Int)>0:=by lia
 simp only[h1,sd,Int.ediv_one]
 split<;>lia
theorem Nr{v:Wp}{o:nG Int}{Q:nG Int->nE->Prop}(p:uf v o)(h:Q o s):wpAny (model prog w) A (xD v) Q E s:=by
 cases p with
 |none=>exact xR h
 |int i t=>exact slicePart_int h
theorem IM{sl:nI}{vl vu:Wp}{lo hi:nG Int}{n:Nat}{Q:Int×Int×Nat->nE->Prop}(hs:s.heap.IsSliceOf sl vl vu .none)(pl:uf vl lo)(pu:uf vu hi)(h:Q (((sIx n 0 lo:Nat):Int),1,sIx n n hi-sIx n 0 lo) s):wpAny (model prog w) A (tU (.ref sl) (pure (n:Int))) Q E s:=by
 obtain⟨os,hos,hcs,hds⟩:=id hs
 unfold tU xq
 refine nC (nC (qN hos hds (x:=vl) rfl (nC (qN hos hds (x:=vu) rfl (nC (qN hos hds (x:=.none) rfl (ng ?_)))))))
 refine nC (xR ?_)
 show wpAny _ _ (if((1:Int)==0)=true then _ else _) _ _ s
 rw[oU (by decide)]
 refine nC (Nr pl (nC (Nr pu (nC (ng ?_)))))
 show wpAny _ _ (match rK lo hi 1 (n:Int)with|(lo,hi)=>pure (lo,(1:Int),qb lo hi 1)) _ _ s
 rw[Tc lo hi n]
 show wpAny _ _ (pure (((sIx n 0 lo:Nat):Int),(1:Int),qb ((sIx n 0 lo:Nat):Int) ((sIx n n hi:Nat):Int) 1)) _ _ s
 rw[SY]
 exact ng h
theorem Wc(xs:pE Wp)(i k:Nat):((oF k).filterMap λ(m:Nat)=>xs[((i:Int)+(m:Int)*1).toNat]?).toArray=((xs.toList.drop i).take k).toArray:=by
 have e:(λ(m:Nat)=>xs[((i:Int)+(m:Int)*1).toNat]?)=λm=>xs[i+m]?:=by
  funext m
  have:((i:Int)+(m:Int)*1).toNat=i+m:=by lia
  rw[this]
 rw[e]
 have:=pick_run xs i k
 rw[List.filterMap_map]at this
 have e2:((λx=>xs[x]?)∘λx=>i+x)=λm=>xs[i+m]?:=rfl
 rw[e2]at this
 rw[this]
theorem Kx{t sl:nI}{items:pE Wp}{vl vu:Wp}{lo hi:nG Int}{Q:Wp->nE->Prop}(ht:zS s.heap t items)(hs:s.heap.IsSliceOf sl vl vu .none)(pl:uf vl lo)(pu:uf vu hi)(hw:¬(sIx items.size 0 lo=0/\sIx items.size items.size hi=items.size))(h:Q (.ref s.heap.objs.size) {s with heap:=s.heap.push {cls:=.type "tuple",data:=.seq ((items.toList.drop (sIx items.size 0 lo)).take (sIx items.size items.size hi-sIx items.size 0 lo)).toArray}})(hsz:items.size<=sizeLine):wpAny (model prog w) A (getItem (.ref t) (.ref sl)) Q E s:=by
 have htake:sizeOk (.seq ((items.toList.drop (sIx items.size 0 lo)).take (sIx items.size items.size hi-sIx items.size 0 lo)).toArray):=by
  show((items.toList.drop (sIx items.size 0 lo)).take (sIx items.size items.size hi-sIx items.size 0 lo)).toArray.size<=sizeLine
  rw[nX,uQ,wY,tE]
  lia
 have hj:sIx items.size items.size hi<=items.size:=dE _ _ (nS _) hi
 obtain⟨os,hos,hcs,hds⟩:=id hs
 have hTs:s.TypeIs (.ref sl) "slice":=⟨os,hos,hcs⟩
 unfold getItem
 try with_reducible refine qJ ?_
 first|refine nC (ng ?_)|skip
 refine nC (v3 ht.typeIs (by decide) ?_)
 refine nC (pv (name:=pk "__getitem__") ht.typeIs og
  (qF og ht.typeIs vS ?_ (vf _ _)))
 show wpAny _ _ (tV (.ref t) >>= _) _ _ s
 refine nC (yD ht ?_)
 refine nC (v5 hTs ?_)
 rw[oP (by decide)]
 refine nC (IM hs pl pu ?_)
 have hno:¬((((sIx items.size 0 lo:Nat):Int)==0 && (1:Int)==1 && (sIx items.size items.size hi-sIx items.size 0 lo)==items.size)=true):=by
  intro q
  rw[nU,nU]at q
  have q1:((sIx items.size 0 lo:Nat):Int)=0:=eq_of_beq q.1.1
  have q2:sIx items.size items.size hi-sIx items.size 0 lo=items.size:=eq_of_beq q.2
  exact hw ⟨by lia,by lia⟩
 show wpAny _ _ (if(((sIx items.size 0 lo:Nat):Int)==0 && (1:Int)==1 && (sIx items.size items.size hi-sIx items.size 0 lo)==items.size)=true then _ else _) _ _ s
 rw[oU hno,Wc]
 first
  |exact nC (m:=qk _) (qg (ng ⟨_,rfl,ng h⟩) htake)
  |exact nC (m:=qk _) (qg (nC (ng (ng ⟨_,rfl,ng h⟩))) htake)
  |exact nC (nC (m:=qk _) (qg (ng (ng ⟨_,rfl,ng h⟩)) htake))
  |exact nC (nC (m:=qk _) (qg (ng ⟨_,rfl,ng h⟩) htake))
end
end HT
namespace L2
open PySem PySem.Spec PyProof.Rows
abbrev TO:=St->Hp->(nG Int->Hp->Prop)->Prop
def PO(X:Cx)(e:nG oA)(t:TO):Prop:=
 ∀(pins:Gc (nI×Obj)) (s:nE) (σ:St) (H:Hp) (Q:nG Int->Hp->Prop),Inv X pins σ H s->t σ H Q->
  wpAny (model X.prog X.w) X.A (evalPart e X.env) (λu s'=>∃o H',Inv X pins σ H' s'/\uf u o/\Q o H') X.xe s
noncomputable def Zk:TO:=λ_ H Q=>Q nD H
noncomputable def iU(t:TE):TO:=λσ H Q=>t σ H λx H1=>∃i,x=.int i/\Q (Fk i) H1
theorem intsAre_of{ns:Gc Int}:∀{us:Gc Wp},Vals (ns.map V.int) us->rS us ns:=by
 induction ns with
 |nil=>intro us r;rw[qB]at r;cases r;exact .nil
 |cons n ns ih=>
  intro us r
  rw[oG]at r
  cases r with
  |cons r1 r2=>
   obtain⟨t,e⟩:=r1
   subst e
   exact .cons n t (ih r2)
section
variable{X:Cx}{e:oA}{te:TE}{lo hi:nG oA}{tl th:TO}{pos p2:Pos}
theorem Vc:PO X nD Zk:=by
 intro pins s σ H Q I h
 rw[yE]
 exact ng ⟨nD,H,I,.none,h⟩
theorem Ow(h:PE X e te):PO X (Fk e) (iU te):=by
 intro pins s σ H Q I hw
 rw[evalPart_some]
 refine thn (h pins s σ H _ I hw) λu s1 ⟨x,H1,I1,r1,q1⟩=>?_
 obtain⟨i,rfl,q⟩:=q1
 obtain⟨t,rfl⟩:=r1
 exact⟨Fk i,H1,I1,.int i t,q⟩
def SlR(X:Cx)(r:V->nG Int->nG Int->Hp->VK->Prop):Prop:=
 ∀(pins:Gc (nI×Obj)) (s:nE) (σ:St) (H:Hp) (x:V) (v vl vu:Wp) (lo hi:nG Int) (sl:nI) (Q:VK),Inv X pins σ H s->RelV x v->s.heap.IsSliceOf sl vl vu .none->uf vl lo->uf vu hi->r x lo hi H Q->
  ∃T id,typeLookup (.type T) "__getitem__"=pure (Fk (.builtin id))/\s.TypeIs v T/\wpAny (model X.prog X.w) X.A (getItem v (.ref sl)) (EP X pins σ Q) X.xe s
noncomputable def tSl(r:V->nG Int->nG Int->Hp->VK->Prop)(te:TE)(tl th:TO):TE:=λσ H Q=>te σ H λx H1=>tl σ H1 λl H2=>th σ H2 λu H3=>r x l u H3 Q
theorem O3{r:V->nG Int->nG Int->Hp->VK->Prop}(hr:SlR X r)(he:PE X e te)(hl:PO X lo tl)(hu:PO X hi th):PE X (.Subscript e (.Slice lo hi nD p2) pos) (tSl r te tl th):=by
 intro pins s σ H Q I h
 refine Subscript_ (thn (he pins s σ H _ I h) λv s1 ⟨x,H1,I1,r1,q1⟩=>?_)
 refine wpAny_Slice (thn (hl pins s1 σ H1 _ I1 q1) λvl s2 ⟨l,H2,I2,pl,q2⟩=>thn (hu pins s2 σ H2 _ I2 q2) λvu s3 ⟨u,H3,I3,pu,q3⟩=>?_)
 rw[yE]
 refine ng ?_
 have I4:Inv X pins σ H3 {s3 with heap:=s3.heap.push {cls:=.type "slice",data:=.fields #[vl,vu,.none]}}:=I3.kept (t':=s3.toks) λb ob q=>W1 _ q
 obtain⟨T,id,hT,ht,hg⟩:=hr pins {s3 with heap:=s3.heap.push {cls:=.type "slice",data:=.fields #[vl,vu,.none]}} σ H3 x v vl vu l u s3.heap.objs.size Q I4 r1 (Heap.IsSliceOf.new ..) pl pu q3
 show wpAny (model X.prog X.w) X.A (subscriptTail e (.Slice lo hi nD p2) v (.ref s3.heap.objs.size)) (EP X pins σ Q) X.xe {s3 with heap:=s3.heap.push {cls:=.type "slice",data:=.fields #[vl,vu,.none]}}
 exact tail_any (ops:=[.ref s3.heap.objs.size,v]) ht hT hg (by with_unfolding_all rfl)
noncomputable def ZE(xs:Gc V)(lo hi:nG Int):Gc V:=(xs.drop (HT.sIx xs.length 0 lo)).take (HT.sIx xs.length xs.length hi-HT.sIx xs.length 0 lo)
theorem Mv(xs:Gc V)(lo hi:nG Int):(ZE xs lo hi).length<=xs.length:=by
 unfold ZE
 rw[uQ,wY]
 lia
def l9(K:KE):V->nG Int->nG Int->Hp->VK->Prop:=λx lo hi H Q=>∃a xs,x=.ref a/\SqT K H a xs/\
 ¬(HT.sIx xs.length 0 lo=0/\HT.sIx xs.length xs.length hi=xs.length)/\∀p,H p=nD->Q (.ref p) (upd H p (.tup (ZE xs lo hi)))
theorem dz:SlR X (l9 X.K):=by
 intro pins s σ H x v vl vu lo hi sl Q I rx hs pl pu h
 obtain⟨a,xs,rfl,hx,hw,q⟩:=h
 cases rx
 obtain⟨its,r,ht,hz⟩:=I.tuple hx
 have hlen:its.toArray.size=xs.length:=by rw[nX];exact r.length.symm
 refine⟨"tuple",_,og.lookup,ht.typeIs,?_⟩
 refine HT.Kx ht hs pl pu (by rw[hlen];exact hw) ?_ (by rw[hlen];exact hz)
 rw[hlen]
 refine⟨.ref s.heap.objs.size,_,I.laid (t':=s.toks) (o:=.tup (ZE xs lo hi)) (λb ob q=>W1 _ q) (nS _) ?_,rfl,q _ (I.hok.fresh (nS _))⟩
 exact⟨nR (Mv xs lo hi) hz,_,(r.drop (HT.sIx xs.length 0 lo)).take (HT.sIx xs.length xs.length hi-HT.sIx xs.length 0 lo),rO _ _⟩
noncomputable def jq(K:KE):R2:=λx y H Q=>∃a b xs ys,x=.ref a/\y=.ref b/\SqT K H a xs/\SqT K H b ys/\xs≠[]/\xs.length+ys.length<=sizeLine/\
 (ys=[]->Q (.ref a) H)/\(ys≠[]->∀p,H p=nD->Q (.ref p) (upd H p (.tup (xs++ys))))
theorem Vals.Oj{xs:Gc V}{us:Gc Wp}(r:Vals xs us):us=[]↔xs=[]:=by
 cases r with
 |nil=>simp
 |cons _ _=>simp
theorem aZ:OpR X (binaryOp .Add) (jq X.K):=by
 intro pins s σ H x y v u Q I rx ry h
 obtain⟨a,b,xs,ys,rfl,rfl,ha,hb,hx,hz,q1,q2⟩:=h
 cases rx
 cases ry
 obtain⟨its,r1,p1,_⟩:=I.tuple ha
 obtain⟨its2,r2,p2,_⟩:=I.tuple hb
 refine HT.Zp p1 p2 (λz=>hx (r1.Oj.mp z)) (λz=>⟨.ref a,H,I,rfl,q1 (r2.Oj.mp z)⟩) (λz=>?_) (by rw[<-r1.length,<-r2.length];exact hz)
 refine⟨.ref s.heap.objs.size,_,I.laid (t':=s.toks) (o:=.tup (xs++ys)) (λb ob q=>W1 _ q) (nS _) ?_,rfl,q2 (λw=>z (r2.Oj.mpr w)) _ (I.hok.fresh (nS _))⟩
 exact⟨by rw[pI];exact hz,_,r1.append r2,rO _ _⟩
end
end L2
namespace L2
open PySem PySem.Spec PyProof.Rows
noncomputable def ixN(n:Nat)(i:Int):nG Nat:=if 0<=i then(if i<n then Fk i.toNat else nD)else if-(n:Int)<=i then Fk (i+n).toNat else nD
noncomputable def atI{α:Type}(xs:Gc α)(i:Int):nG α:=(ixN xs.length i).bind λj=>xs[j]?
theorem UT{n:Nat}{i:Int}{j:Nat}(h:ixN n i=Fk j):seqIndex? i n=Fk j/\j<n/\ -(n:Int)<=i/\i<n:=by
 unfold ixN at h
 by_cases h0:0<=i
 .rw[oP h0]at h
  by_cases h1:i<n
  .rw[oP h1]at h
   have e:i.toNat=j:=oy h
   exact⟨by rw[wy h0 h1,e],by lia,by lia,h1⟩
  .rw[oU h1]at h;cases h
 .rw[oU h0]at h
  by_cases h1: -(n:Int)<=i
  .rw[oP h1]at h
   have e:(i+n).toNat=j:=oy h
   exact⟨by rw[seqIndex_neg (by lia) h1,e],by lia,h1,by lia⟩
  .rw[oU h1]at h;cases h
theorem Tt{α:Type}{xs:Gc α}{i:Int}{v:α}(h:atI xs i=Fk v):∃j,seqIndex? i xs.length=Fk j/\xs[j]?=Fk v/\j<xs.length/\ -(xs.length:Int)<=i/\i<xs.length:=by
 unfold atI at h
 cases e:ixN xs.length i with
 |none=>rw[e]at h;cases h
 |some j=>
  rw[e]at h
  obtain⟨h1,h2,h3,h4⟩:=UT e
  exact⟨j,h1,h,h2,h3,h4⟩
theorem aw{α:Type}{xs:Gc α}{j:Nat}{v:α}(h:xs[j]?=Fk v):atI xs (j:Int)=Fk v:=by
 have hj:j<xs.length:=(nP.mp h).1
 have e:ixN xs.length (j:Int)=Fk j:=by
  unfold ixN
  rw[oP (by lia),oP (by lia)];simp
 unfold atI;rw[e];exact h
theorem PJ{α:Type}(xs:Gc α)(v:α):atI (xs++[v]) (-1)=Fk v:=by
 have hl:(xs++[v]).length=xs.length+1:=by simp
 have e:ixN (xs++[v]).length (-1)=Fk xs.length:=by
  unfold ixN
  rw[hl,oU (by decide),oP (by lia)]
  congr 1
  lia
 unfold atI
 rw[e]
 show(xs++[v])[xs.length]?=Fk v
 simp
def UE(b:oA):Prop:=∀o i,subscripted b false o i=operate [o,i] (getItem o i)
def IxR(X:Cx)(r:R2):Prop:=
 ∀(value slice:oA) (pins:Gc (nI×Obj)) (s:nE) (σ:St) (H:Hp) (x y:V) (v u:Wp) (Q:VK),Inv X pins σ H s->RelV x v->RelV y u->r x y H Q->
  subscripted slice false v u=operate [v,u] (getItem v u)->wpAny (model X.prog X.w) X.A (subscriptTail value slice v u) (EP X pins σ Q) X.xe s
def MtR(X:Cx)(id:qo)(r:V->Gc V->Hp->VK->Prop):Prop:=
 ∀(pins:Gc (nI×Obj)) (s:nE) (σ:St) (H:Hp) (x:V) (xs:Gc V) (v:Wp) (us:Gc Wp) (Q:VK),Inv X pins σ H s->RelV x v->Vals xs us->r x xs H Q->
  wpAny (model X.prog X.w) X.A (call (.builtin id) (v::us)) (EP X pins σ Q) X.xe s
section
variable{X:Cx}{a b:oA}{ta tb:TE}{pos:Pos}
theorem jH{r:R2}(hr:IxR X r)(ha:PE X a ta)(hb:PE X b tb)(hs:UE b):PE X (.Subscript a b pos) (tOp r ta tb):=by
 intro pins s σ H Q I h
 exact Subscript_ (iz ha hb I h λv u s2 x y H2 I2 rx ry q=>hr a b pins s2 σ H2 x y v u Q I2 rx ry q (hs _ _))
noncomputable def l8(K:KE):R2:=λx y H Q=>∃p xs i v,x=.ref p/\y=.int i/\SqL K H p xs/\atI xs i=Fk v/\Q v H
noncomputable def lZ(K:KE):R2:=λx y H Q=>∃p xs i v,x=.ref p/\y=.int i/\SqT K H p xs/\atI xs i=Fk v/\Q v H
theorem Zz:IxR X (l8 X.K):=by
 intro value slice pins s σ H x y v u Q I rx ry h hs
 obtain⟨p,xs,i,z,rfl,rfl,hq,he,q⟩:=h
 cases rx
 obtain⟨t,rfl⟩:=ry
 obtain⟨its,r,pl,hz⟩:=I.list hq
 obtain⟨j,h1,h2,h3,h4,h5⟩:=Tt he
 obtain⟨w,ew,rw'⟩:=r.get h2
 have hl:=r.length
 have hn:=QT
 have fin:EP X pins σ Q w s:=⟨z,H,I,rw',q⟩
 by_cases h0:0<=i
 .have hj:i.toNat=j:=by
   rw[wy h0 h5]at h1
   exact oy h1
  exact item_listR pl.isList h0 (by lia) (by rw[hj];simpa using ew) fin hs
 .have hj:(i+(its.toArray.size:Int)).toNat=j:=by
   rw[seqIndex_neg (by lia) h4]at h1
   rw[nX,<-hl]
   exact oy h1
  exact ug (x:=w) pl.isList.typeIs v7.lookup
   (wpAny_getItem_list_neg (Q:=λr s'=>r=w/\EP X pins σ Q r s') pl.isList (by lia) (by rw[nX]<;>lia) (by lia) (by rw[hj];simpa using ew) ⟨rfl,fin⟩) hs
theorem cy:IxR X (lZ X.K):=by
 intro value slice pins s σ H x y v u Q I rx ry h hs
 obtain⟨p,xs,i,z,rfl,rfl,hq,he,q⟩:=h
 cases rx
 obtain⟨t,rfl⟩:=ry
 obtain⟨its,r,pl,hz⟩:=I.tuple hq
 obtain⟨j,h1,h2,h3,h4,h5⟩:=Tt he
 obtain⟨w,ew,rw'⟩:=r.get h2
 have hl:=r.length
 have hn:=QT
 have fin:EP X pins σ Q w s:=⟨z,H,I,rw',q⟩
 exact ug (x:=w) pl.typeIs og.lookup
  (getItem_tuple (j:=j) (Q:=λr s'=>r=w/\EP X pins σ Q r s') pl (by lia) (by lia) (by rw[nX,<-hl];exact h1) (by simpa using ew) ⟨rfl,fin⟩) hs
theorem Sy(its:Gc Wp)(n j:Nat)(u:Wp):tW (·.setIfInBounds j u) {cls:=.type "list",data:=.seq its.toArray n}={cls:=.type "list",data:=.seq (its.set j u).toArray n}:=by
 simp[tW]
theorem Inv.lst{pins:Gc (nI×Obj)}{σ:St}{H:Hp}{s:nE}{p:nI}{xs:Gc V}(I:Inv X pins σ H s)(h:H p=Fk (.lst xs)):∃(its:Gc Wp) (n:Nat),Vals xs its/\s.heap.get? p=Fk {cls:=.type "list",data:=.seq its.toArray n}/\xs.length<=sizeLine:=by
 obtain⟨z,its,n,r,e⟩:=I.hok p _ h
 exact⟨its,n,r,e,z⟩
theorem Inv.bu{pins:Gc (nI×Obj)}{σ:St}{H:Hp}{s:nE}{p:nI}{xs ys:Gc V}{its its':Gc Wp}{n n':Nat}{f:Obj->Obj}(I:Inv X pins σ H s)(h:H p=Fk (.lst xs))(ho:s.heap.get? p=Fk {cls:=.type "list",data:=.seq its.toArray n})(hf:f {cls:=.type "list",data:=.seq its.toArray n}={cls:=.type "list",data:=.seq its'.toArray n'})(r:Vals ys its')(hz:ys.length<=sizeLine)(t:Nat):Inv X pins σ (upd H p (.lst ys)) {s with heap:=s.heap.update p f,toks:=t}:=by
 have e:(s.heap.update p f).get? p=Fk {cls:=.type "list",data:=.seq its'.toArray n'}:=by
  rw[uz f ho (by rw[hf]<;>rfl),hf]
 refine I.write (x:=p) (e:=p) (by rw[h];trivial) (.inl rfl) (λb u hb q=>(qw _ _ (pb hb)).trans q) ⟨_,e⟩ ?_
 exact⟨hz,its',n',r,e⟩
def jm:V->V->V->Hp->(Hp->Prop)->Prop:=λo i v H Q=>∃p xs k j,o=.ref p/\i=.int k/\H p=Fk (.lst xs)/\ixN xs.length k=Fk j/\Q (upd H p (.lst (xs.set j v)))
theorem set_list:kY X jm:=by
 intro pins s σ H o i v ov iv u Q I ro ri rv h
 obtain⟨p,xs,k,j,rfl,rfl,hp,hj,q⟩:=h
 cases ro
 obtain⟨t,rfl⟩:=ri
 obtain⟨its,n,r,ho,hz⟩:=I.lst hp
 obtain⟨h1,h2,h3,h4⟩:=UT hj
 have hl:=r.length
 have hn:=QT
 have I':Inv X pins σ (upd H p (.lst (xs.set j v))) {s with heap:=s.heap.update p (tW (·.setIfInBounds j u))}:=
  I.bu hp ho (Sy its n j u) (r.set rv j) (by rw[qR];exact hz) s.toks
 by_cases h0:0<=k
 .have hk:k.toNat=j:=by
   rw[wy h0 h4]at h1
   exact oy h1
  exact PySem.W.ki_setAt ho h0 (by lia) (by rw[nX,<-hl];exact h4) (by rw[hk];exact⟨_,I',q⟩)
 .have hk:(k+(its.toArray.size:Int)).toNat=j:=by
   rw[seqIndex_neg (by lia) h3]at h1
   rw[nX,<-hl]
   exact oy h1
  exact PySem.W.ki_setBack ho (by lia) (by rw[nX,<-hl];exact h3) (by lia) (by rw[hk];exact⟨_,I',q⟩)
theorem QG(lo hi:nG Int)(n:Nat):(sliceBounds lo hi nD n).1=((HT.sIx n 0 lo:Nat):Int)/\(sliceBounds lo hi nD n).2.1=((HT.sIx n n hi:Nat):Int)/\(sliceBounds lo hi nD n).2.2=1:=by
 refine⟨?_,?_,rfl⟩
 .cases lo with
  |none=>simp[sliceBounds,HT.sIx]
  |some i=>
   simp only[sliceBounds,HT.sIx,wZ,show(1:Int)>0 by decide,sd]
   by_cases h:i<0
   .simp only[h,sd]<;>lia
   .simp only[h,uT]<;>lia
 .cases hi with
  |none=>simp[sliceBounds,HT.sIx]
  |some i=>
   simp only[sliceBounds,HT.sIx,wZ,show(1:Int)>0 by decide,sd]
   by_cases h:i<0
   .simp only[h,sd]<;>lia
   .simp only[h,uT]<;>lia
theorem Of(its:Gc Wp)(lo hi:nG Int):slicePick its.toArray lo hi nD=((its.drop (HT.sIx its.length 0 lo)).take (HT.sIx its.length its.length hi-HT.sIx its.length 0 lo)).toArray:=by
 obtain⟨h1,h2,h3⟩:=QG lo hi its.toArray.size
 unfold slicePick
 rw[h1,h2,h3]
 simp only[sliceRange_one,pick_run,nX]<;>rfl
def l7(K:KE):V->nG Int->nG Int->Hp->VK->Prop:=λx lo hi H Q=>∃a xs,x=.ref a/\SqL K H a xs/\∀p,H p=nD->Q (.ref p) (upd H p (.lst (ZE xs lo hi)))
theorem aV:SlR X (l7 X.K):=by
 intro pins s σ H x v vl vu lo hi sl Q I rx hs pl pu h
 obtain⟨a,xs,rfl,hx,q⟩:=h
 cases rx
 obtain⟨its,r,ht,hz⟩:=I.list hx
 have hlen:=r.length
 refine⟨"list",_,v7.lookup,ht.isList.typeIs,?_⟩
 refine wpAny_getItem_list_slice ht.isList hs pl pu .none (by simp) ?_ (by rw[nX]<;>lia)
 rw[Of,<-hlen]
 refine⟨.ref s.heap.objs.size,_,I.laid (t':=s.toks) (o:=.lst (ZE xs lo hi)) (λb ob q=>W1 _ q) (nS _) ?_,rfl,q _ (I.hok.fresh (nS _))⟩
 exact⟨nR (Mv xs lo hi) hz,_,0,(r.drop (HT.sIx xs.length 0 lo)).take (HT.sIx xs.length xs.length hi-HT.sIx xs.length 0 lo),nq _ rfl⟩
noncomputable def NY:V->oQ
 | .non=>true
 | .bl _=>true
 | .int _=>true
 | .str _=>true
 |_=>false
noncomputable def eqV:V->V->oQ
 | .non,.non=>true
 | .bl a,.bl b=>a==b
 | .bl a,.int b=>(if a then 1 else 0)==b
 | .int a,.bl b=>a==(if b then 1 else 0)
 | .int a,.int b=>a==b
 | .str a,.str b=>a==b
 |_,_=>false
theorem cL{A:oN}{s:nE}{y x:V}{u v:Wp}(ry:RelV y u)(rx:RelV x v)(fy:NY y=true)(fx:NY x=true):SeqAt.EqAt A s u v (eqV y x):=by
 cases y with
 |non=>
  cases ry
  cases x with
  |non=>cases rx;exact SeqAt.EqAt.same _
  |bl b=>cases rx;exact ze b
  |int b=>obtain⟨t,rfl⟩:=rx;exact SeqAt.EqAt.none_int b t
  |str b=>obtain⟨t,rfl⟩:=rx;exact SeqAt.EqAt.none_str b t
  |_=>exact absurd (show false=true from fx) oX
 |bl a=>
  cases ry
  cases x with
  |non=>cases rx;exact zf a
  |bl b=>cases rx;exact zg a b
  |int b=>obtain⟨t,rfl⟩:=rx;exact SeqAt.EqAt.bool_int a b t
  |str b=>obtain⟨t,rfl⟩:=rx;exact SeqAt.EqAt.bool_str a b t
  |_=>exact absurd (show false=true from fx) oX
 |int a=>
  obtain⟨t',rfl⟩:=ry
  cases x with
  |non=>cases rx;exact SeqAt.EqAt.int_none a t'
  |bl b=>cases rx;exact SeqAt.EqAt.int_bool a t' b
  |int b=>obtain⟨t,rfl⟩:=rx;exact SeqAt.EqAt.int_int a t' b t
  |str b=>obtain⟨t,rfl⟩:=rx;exact vZ a t' b t
  |_=>exact absurd (show false=true from fx) oX
 |str a=>
  obtain⟨t',rfl⟩:=ry
  cases x with
  |non=>cases rx;exact SeqAt.EqAt.str_none a t'
  |bl b=>cases rx;exact SeqAt.EqAt.str_bool a t' b
  |int b=>obtain⟨t,rfl⟩:=rx;exact va a t' b t
  |str b=>obtain⟨t,rfl⟩:=rx;exact SeqAt.EqAt.str_str a t' b t
  |_=>exact absurd (show false=true from fx) oX
 |_=>exact absurd (show false=true from fy) oX
noncomputable def eqU(x:V)(u:Wp):oQ:=match u with
 | .none=>eqV .non x
 | .bool b=>eqV (.bl b) x
 | .int i _=>eqV (.int i) x
 | .str z _=>eqV (.str z) x
 |_=>false
theorem ZM{x y:V}{u:Wp}(r:RelV y u)(f:NY y=true):eqU x u=eqV y x:=by
 cases y with
 |non=>cases r;rfl
 |bl b=>cases r;rfl
 |int i=>obtain⟨t,rfl⟩:=r;rfl
 |str z=>obtain⟨t,rfl⟩:=r;rfl
 |_=>exact absurd (show false=true from f) oX
theorem MR{x:V}:∀{xs:Gc V} {us:Gc Wp},Vals xs us->xs.all NY=true->us.any (eqU x)=xs.any λy=>eqV y x
 |_,_,.nil,_=>rfl
 |y::xs,u::us,.cons r t,f=>by
  rw[se,nU]at f
  rw[qU,qU,ZM r f.1,MR t f.2]
theorem J8{A:oN}{s:nE}{x:V}{v:Wp}(rx:RelV x v)(fx:NY x=true):∀{xs:Gc V} {us:Gc Wp},Vals xs us->xs.all NY=true->∀u∈us,SeqAt.EqAt A s u v (eqU x u)
 |_,_,.nil,_=>λu hu=>by cases hu
 |y::xs,u::us,.cons r t,f=>λu' hu=>by
  rw[se,nU]at f
  rcases nO.mp hu with rfl|hu
  .rw[ZM r f.1];exact cL r rx f.1 fx
  .exact J8 rx fx t f.2 u' hu
noncomputable def inV(x:V)(xs:Gc V):oQ:=xs.any λy=>eqV y x
noncomputable def rIn(K:KE)(neg:oQ):R2:=λx y H Q=>∃p xs,y=.ref p/\(SqL K H p xs\/SqT K H p xs)/\NY x=true/\xs.all NY=true/\Q (.bl (if neg then !inV x xs else inV x xs)) H
theorem Vg:OpR X (compareOp .In) (rIn X.K false):=by
 intro pins s σ H x y v u Q I rx ry h
 obtain⟨p,xs,rfl,hq,fx,fs,q⟩:=h
 cases ry
 rcases hq with hq|hq
 .obtain⟨its,r,pl,hz⟩:=I.list hq
  refine SeqAt.in_listAt (eqU x) pl.isList (λw hw=>J8 rx fx r fs w (by simpa using hw)) ⟨.bl _,H,I,rfl,?_⟩
  rw[show its.toArray.any (eqU x)=its.any (eqU x) by simp,MR r fs]
  exact q
 .obtain⟨its,r,pl,hz⟩:=I.tuple hq
  refine SeqAt.in_tupleAt (eqU x) pl (λw hw=>J8 rx fx r fs w (by simpa using hw)) ⟨.bl _,H,I,rfl,?_⟩
  rw[show its.toArray.any (eqU x)=its.any (eqU x) by simp,MR r fs]
  exact q
theorem QU:OpR X (compareOp .NotIn) (rIn X.K true):=by
 intro pins s σ H x y v u Q I rx ry h
 obtain⟨p,xs,rfl,hq,fx,fs,q⟩:=h
 cases ry
 rcases hq with hq|hq
 .obtain⟨its,r,pl,hz⟩:=I.list hq
  refine SeqAt.notIn_listAt (eqU x) pl.isList (λw hw=>J8 rx fx r fs w (by simpa using hw)) ⟨.bl _,H,I,rfl,?_⟩
  rw[show its.toArray.any (eqU x)=its.any (eqU x) by simp,MR r fs]
  exact q
 .obtain⟨its,r,pl,hz⟩:=I.tuple hq
  refine SeqAt.notIn_tupleAt (eqU x) pl (λw hw=>J8 rx fx r fs w (by simpa using hw)) ⟨.bl _,H,I,rfl,?_⟩
  rw[show its.toArray.any (eqU x)=its.any (eqU x) by simp,MR r fs]
  exact q
theorem QF:Ga X (.builtin "len") (λxs H Q=>∃p ys,xs=[.ref p]/\(SqL X.K H p ys\/SqT X.K H p ys)/\Q (.int ys.length) H):=by
 intro pins s σ H xs us Q I r h
 obtain⟨p,ys,rfl,hq,q⟩:=h
 obtain⟨u,rfl,rx⟩:=vals1 r
 cases rx
 have hn:=QT
 rcases hq with hq|hq
 .obtain⟨its,r',pl,hz⟩:=I.list hq
  have hlen:=r'.length
  exact Calls.call_len_list pl.isList (by simp only[nX]<;>lia) ⟨.int ys.length,H,I.tok _,⟨s.toks+1,by rw[nX,hlen]⟩,q⟩
 .obtain⟨its,r',pl,hz⟩:=I.tuple hq
  have hlen:=r'.length
  exact len_tuple pl (by simp only[nX]<;>lia) ⟨.int ys.length,H,I.tok _,⟨s.toks+1,by rw[nX,hlen]⟩,q⟩
theorem Pp:Ga X (.builtin "len") (λxs H Q=>∃z,xs=[.str z]/\z.length<=sizeLine/\Q (.int z.length) H):=by
 intro pins s σ H xs us Q I r h
 obtain⟨z,rfl,hz,q⟩:=h
 obtain⟨u,rfl,t,rfl⟩:=vals1 r
 have hn:=QT
 exact len_str (by lia) ⟨.int z.length,H,I.tok _,⟨_,rfl⟩,q⟩
theorem QV:Ga X (.type "list") (λxs H Q=>∃p ys,xs=[.ref p]/\(SqL X.K H p ys\/SqT X.K H p ys)/\∀l,H l=nD->Q (.ref l) (upd H l (.lst ys))):=by
 intro pins s σ H xs us Q I r h
 obtain⟨p,ys,rfl,hq,q⟩:=h
 obtain⟨u,rfl,rx⟩:=vals1 r
 cases rx
 have fin:∀(its:Gc Wp),Vals ys its->ys.length<=sizeLine->∀(h':oE) (c':Nat),(∀b o',s.heap.get? b=Fk o'->h'.get? b=Fk o')->
   h'.get? s.heap.objs.size=Fk {cls:=.type "list",dict:=nD,data:=.seq its.toArray c',slots:= #[]}->EP X pins σ Q (.ref s.heap.objs.size) {s with heap:=h'}:=λits r' hz h' c' kp e=>
  ⟨.ref s.heap.objs.size,_,I.laid (t':=s.toks) kp (nS _) (show Ds X.prog X.w _ h' _ (.lst ys)from⟨hz,its,c',r',e⟩),rfl,q _ (I.hok.fresh (nS _))⟩
 rcases hq with hq|hq
 .obtain⟨its,r',pl,hz⟩:=I.list hq
  have hlen:=r'.length
  obtain⟨o,ho,hc,n,hd⟩:=pl.isList
  exact yG p (.inl rfl) ho hc hd (λh' c' kp e=>fin its r' hz h' c' kp e) (by simp only[nX]<;>lia)
 .obtain⟨its,r',pl,hz⟩:=I.tuple hq
  have hlen:=r'.length
  obtain⟨o,ho,hc,n,hd⟩:=pl
  exact yG p (.inr rfl) ho hc hd (λh' c' kp e=>fin its r' hz h' c' kp e) (by simp only[nX]<;>lia)
theorem Om:Ga X (.type "tuple") (λxs H Q=>∃p ys,xs=[.ref p]/\((SqL X.K H p ys/\∀l,H l=nD->Q (.ref l) (upd H l (.tup ys)))\/(SqT X.K H p ys/\Q (.ref p) H))):=by
 intro pins s σ H xs us Q I r h
 obtain⟨p,ys,rfl,h⟩:=h
 obtain⟨u,rfl,rx⟩:=vals1 r
 cases rx
 rcases h with⟨hq,q⟩|⟨hq,q⟩
 .obtain⟨its,r',pl,hz⟩:=I.list hq
  have hlen:=r'.length
  refine call_tuple_list pl.isList (λh' kp=>?_) (by simp only[nX]<;>lia)
  have I1:Inv X pins σ H {s with heap:=h'}:=I.kept (t':=s.toks) kp
  have I2:Inv X pins σ (upd H h'.objs.size (.tup ys)) {s with heap:=h'.push {cls:=.type "tuple",data:=.seq its.toArray}}:=
   I1.laid (t':=s.toks) (λb o e=>W1 _ e) (nS _) (show Ds X.prog X.w _ _ _ (.tup ys)from⟨hz,its,r',rO _ _⟩)
  exact⟨.ref h'.objs.size,_,I2,rfl,q _ (I1.hok.fresh (nS _))⟩
 .obtain⟨its,r',pl,hz⟩:=I.tuple hq
  exact call_tuple_same pl ⟨.ref p,H,I,rfl,q⟩
def tyV(K:KE)(T:qo)(x:V)(H:Hp):Prop:=match x with
 | .str _=>T="str"
 | .int _=>T="int"
 | .ref p=>(T="list" /\∃xs,SqL K H p xs)\/(T="tuple" /\∃o,K.lookup p=Fk o/\o.cls=.type "tuple" /\o.dict=nD)∨
    (T="dict" /\((∃kvs,H p=Fk (.dK kvs))\/∃kvs,H p=Fk (.dT kvs)))\/(T="set" /\∃S n,H p=Fk (.set S n))
 |_=>qa
theorem br{pins:Gc (nI×Obj)}{σ:St}{H:Hp}{s:nE}{T:qo}{x:V}{v:Wp}(I:Inv X pins σ H s)(r:RelV x v)(ty:tyV X.K T x H):s.TypeIs v T/\∀a,v=.ref a->∃ob,s.heap.get? a=Fk ob/\ob.dict=none:=by
 cases x with
 |str z=>
  obtain⟨t,rfl⟩:=r
  cases (show T="str" from ty)
  exact⟨uh s z t,λ_ e=>nomatch e⟩
 |int i=>
  obtain⟨t,rfl⟩:=r
  cases (show T="int" from ty)
  exact⟨sU s i t,λ_ e=>nomatch e⟩
 |ref p=>
  cases r
  rcases ty with⟨rfl,xs,hq⟩|⟨rfl,o,hk,hc,hd⟩|⟨rfl,hk⟩|⟨rfl,S,n,hk⟩
  .obtain⟨its,_,pl,_⟩:=I.list hq
   refine⟨pl.isList.typeIs,λa e=>?_⟩
   cases e
   obtain⟨o,n,e,c,hd,_⟩:=pl
   exact⟨o,e,hd⟩
  .refine⟨⟨o,I.kIn p o hk,hc⟩,λa e=>?_⟩
   cases e
   exact⟨o,I.kIn _ o hk,hd⟩
  .have z:∃o,s.heap.get? p=Fk o/\o.ExactDict:=by
    rcases hk with⟨kvs,hk⟩|⟨kvs,hk⟩
    .obtain⟨_,_,_,_,o,_,_,e,ex,_⟩:=I.hok p _ hk
     exact⟨o,e,ex⟩
    .obtain⟨_,_,_,_,o,_,_,e,ex,_⟩:=I.hok p _ hk
     exact⟨o,e,ex⟩
   obtain⟨o,e,ex⟩:=z
   refine⟨⟨o,e,ex.1⟩,λa e2=>?_⟩
   cases e2
   exact⟨o,e,ex.2.1⟩
  .obtain⟨o,_,_,_,e,ex,_⟩:=I.hok p _ hk
   refine⟨⟨o,e,ex.1⟩,λa e2=>?_⟩
   cases e2
   exact⟨o,e,ex.2.1⟩
 |_=>exact pX ty
noncomputable def tBM(K:KE)(T:qo)(r:V->Gc V->Hp->VK->Prop)(to:TE)(t:TA):TE:=λσ H Q=>to σ H λx H1=>tyV K T x H1/\t σ H1 λxs H2=>r x xs H2 Q
variable{o e:oA}{es:Gc oA}{to:TE}{t:TA}{name:Str}{apos cpos:Pos}{T id:qo}{r:V->Gc V->Hp->VK->Prop}
theorem jc(pa:PlainAttrs T)(slot:Slot T name id)(hty:typeOf (.builtin id)=pure (.type "method_descriptor"))(hm:MtR X id r)(ho:PE X o to)(ha:PA X (e::es) t)(hbase:attributeBase o name X.env (eval o X.env)=eval o X.env:=by rfl)(hfew:((backTo cpos (nk (e::es) X.env)).all (λx=> !x.1) && (backToKw cpos (keywordEach [] X.env)).all (λx=>x.1.isSome) && decide ((e::es).length+([]:Gc uA).length+(if([]:Gc uA).isEmpty then 0 else 1)<30))=true:=by rfl)(hline:(apos.endLine==cpos.line)=true:=by rfl)(hs:nk (e::es) X.env=(false,eval e X.env)::nk es X.env:=by rfl)(hplain:(backTo cpos (nk es X.env)).any (·.1)=false:=by rfl):PE X (.Call (.Attribute o name apos) (e::es) [] cpos) (tBM X.K T r to t):=by
 intro pins s σ H Q I h
 refine wpAny_Call_method_late hbase hfew hline rfl (thn (ho pins s σ H _ I h) λv s1 ⟨x,H1,I1,r1,ty,q1⟩=>?_)
 obtain⟨h1,h2⟩:=br I1 r1 ty
 refine⟨T,id,pa,slot,hty,h1,h2,?_⟩
 have hA:=ha cpos pins s1 σ H1 _ I1 q1
 rw[hs]at hA⊢
 refine Calls.callWith_builtin (by show(false||(backTo cpos (nk es X.env)).any (·.1))=false;rw[hplain]<;>rfl) (vB ?_)
 exact thn hA λus s2 ⟨vs,H2,I2,r2,q2⟩=>hm pins s2 σ H2 x vs v us Q I2 r1 r2 q2
end
end L2
namespace L2
open PySem PySem.Spec PyProof.Rows
def MtM(X:Cx)(id:qo)(r:V->Gc V->Hp->VK->Prop):Prop:=
 ∀(pins:Gc (nI×Obj)) (s:nE) (σ:St) (H:Hp) (x:V) (xs:Gc V) (v:Wp) (us:Gc Wp) (Q:VK),Inv X pins σ H s->RelV x v->Vals xs us->r x xs H Q->
  wpAny (model X.prog X.w) X.A (call (.builtin id) (v::us)) (EP X pins σ Q) X.xe s
theorem Vals.one:∀{x:V} {us:Gc Wp},Vals [x] us->∃u,us=[u]/\RelV x u
 |_,_,.cons r .nil=>⟨_,rfl,r⟩
theorem Vals.two:∀{x y:V} {us:Gc Wp},Vals [x,y] us->∃u v,us=[u,v]/\RelV x u/\RelV y v
 |_,_,_,.cons r (.cons q .nil)=>⟨_,_,rfl,r,q⟩
theorem Vals.rep{xs:Gc V}{us:Gc Wp}(h:Vals xs us):∀k:Nat,Vals (nh k xs).flatten (nh k us).flatten
 |0=>.nil
 |k+1=>by
  rw[qD,qD,qh,qh]
  exact Vals.append h (Vals.rep h k)
theorem foldl_rep(its:Gc Wp):∀(k:Nat) (acc:Gc Wp),vg (λx1 x2=>x1++x2) acc.toArray (nh k its.toArray)=(acc++(nh k its).flatten).toArray
 |0,acc=>by simp
 |k+1,acc=>by
  have e:acc.toArray++its.toArray=(acc++its).toArray:=by simp
  have e2:(acc++its)++(nh k its).flatten=acc++(nh (k+1) its).flatten:=by
   rw[qD,qh,sF]
  rw[<-e2,<-foldl_rep its k (acc++its),<-e,qD,List.foldl_cons]
section
variable{X:Cx}{pins:Gc (nI×Obj)}{σ:St}{H:Hp}{s:nE}{l b:nI}{xs ys zs:Gc V}
theorem Inv.iV{its its':Gc Wp}{n:Nat}{f:pE Wp->pE Wp}{t':Nat}(I:Inv X pins σ H s)(hH:H l=Fk (.lst xs))(e:s.heap.get? l=Fk {cls:=.type "list",data:=.seq its.toArray n})(hf:f its.toArray=its'.toArray)(hv:Vals ys its')(hz:ys.length<=sizeLine):Inv X pins σ (upd H l (.lst ys)) {s with heap:=s.heap.update l (tW f),toks:=t'}:=by
 have q:=PySem.IsL.update e f
 rw[hf]at q
 refine I.write (x:=l) (e:=l) (by rw[hH];exact trivial) (.inl rfl) (λb' u hb hu=>(qw s.heap (tW f) (pb hb)).trans hu) ⟨_,q⟩ ?_
 exact⟨hz,its',_,hv,q⟩
theorem Inv.kK{its:Gc Wp}{t':Nat}(I:Inv X pins σ H s)(hv:Vals ys its)(hz:ys.length<=sizeLine):Inv X pins σ (upd H s.heap.objs.size (.lst ys)) {s with heap:=s.heap.push {cls:=.type "list",data:=.seq its.toArray},toks:=t'}:=
 I.laid (λ_ _ q=>W1 _ q) (nS _) ⟨hz,its,0,hv,nq _ rfl⟩
theorem Inv.fresh(I:Inv X pins σ H s):H s.heap.objs.size=none:=I.hok.fresh (nS _)
theorem Inv.Yh(I:Inv X pins σ H s)(hH:H l=Fk (.lst xs)):xs.length<=sizeLine/\∃(its:Gc Wp) (n:Nat),Vals xs its/\xs.length=its.length/\s.heap.get? l=Fk {cls:=.type "list",data:=.seq its.toArray n}:=by
 obtain⟨z,its,n,r,e⟩:=I.hok l _ hH
 exact⟨z,its,n,r,r.length,e⟩
theorem Ov{n:Nat}(h:n<=sizeLine):pY n=false:=by
 unfold pY
 exact q4 (by lia)
end
section
variable{X:Cx}
def ZS:V->Gc V->Hp->VK->Prop:=λx vs H Q=>∃l xs y,x=.ref l/\vs=[y]/\H l=Fk (.lst xs)/\xs.length<sizeLine/\Q .non (upd H l (.lst (xs++[y])))
theorem Qa:MtM X "list.append" ZS:=by
 intro pins s σ H x vs v us Q I rx rv h
 obtain⟨l,xs,y,rfl,rfl,hH,hz,q⟩:=h
 cases rx
 obtain⟨u,rfl,ru⟩:=rv.one
 obtain⟨z,its,n,r,hl,e⟩:=I.Yh hH
 refine sV ou ⟨_,e,rfl⟩ F.entry_list_append (F.args_list_append_2 _ _) (PySem.list_append l its.toArray n u (by rw[nX];lia)) ⟨e,?_⟩
 refine⟨.non,_,I.iV (its':=its++[u]) hH e (by simp) (r.append (.cons ru .nil)) ?_,rfl,q⟩
 rw[pI,u3]
 lia
def aR:V->Gc V->Hp->VK->Prop:=λx vs H Q=>∃l b xs zs,x=.ref l/\vs=[.ref b]/\H l=Fk (.lst xs)/\H b=Fk (.lst zs)/\xs.length+zs.length<=sizeLine/\Q .non (upd H l (.lst (xs++zs)))
theorem Tq:MtM X "list.extend" aR:=by
 intro pins s σ H x vs v us Q I rx rv h
 obtain⟨l,b,xs,zs,rfl,rfl,hH,hB,hz,q⟩:=h
 cases rx
 obtain⟨u,rfl,ru⟩:=rv.one
 cases ru
 obtain⟨z,its,n,r,hl,e⟩:=I.Yh hH
 obtain⟨z2,its2,n2,r2,hl2,e2⟩:=I.Yh hB
 have hsz:its.toArray.size+its2.toArray.size<=sizeLine:=by rw[nX,nX];lia
 have hlong:¬(!its.toArray.isEmpty && pY (its.toArray.size+its2.toArray.size))=true:=by
  rw[Ov hsz,xS]
  exact oX
 refine sV sg ⟨_,e,rfl⟩ vT (vC _ _)
  (v8 l its.toArray n b its2.toArray n2 hlong (by rw[nX];lia) (by lia)) ⟨e,e2,?_⟩
 refine⟨.non,_,I.iV (its':=its++its2) hH e (by simp) (r.append r2) ?_,rfl,q⟩
 rw[pI]
 lia
noncomputable def lF:R2:=λx y H Q=>∃l b xs zs,x=.ref l/\y=.ref b/\H l=Fk (.lst xs)/\H b=Fk (.lst zs)/\xs.length+zs.length<=sizeLine/\∀p,H p=nD->Q (.ref p) (upd H p (.lst (xs++zs)))
theorem dj:OpR X (binaryOp .Add) lF:=by
 intro pins s σ H x y v u Q I rx ry h
 obtain⟨l,b,xs,zs,rfl,rfl,hH,hB,hz,q⟩:=h
 cases rx
 cases ry
 obtain⟨z,its,n,r,hl,e⟩:=I.Yh hH
 obtain⟨z2,its2,n2,r2,hl2,e2⟩:=I.Yh hB
 refine PySem.P.add_list e e2 ?_ (by rw[nX,nX];lia)
 have ea:its.toArray++its2.toArray=(its++its2).toArray:=by simp
 rw[ea]
 exact⟨.ref _,_,I.kK (t':=s.toks) (r.append r2) (by rw[pI];lia),rfl,q _ I.fresh⟩
noncomputable def lU:R2:=λx y H Q=>∃l k xs,x=.ref l/\y=.int k/\H l=Fk (.lst xs)/\ -(2^63)<=k/\k<2^63/\xs.length*k.toNat<=sizeLine/\
 ∀p,H p=nD->Q (.ref p) (upd H p (.lst (nh k.toNat xs).flatten))
theorem len_rep{α:Type}(xs:Gc α)(k:Nat):(nh k xs).flatten.length=k*xs.length:=by
 induction k with
 |zero=>simp
 |succ k ih=>rw[qD,qh,pI,ih,yq,ui]
theorem eO:OpR X (binaryOp .Mult) lU:=by
 intro pins s σ H x y v u Q I rx ry h
 obtain⟨l,k,xs,rfl,rfl,hH,h1,h2,hz,q⟩:=h
 cases rx
 obtain⟨t,rfl⟩:=ry
 obtain⟨z,its,n,r,hl,e⟩:=I.Yh hH
 have hlen:its.toArray.size*k.toNat<=sizeLine:=by rw[nX,<-hl];exact hz
 have hcap:¬its.toArray.size*k.toNat>(2^63-1) / 8:=by
  have:(sizeLine:Nat)<=(2^63-1) / 8:=by decide
  lia
 have hfit:¬(!xT k)=true:=by
  rw[fitsIndex_both h1 h2]
  exact oX
 have hlong:¬pY (its.toArray.size*k.toNat)=true:=by
  rw[Ov hlen]
  exact oX
 have hnew:vg (λx1 x2=>x1++x2) #[] (nh (if its.toArray.isEmpty=true then 0 else k.toNat) its.toArray)=(nh k.toNat its).flatten.toArray:=by
  have f0:∀m:Nat,vg (λx1 x2=>x1++x2) #[] (nh m its.toArray)=(nh m its).flatten.toArray:=λm=>by
   have:=foldl_rep its m []
   rw[oY]at this
   exact this
  rw[f0]
  cases its with
  |nil=>simp
  |cons a r'=>rw[oU (by simp)]
 refine rL (T:="list") (U:="int") (by decide) ⟨_,e,rfl⟩ (λs'=>sU s' k t) noFill_list_mul ur q8 repeat_list uU.lookup
  (sV q8 (sU s k t) uV (uC _ _) (int___rmul___int_list k t l its.toArray n)
    ⟨e,rfl,⟨_,e,rfl⟩,sV F.slot_list_mul ⟨_,e,rfl⟩ F.entry_list_mul (F.args_list_mul_2 _ _) (vm l its.toArray n k t hfit hcap hlong) ⟨e,?_⟩⟩)
 rw[hnew]
 exact⟨.ref _,_,I.kK (t':=s.toks) (r.rep k.toNat) (by rw[len_rep,qx];exact hz),rfl,q _ I.fresh⟩
end
section
variable{prog:nv}{w:oM}{A:oN}{E:Wp->nE->Prop}{s:nE}
end
section
variable{X:Cx}
end
end L2
namespace Att
open PySem PySem.W PySem.Calls PyProof.Rows
theorem ints_of_wellAll{P:yr}{h:oE}:∀(ns:Gc Int) (vs:Gc Wp),WellAll P h vs (ns.map WData.int)->rS vs ns:=by
 intro ns
 induction ns with
 |nil=>
  intro vs w
  rw[qB]at w
  cases w
  exact .nil
 |cons n ns ih=>
  intro vs w
  rw[oG]at w
  cases w with
  |cons a b=>
   cases a
   exact .cons _ _ (ih _ b)
theorem script_of{l:uY}{n:Nat}(hn:l.most=Fk n){P:yr}{h:oE}{args:Gc WData}{vals:Gc Wp}(hpre:l.row.toRowW.claim.pre args=true)(hwl:WellAll P h vals args):∃a vs ns,vals=[pL a]/\args=[WData.list (ns.map WData.int)]/\h.get? a=Fk {cls:=.type "list",data:=.seq vs.toArray}/\rS vs ns/\ns.length<=n:=by
 have hsh:WShape.hasAll [] args [.list .int]=true:=(pre_splitW hpre).1
 have hc:l.pre.holds [] {args:=args}=true:=(pre_splitW hpre).2
 obtain⟨d,r,rfl,h1,h2⟩:=hasAllW_cons hsh
 obtain rfl:=hasAllW_nil h2
 obtain⟨xs,rfl,h3⟩:=hasW_list h1
 obtain⟨ns,rfl⟩:=items_int h3
 have hlen:ns.length<=n:=by
  unfold OpenLaw.pre at hc
  have h4:(WTm.not (.lt (.lit (.int (n:Int))) (.len (.arg 0)))).holds [] {args:=[.list (ns.map .int)]}=true:=by
   have h4:=(holds_andW hc).1
   rw[hn]at h4
   exact h4
  have h5:=condW_of h4 (w_not (w_lt w_lit (w_len_list (w_arg rfl))))
  rw[oa]at h5
  refine Nat.le_of_not_lt λq=>?_
  have q':(n:Int)<((ns.length:Nat):Int):=by lia
  first
   |(rw[qW q']at h5;exact absurd h5 (by decide))
   |(simp at h5;lia)
 cases hwl with
 |cons w1 w2=>
  cases w2
  cases w1 with
  |list ho hall=>exact⟨_,_,ns,rfl,rfl,ho,ints_of_wellAll ns _ hall,hlen⟩
theorem post_true(l:uY)(args:Gc WData):l.row.toRowW.claim.post args (.bool true) args=true:=
 postW_of (r:=l.row.toRowW) (X:=(true==true))
  (show WShape.has [] (.bool true) .bool=true by first|rfl|decide|simp[WShape.has,WShape.arms,WShape.armsAll])
  (show(WTm.eq .res (.lit (.bool true))).value [] {args:=args,res:=Fk (.bool true),after:=args}=Fk (.bool (true==true))from w_eq_bool (w_res rfl) w_lit) rfl
theorem attach_call{l:uY}{n:Nat}{q:nv}{loose:Gc Str}{XP:(Str->nG Wp)->oE->Prop}{YP:oM->oE->Prop}{d:DefRec}(hn:l.most=Fk n)(hdf:d.params.defaults=[])(call:∀(w:oM) (s₀ s₁:nE) (mg mb:Str->nG Wp) (fa:nI) (o:Obj) (pm cd doc:Wp) (a:nI) (vs:Gc Wp) (ns:Gc Int),Ground q loose [] XP w s₀ mg mb s₁.heap->YP w s₁.heap->s₁.heap.get? fa=Fk o->o.data=.func (docDef d.name d.params d.body d.scope pm cd doc)->s₁.heap.CodeRec cd d.name->mg d.name=Fk (.ref fa)->s₁.heap.get? a=Fk {cls:=.type "list",data:=.seq vs.toArray}->rS vs ns->ns.length<=n->s₁.gens= #[]->codeAny (model l.prog w) callerA (.call (.ref fa) ⟨[.ref a],[]⟩) (λr s'=>r=.ok (.ret (.bool true))/\OldK s₁.heap s'.heap/\s'.os=s₁.os/\rf s'.gens) s₁):xK q loose XP YP l.row.toRowW d [] (λf vs=>xU f vs):=by
 intro w s₀ s₁ mg mb G Y fa o pm cd doc dV kV ho hd hcd hD hmg hg args vals as hpre hlay hrd hwl hlo
 obtain rfl:dV=.none:=Dflts.none hD hdf
 obtain rfl:kV=.none:=Dflts.noKw hD
 obtain⟨a,vs,ns,rfl,rfl,hobj,hints,hlen⟩:=script_of hn hpre hwl
 refine enter_call (ue (call w s₀ s₁ mg mb fa o pm cd doc a vs ns G Y ho (fd_plain hd) hcd hmg hobj hints hlen hg) λr s' hq=>?_)
 obtain⟨rfl,h2,h3,h4⟩:=hq
 exact⟨.inl ⟨.bool true,.bool true,[],rfl,λ_=>rfl,.bool true,post_true l _,λ_=>⟨v9,λ_ hm=>(nomatch hm)⟩⟩,h2,h3,h4⟩
section
variable{prog:nv}{w:oM}{A:oN}{E:Wp->nE->Prop}{s:nE}{K:KE}
end
end Att
namespace L2
open PySem PySem.Spec PyProof.Rows
theorem Pg:∀{vs:Gc Wp} {ns:Gc Int},rS vs ns->Vals (ns.map V.int) vs
 |_,_,.nil=>.nil
 |_,_,.cons n t h=>.cons ⟨t,rfl⟩ (Pg h)
end L2
namespace L2
open PySem PySem.Spec PyProof.Rows
abbrev KOf{K:KE}{h:oE}(_:K.In h):KE:=K
end L2
namespace L2
open PySem PySem.Spec PyProof.Rows
noncomputable def NA(s:oK):tN:=match s with
 | .FunctionDef _ a _ _ _ _ _ _ _ _=>a
 |_=>{posonlyargs:=[],args:=[],vararg:=nD,kwonlyargs:=[],kw_defaults:=[],kwarg:=nD,defaults:=[]}
noncomputable def DK(s:oK):Gc oK:=match s with
 | .FunctionDef _ _ b _ _ _ _ _ _ _=>b
 |_=>[]
noncomputable def AG(s:oK):pJ:=match s with
 | .FunctionDef _ _ _ _ _ _ sc _ _ _=>sc
 |_=>{kind:=.function,names:=[],isGenerator:=false,isCoroutine:=false}
abbrev CX0:CXT:=λ_ _ _ _ _ _=>qa
abbrev E0:XK:=λ_ _ _=>qa
theorem iO{X:Cx}:Passes CX0 X E0:=λ_ _ _ _ _ _ _ h=>h.elim
structure Fun(K:KE)(x qual:Str)(st:oK)(f:nI)(fd:qE):Prop where
 ex:∃(oc:Wp) (od:nG nI) (kV doc pm:Wp) (an:nG nI) (cdv ct:Wp) (osl:pE (nG Wp)),
  fd=rH x qual (NA st) (DK st) (AG st) .none kV doc pm an cdv ct/\K.lookup f=Fk ⟨oc,od,.func fd,osl⟩/\tS K cdv qual=true
 kp:qM K (.ref f)=true
section
variable{P:nv}{w:oM}{K:KE}{mg:Str->nG Wp}{base:oE}
theorem Fun.ok{x qual:Str}{st:oK}{f:nI}{fd:qE}{N ps:Gc Str}{k:Nat}{sp:Sp}(F:Fun K x qual st f fd)(S:AO N ps (AG st))(len:∀vs H Q E,sp vs H Q E->vs.length=ps.length)(hbody:∀(cdv:Wp) (A:oN) (outer:Gc Env) (s:nE) (H:Hp) (vs:Gc V) (Q:VK) (E:XK),Gz k (A.deeper (envOfC qual (AG st) s.heap.objs.size f cdv))->sp vs H Q E->∃t,PSs (Ln CX0 P w K mg base N qual (AG st) f cdv A outer s H E).nox (DK st) t/\t {nx:=λ_ H'=>Q .non H',rt:=Q} (start N vs) H):Rq P w K mg base CX0 (k+1) f fd ps sp:=by
 obtain⟨oc,od,kV,doc,pm,an,cdv,ct,osl,rfl,lk,hcd⟩:=F.ex
 refine ZW lk hcd S len λA outer s H vs Q E hr hsp=>?_
 obtain⟨t,h,q⟩:=hbody cdv A outer s H vs Q E hr hsp
 exact⟨t,h.nox,q⟩
theorem Fun.binds{x qual:Str}{st:oK}{f:nI}{fd:qE}{ps:Gc Str}(F:Fun K x qual st f fd)(h:∀(kV doc pm:Wp) (an:nG nI) (cdv ct:Wp) (us:Gc Wp),us.length=ps.length->bindArgs (rH x qual (NA st) (DK st) (AG st) .none kV doc pm an cdv ct) ⟨us,[]⟩=pure (ps.zip us)):Binds K fd ps []:=by
 obtain⟨oc,od,kV,doc,pm,an,cdv,ct,osl,rfl,lk,hcd⟩:=F.ex
 exact .all (h kV doc pm an cdv ct)
theorem da{x qual:Str}{st:oK}{f:nI}{oc:Wp}{od an:nG nI}{osl:pE (nG Wp)}{kV doc pm cdv ct:Wp}(l:K.lookup f=Fk ⟨oc,od,.func (rH x qual (NA st) (DK st) (AG st) .none kV doc pm an cdv ct),osl⟩)(c:tS K cdv qual=true)(k:qM K (.ref f)=true):Fun K x qual st f (rH x qual (NA st) (DK st) (AG st) .none kV doc pm an cdv ct):=⟨⟨oc,od,kV,doc,pm,an,cdv,ct,osl,rfl,l,c⟩,k⟩
end
section
variable{X:Cx}
end
theorem ZG{A B:Prop}(h:B):if false=true then A else B:=by
 rw[oU oX]
 exact h
theorem ZC{A B:Prop}(h:A):if true=true then A else B:=by
 rw[oP rfl]
 exact h
def Cv(H H':Hp):Prop:=∀b o,H b=Fk o->H' b=Fk o
end L2
end
noncomputable section
namespace L2
open PySem PySem.Spec PyProof.Rows
noncomputable def GZ(cells:Gc (Str×nI)):Gc (Str×q5)->Gc (Str×nI)->Gc (Str×nI)
 | [],cs=>cs
 |(n,k)::r,cs=>if(k==pF)=true then GZ cells r ((n,(cells.lookup n).getD 0)::cs)else GZ cells r cs
theorem Pu{env:Env}:∀(names:Gc (Str×q5)) (cs:Gc (Str×nI)),(∀y∈names,y.2=.free->∃a,env.cells.lookup y.1=Fk a)->(forIn names cs λ(x:Str×q5) r=>match x with|(name,kind)=>if(kind==pF)=true then(do let a<-cellOf env name;pure (sk ((name,a)::r)))else pure (sk r):Sem (Gc (Str×nI)))=pure (GZ env.cells names cs)
 | [],cs,_=>by simp[GZ]
 |(n,k)::r,cs,h=>by
  rw[uu]
  have ih:=λcs=>Pu r cs λy hy=>h y (nK _ hy)
  by_cases hk:(k==pF)=true
  .obtain⟨a,ha⟩:=h (n,k) nT (by simpa using hk)
   have ha':env.cells.lookup n=Fk a:=ha
   have e:cellOf env n=pure a:=by unfold cellOf;rw[ha']
   simp only[hk,sd,e,pure_bind,GZ,ha',Option.getD_some]
   exact ih _
  .simp only[hk,uT,pure_bind,GZ]
   exact ih _
theorem PC{scope:pJ}{env:Env}(h:∀y∈scope.names,y.2=.free->∃a,env.cells.lookup y.1=Fk a):closureFor scope env=pure (GZ env.cells scope.names []):=by
 unfold closureFor
 have:=Pu (env:=env) scope.names [] h
 simp only[bind_pure]at this⊢
 exact this
theorem J9{cells:Gc (Str×nI)}{x:Str}{c:nI}:∀{names:Gc (Str×q5)} {cs:Gc (Str×nI)},(∀y∈names,y.2=.free->∃a,cells.lookup y.1=Fk a)->(GZ cells names cs).lookup x=Fk c->cs.lookup x=Fk c\/cells.lookup x=Fk c
 | [],cs,_,h=>.inl h
 |(n,k)::r,cs,hh,h=>by
  have hr:∀y∈r,y.2=.free->∃a,cells.lookup y.1=Fk a:=λy hy=>hh y (nK _ hy)
  unfold GZ at h
  by_cases hk:(k==pF)=true
  .rw[oP hk]at h
   rcases J9 hr h with q|q
   .obtain⟨a,ha⟩:=hh (n,k) nT (by simpa using hk)
    have ha':cells.lookup n=Fk a:=ha
    rw[pV]at q
    cases hx:x==n with
    |true=>
     rw[hx,ha']at q
     have e:x=n:=by simpa using hx
     subst e
     cases q
     exact .inr ha'
    |false=>
     rw[hx]at q
     exact .inl q
   .exact .inr q
  .rw[oU hk]at h
   exact J9 hr h
theorem G6{cells:Gc (Str×nI)}{x:Str}:∀{names:Gc (Str×q5)} {cs:Gc (Str×nI)},((x,pF)∈names\/∃c,cs.lookup x=Fk c)->∃c,(GZ cells names cs).lookup x=Fk c
 | [],cs,h=>h.elim (λz=>nomatch z) id
 |(n,k)::r,cs,h=>by
  unfold GZ
  by_cases hk:(k==pF)=true
  .rw[oP hk]
   refine G6 ?_
   by_cases hx:x=n
   .subst hx
    exact .inr ⟨_,by rw[pV,beq_self_eq_true]⟩
   .rcases h with h|⟨c,h⟩
    .rcases nO.mp h with e|e
     .cases e;exact absurd rfl hx
     .exact .inl e
    .refine .inr ⟨c,?_⟩
     rw[pV,show(x==n)=false by simpa using hx]
     exact h
  .rw[oU hk]
   refine G6 ?_
   rcases h with h|h
   .rcases nO.mp h with e|e
    .cases e;exact absurd rfl hk
    .exact .inl e
   .exact .inr h
theorem LR{env:Env}{x:Str}:∀{names:Gc (Str×q5)},names.lookup x=Fk .free->(names.map λ(n,k)=>if(k==pF && env.scope.kind== .function && env.kindOf n==Fk .cell)then(n,q9)else(n,k)).lookup x=Fk .cell\/(names.map λ(n,k)=>if(k==pF && env.scope.kind== .function && env.kindOf n==Fk .cell)then(n,q9)else(n,k)).lookup x=Fk .free
 | [],h=>by simp at h
 |(n,k)::r,h=>by
  have ih:= @LR env x r
  show zk x ((if(k==pF && env.scope.kind== .function && env.kindOf n==Fk .cell)=true then(n,q9)else(n,k))::_)=_\/zk x ((if(k==pF && env.scope.kind== .function && env.kindOf n==Fk .cell)=true then(n,q9)else(n,k))::_)=_
  cases hx:x==n with
  |true=>
   simp only[pV,hx]at h
   cases h
   by_cases hc:(pF==pF && env.scope.kind== .function && env.kindOf n==Fk .cell)=true
   .rw[oP hc];simp only[pV,hx];exact .inl trivial
   .rw[oU hc];simp only[pV,hx];exact .inr trivial
  |false=>
   simp only[pV,hx]at h
   by_cases hc:(k==pF && env.scope.kind== .function && env.kindOf n==Fk .cell)=true
   .rw[oP hc];simp only[pV,hx];exact ih h
   .rw[oU hc];simp only[pV,hx];exact ih h
theorem MF{env:Env}{scope:pJ}{x:Str}{k':q5}(hk:k'=.cell\/k'=.free)(h:(relabel scope env).names.lookup x=Fk k'):(x,pF)∈scope.names\/(x,q9)∈scope.names:=by
 have hm:=oS h
 obtain⟨⟨n,k⟩,hy,e⟩:=oj.mp (show(x,k')∈scope.names.map _ from hm)
 by_cases hc:(k==pF && env.scope.kind== .function && env.kindOf n==Fk .cell)=true
 .simp only[hc,sd]at e
  cases e
  have:k=.free:=by
   have:=((nU _ _).mp hc).1
   exact vh.mp ((nU _ _).mp this).1
  subst this
  exact .inl hy
 .simp only[hc,uT]at e
  cases e
  rcases hk with rfl|rfl
  .exact .inr hy
  .exact .inl hy
theorem B6:∀(names:Gc (Str×q5)) (n:Nat) (cs:Gc (Str×nI)),cellsFrom n names cs=cellsFrom n names []++cs
 | [],_,_=>rfl
 |(x,k)::r,n,cs=>by
  unfold cellsFrom
  split
  .rw[B6 r _ ((x,n)::cs),B6 r _ [(x,n)]];simp
  .exact B6 r n cs
theorem Ha{x:Str}{c:nI}:∀{names:Gc (Str×q5)} {n:Nat},(x,c)∈cellsFrom n names []->(x,q9)∈names
 | [],_,h=>nomatch h
 |(y,k)::r,n,h=>by
  unfold cellsFrom at h
  split at h
  .rename_i hk
   rw[B6]at h
   rcases oD.mp h with z|z
   .exact nK _ (Ha z)
   .have e:=oJ.mp z
    cases e
    rw[vh.mp hk]
    exact nT
  .exact nK _ (Ha h)
theorem Ko{M:vo}{A:oN}{E:Wp->nE->Prop}{s:nE}{scope:pJ}{globals:nI}{cl:Gc (Str×nI)}{qual:Str}{env:Env}{Q:Env->nE->Prop}(hQ:∀h':oE,h'.Ns s.heap.objs.size (λ_=>nD)->(∀b o,s.heap.get? b=Fk o->h'.get? b=Fk o)->CellsOk h' (s.heap.objs.size+1) (cellsFrom (s.heap.objs.size+1) scope.names [])->Q (newEnv scope s.heap.objs.size globals (cellsFrom (s.heap.objs.size+1) scope.names cl) qual nD .none (Fk env) builtinsNs) {s with heap:=h'}):wpAny M A (newFunctionEnv scope globals cl [] qual nD .none (Fk env)) Q E s:=by
 simp only[newFunctionEnv,Option.isSome_some,sd]
 refine nC (wpAny_alloc ?_)
 refine nC (wpAny_layCells _ (λname kind cells=>by cases hkc:kind==q9<;>simp[hkc]) _ _ _ _ ?_)
 have ok:=cellsFrom_ok scope.names (s.heap.push {cls:=.type "dict",data:=.dict #[]}) (s.heap.objs.size+1) [] ⟨λ_ _ hm=>(nomatch hm),v9⟩ (by rw[pR];exact nS _)
 rw[pR]at ok
 rw[show({s with heap:=s.heap.push {cls:=.type "dict",data:=.dict #[]}}:nE).heap.objs.size=s.heap.objs.size+1 from pR ..]
 rw[vD]
 refine nC (ng (ng ?_))
 exact hQ _ ((Heap.Ns.new s.heap (.type "dict")).keeps (xE _ _)) (λb o e=>xE _ _ b o (W1 _ e)) ok
end L2
end
noncomputable section
namespace L2
open PySem PySem.Spec PyProof.Rows
noncomputable def SS(N:Gc Str)(osc scope:pJ):Gc Str->Gc (nG Nat)->oQ
 | [],[]=>true
 |_::r,nD::q=>SS N osc scope r q
 |x::r,Fk i::q=>decide (N[i]?=Fk x) && (decide (osc.names.lookup x=Fk .cell)||decide (osc.names.lookup x=Fk .free)) && decide (scope.names.lookup x=Fk .free) && SS N osc scope r q
 |_,_=>false
theorem Ts{N:Gc Str}{osc scope:pJ}:∀{N':Gc Str} {ix:Gc (nG Nat)},SS N osc scope N' ix=true->ix.length=N'.length
 | [],[],_=>rfl
 |_::r,nD::q,h=>by
  unfold SS at h
  simp[Ts h]
 |x::r,Fk i::q,h=>by
  unfold SS at h
  have:=((nU _ _).mp h).2
  simp[Ts this]
 | [],_::_,h=>by simp[SS]at h
 |_::_,[],h=>by simp[SS]at h
theorem Zq{N:Gc Str}{osc scope:pJ}:∀{N':Gc Str} {ix:Gc (nG Nat)},SS N osc scope N' ix=true->∀{j i:Nat} {x:Str},N'[j]?=Fk x->ix[j]?=Fk (Fk i)->N[i]?=Fk x/\(osc.names.lookup x=Fk .cell\/osc.names.lookup x=Fk .free)/\scope.names.lookup x=Fk .free
 | [],[],_,j,_,_,h,_=>by simp at h
 |_::r,nD::q,h,j,i,x,h1,h2=>by
  unfold SS at h
  cases j with
  |zero=>simp at h2
  |succ j=>exact Zq h (by simpa using h1) (by simpa using h2)
 |y::r,Fk k::q,h,j,i,x,h1,h2=>by
  unfold SS at h
  obtain⟨ha,hr⟩:=(nU _ _).mp h
  obtain⟨ha,h3⟩:=(nU _ _).mp ha
  obtain⟨h4,h5⟩:=(nU _ _).mp ha
  cases j with
  |zero=>
   simp at h1 h2
   subst h1 h2
   refine⟨nV h4,?_,nV h3⟩
   rcases(pA _ _).mp h5 with z|z
   .exact .inl (nV z)
   .exact .inr (nV z)
  |succ j=>exact Zq hr (by simpa using h1) (by simpa using h2)
 | [],_::_,h,_,_,_,_,_=>by simp[SS]at h
 |_::_,[],h,_,_,_,_,_=>by simp[SS]at h
structure Aa(N:Gc Str)(osc:pJ)(N':Gc Str)(ix:Gc (nG Nat))(scope:pJ):Prop where
 kind:scope.kind=.function
 cells:∀y∈scope.names,y.2=.cell->scope.names.lookup y.1=Fk .cell
 names:∀y∈scope.names,y.2=.local->scope.names.lookup y.1=Fk .local
 free:∀y∈scope.names,y.2=.free->(osc.names.lookup y.1=Fk .cell\/osc.names.lookup y.1=Fk .free)
 ok:SS N osc scope N' ix=true
noncomputable def sig(ix:Gc (nG Nat))(σ:St):St:=ix.map λo=>o.bind λi=>(σ[i]?).join
noncomputable def Iv(X:Cx)(N':Gc Str)(scope:pJ)(s:nE)(H:Hp)(fp:Gc nI):Cx where
 prog:=X.prog
 w:=X.w
 K:=X.K
 mg:=X.mg
 base:=X.base
 A:=X.A
 N:=N'
 s₀:=s
 H₀:=H
 env:=compEnvC scope (cellsFrom (s.heap.objs.size+1) scope.names (GZ X.env.cells scope.names [])) s.heap.objs.size X.env
 outer:=X.stack
 stack:=X.stack
 ex:=fp
 fn:=λx=>decide (scope.names.lookup x=Fk .cell)
 calm:=true
 pn:=[]
 xe:=λ_ _=>qa
section
variable{X:Cx}{pins:Gc (nI×Obj)}{σ:St}{H:Hp}{s:nE}{N':Gc Str}{ix:Gc (nG Nat)}{scope:pJ}{fp:Gc nI}
theorem Inv.cellsOf(I:Inv X pins σ H s)(S:Aa X.N X.env.scope N' ix scope):∀y∈scope.names,y.2=.free->∃a,X.env.cells.lookup y.1=Fk a:=λy hy hk=>I.ok.has y.1 (S.free y hy hk)
theorem Xe(S:Aa X.N X.env.scope N' ix scope)(hc:X.calm=true)(I:Inv X pins σ H s)(hf:∀b∈fp,Q7 X pins H b)(hlt:∀b∈fp,b<s.heap.objs.size){h1:oE}{m1:Str->nG Wp}{tk:Nat}(hn:h1.Ns s.heap.objs.size m1)(hk:∀b o,s.heap.get? b=Fk o->h1.get? b=Fk o)(hC:CellsOk h1 (s.heap.objs.size+1) (cellsFrom (s.heap.objs.size+1) scope.names [])):Inv (Iv X N' scope s H fp) [] (sig ix σ) H {s with heap:=h1,toks:=tk}:=by
 have hcl:=I.cellsOf S
 have sub:∀{x:Str} {c:nI},(GZ X.env.cells scope.names []).lookup x=Fk c->X.env.cells.lookup x=Fk c:=λ{x c} h=>by
  rcases J9 hcl h with z|z
  .simp at z
  .exact z
 have old:∀{x:Str} {c:nI},X.env.cells.lookup x=Fk c->c<s.heap.objs.size:=λ{x c} h=>by
  obtain⟨v,oc,ho,_⟩:=I.cell x c h
  exact nj ho
 have look:∀{x:Str} {c:nI},(cellsFrom (s.heap.objs.size+1) scope.names (GZ X.env.cells scope.names [])).lookup x=Fk c->(x,c)∈cellsFrom (s.heap.objs.size+1) scope.names []\/X.env.cells.lookup x=Fk c:=λ{x c} h=>by
  rw[B6,rY]at h
  cases e:(cellsFrom (s.heap.objs.size+1) scope.names []).lookup x with
  |some a=>rw[e]at h;cases h;exact .inl (oS e)
  |none=>rw[e]at h;exact .inr (sub h)
 refine⟨⟨I.ok.mod,S.kind,I.ok.glob,I.ok.blt,nS _,λx y c h1 h2=>?_,λx hx=>?_,λx c hx h=>?_,λ_=>I.ok.hd hc,I.ok.frames,.inl rfl,λb hb=>?_,I.bs,nR I.ok.bsz I.sz,λb o e hb=>?_,λb hb hs=>?_,I.stack,I.RH⟩,
  rfl,I.bare,Un.kept hk,⟨m1,hn,λj x v h1 h2 h3=>?_⟩,λx c h=>?_,I.hok.fresh (nS _),λx c h=>?_,λp hp=>absurd (show p∈([]:Gc (nI×Obj))from hp) (by simp),I.hok.kept hk,?_⟩
 . -- inj
   rcases look h1 with a|a<;>rcases look h2 with b|b
   .exact yl hC.apart a b
   .exact absurd (nQ (old b) (rC (hC.empty _ _ a).2)) (pT _)
   .exact absurd (nQ (old a) (rC (hC.empty _ _ b).2)) (pT _)
   .exact I.ok.inj x y c a b
 . -- has
   have hx':(relabel scope X.env).names.lookup x=Fk .cell\/(relabel scope X.env).names.lookup x=Fk .free:=hx
   show∃c,(cellsFrom (s.heap.objs.size+1) scope.names (GZ X.env.cells scope.names [])).lookup x=Fk c
   rw[B6,rY]
   cases e:(cellsFrom (s.heap.objs.size+1) scope.names []).lookup x with
   |some a=>exact⟨a,rfl⟩
   |none=>
    rcases(hx'.elim (MF (.inl rfl)) (MF (.inr rfl)))with z|z
    .exact G6 (.inl z)
    .obtain⟨c,hc⟩:=Lw (n:=s.heap.objs.size+1) (S.cells _ z rfl)
     rw[e]at hc;cases hc
 . -- cab
   obtain⟨c',hc'⟩:=Lw (n:=s.heap.objs.size+1) (nV hx)
   have h:(cellsFrom (s.heap.objs.size+1) scope.names (GZ X.env.cells scope.names [])).lookup x=Fk c:=h
   rw[B6,rY,hc']at h
   cases h
   exact rC (hC.empty _ _ (oS hc')).2
 . -- exf
   refine⟨oH (hlt b hb),λx c h=>?_⟩
   rcases look h with a|a
   .exact λe=>absurd (nQ (e▸hlt b hb) (rC (hC.empty _ _ a).2)) (pT _)
   .exact(hf b hb).2.2.2.2.1 x c a
 . -- Yj
   rcases(hf b hb).2.2.2.1 with z|z
   .exact I.ok.Yj b o e z
   .exact absurd (nQ (nj (I.ok.bs b o e).1) z) (pT _)
 . -- af
   rcases nO.mp (I.U3 b hs)with z|z
   .exact(hf b hb).2.1 z
   .exact(hf b hb).2.2.1 z
 . -- loc
   unfold sig at h2
   rw[nY]at h2
   cases e:ix[j]? with
   |none=>rw[e]at h2;cases h2
   |some o=>
    rw[e]at h2
    cases o with
    |none=>cases h2
    |some i=>
     have h2':(σ[i]?).join=Fk v:=by simpa using h2
     have h4:σ[i]?=Fk (Fk v):=by
      cases e4:σ[i]? with
      |none=>rw[e4]at h2';cases h2'
      |some q=>rw[e4]at h2';exact congrArg Fk h2'
     obtain⟨q1,q2,q3⟩:=Zq S.ok h1 e
     obtain⟨m,_,hl⟩:=I.loc
     obtain⟨u,r,l⟩:=hl i x v q1 h4 (q2.elim (λz=>.inr (.inl z)) λz=>.inr (.inr z))
     refine⟨u,r,?_⟩
     rcases l with⟨l,_⟩|⟨_,c,lc,z⟩
     .have l':X.env.scope.names.lookup x=Fk .local:=l
      rcases q2 with z|z<;>(rw[z]at l';cases l')
     .refine .inr ⟨LR q3,?_⟩
      obtain⟨c',hc'⟩:=G6 (cells:=X.env.cells) (cs:=[]) (.inl (oS q3))
      have ec:=sub hc'
      rw[lc]at ec
      cases ec
      have no:(cellsFrom (s.heap.objs.size+1) scope.names []).lookup x=none:=by
       cases e:(cellsFrom (s.heap.objs.size+1) scope.names []).lookup x with
       |none=>rfl
       |some a=>
        have q:=S.cells _ (Ha (oS e)) rfl
        rw[q3]at q;cases q
      refine⟨c,(by show(cellsFrom (s.heap.objs.size+1) scope.names (GZ X.env.cells scope.names [])).lookup x=Fk c;rw[B6,rY,no];exact hc'),?_⟩
      obtain⟨oc,ho,hd⟩:=z
      exact⟨oc,hk _ _ ho,hd⟩
 .rcases look h with a|a
  .exact⟨_,(hC.empty _ _ a).1⟩
  .obtain⟨v,oc,ho,hd⟩:=I.cell x c a
   exact⟨v,oc,hk _ _ ho,hd⟩
 .rcases look h with a|a
  .exact I.hok.fresh (rC (hC.empty _ _ a).2)
  .exact I.Jt x c a
 .show(sig ix σ).length=N'.length
  unfold sig
  rw[oa]
  exact Ts S.ok
end
end L2
end
noncomputable section
namespace L2
open PySem PySem.Spec PyProof.Rows
def PTs(X:Cx)(ifs:Gc oA)(t:TT):Prop:=
 ∀(pins:Gc (nI×Obj)) (s:nE) (σ:St) (H:Hp) (Q:oQ->Hp->Prop),Inv X pins σ H s->t σ H Q->
  wpAny (model X.prog X.w) X.A (forIn ifs true λc r=>if r=true then do let ok<-isTrue c X.env (eval c X.env);pure (sk ok)else pure (sk r)) (TP X pins σ Q) X.xe s
noncomputable def jY:TT:=λ_ H Q=>Q true H
theorem bB{X:Cx}:PTs X [] jY:=λ_ _ _ H _ I h=>wpAny_tests_nil ⟨H,I,h⟩
theorem Z1{X:Cx}{c:oA}{t:TT}(h:PT X c t):PTs X [c] t:=λpins s σ H Q I q=>wpAny_tests_one (h pins s σ H Q I q)
theorem YW{α:Type}{M:vo}{A:oN}{t:Sem α}{Q:α->nE->Prop}{E:Wp->nE->Prop}{s:nE}(h:wpAny M A t Q (λ_ _=>qa) s):wpAny M A t Q E s:=pW h (λ_ _ q=>q) λ_ _ f=>f.elim
def cZ(ix:Gc (nG Nat))(g:TG)(tc:TT)(te:TE)(J:It)(σ:St)(H:Hp)(Q:VK):Prop:=
 ∀D,H D=nD->∃W:Nat->Nat->St->Hp->Gc V->Prop,(∃m,W 0 m (sig ix σ) (upd H D (.lst [])) [])/\∀i m σ H ys,W i m σ H ys->H D=Fk (.lst ys)/\
  ((J.stop i H/\Q (.ref D) H)\/(J.go i H/\ys.length<sizeLine/\∀x H',J.yld i H x H'->g x σ H' λσ2 H2=>tc σ2 H2 λb H3=>
    if b=true then te σ2 H3 λy H4=>H4 D=Fk (.lst ys)/\∃m',m'<m/\W (i+1) m' σ2 (upd H4 D (.lst (ys++[y]))) (ys++[y])else∃m',m'<m/\W (i+1) m' σ2 H3 ys))
noncomputable def Zj(ix:Gc (nG Nat))(wi:TI)(g:TG)(tc:TT)(te:TE):TE:=λσ H Q=>wi σ H λJ H1=>cZ ix g tc te J σ H1 Q
section
variable{X:Cx}{pins:Gc (nI×Obj)}{σ:St}{s₂:nE}{N':Gc Str}{ix:Gc (nG Nat)}{scope:pJ}{elt tg iter:oA}{ifs:Gc oA}{pos:Pos}{g:TG}{tc:TT}{te:TE}
def Block(X:Cx)(N':Gc Str)(scope:pJ)(tg:oA)(ifs:Gc oA)(elt:oA)(g:TG)(tc:TT)(te:TE):Prop:=
 ∀(s:nE) (H:Hp) (fp:Gc nI),PG (Iv X N' scope s H fp) tg g/\PTs (Iv X N' scope s H fp) ifs tc/\PE (Iv X N' scope s H fp) elt te
theorem VX {X' : Cx} {it : nI} {fp : Gc nI} {tn : Nat -> oE -> Prop} {J : It} {D : nI} {Q : VK} {R : Result -> nE -> Prop} {W : Nat -> Nat -> St -> Hp -> Gc V -> Prop} {s : nE} {e : Env} {n : Nat} (he : X'.env = e) (hx : X'.xe = fun _ _ => qa) (hcm : X'.calm = true) (T : Turn X'.prog X'.w X'.K tg J fp it tn) (hfp : ∀ H : Hp, (∀ b ∈ fp, H b = nD) -> ∀ b ∈ fp, Q7 X' [] H b) (hg : PG X' tg g) (ht : PTs X' ifs tc) (hb : PE X' elt te) (turn : ∀ i m σ H ys, W i m σ H ys -> H D = Fk (.lst ys) /\ ((J.stop i H /\ Q (.ref D) H) ∨ (J.go i H /\ ys.length < sizeLine /\ ∀ x H', J.yld i H x H' -> g x σ H' fun σ2 H2 => tc σ2 H2 fun b H3 =>
        if b = true then te σ2 H3 fun y H4 => H4 D = Fk (.lst ys) /\ ∃ m', m' < m /\ W (i + 1) m' σ2 (upd H4 D (.lst (ys ++ [y]))) (ys ++ [y]) else ∃ m', m' < m /\ W (i + 1) m' σ2 H3 ys)))
    (hR : ∀ s' σ' H', Inv X' [] σ' H' s' -> Q (.ref D) H' -> R (.ok .next) s')
    (h0 : ∃ i σ' H' ys, Inv X' [] σ' H' s /\ tn i s.heap /\ (∀ b ∈ fp, H' b = nD) /\ W i n σ' H' ys) :
    codeAny (model X'.prog X'.w) X'.A (.compLoop (.ListComp elt [⟨tg, iter, ifs, 0⟩] scope pos) 0 (.ref it) (.ref D) e) R s := by
  subst he
  refine codeAny_loop rfl (fun n s => ∃ i σ' H' ys, Inv X' [] σ' H' s /\ tn i s.heap /\ (∀ b ∈ fp, H' b = nD) /\ W i n σ' H' ys) (fun n s3 hI => ?_) n h0
  show wpAny _ X'.A ((compTurn (.ListComp elt [⟨tg, iter, ifs, 0⟩] scope pos) 0 (.ref it) (.ref D) X'.env).onRaise (fun x => do noteFrame x X'.env; theTreesLotGoes x)) _ _ s3
  refine wpAny_noted (YW ?_)
  rw [compTurn_list]
  obtain ⟨i, σ3, H3, ys, I3, st3, fr3, w3⟩ := hI
  obtain ⟨hD, alt⟩ := turn i n σ3 H3 ys w3
  rcases alt with ⟨stop, q⟩ | ⟨go, hlen, step⟩
  · refine nC (rQ (nC (thn (T.done X' rfl rfl rfl hcm i [] s3 σ3 H3 _ I3 (hfp H3 fr3) st3 stop) fun r s4 ⟨hr, I4⟩ => ?_)))
    subst hr
    exact ng (hR s4 σ3 H3 I4 q)
  · refine nC (rQ (nC (thn (T.item X' rfl rfl rfl hcm i [] s3 σ3 H3 _ I3 (hfp H3 fr3) st3 go) fun r s4 ⟨u, hr, h4⟩ => ?_)))
    subst hr
    refine nC (thn h4 fun _ s5 ⟨x, H5, I5, r5, y5, st5, fr5⟩ => ?_)
    have I5' := I5.pinned (hfp H5 fr5) (T.obj _ _ st5)
    have hg' := hg _ s5 σ3 H5 x u _ I5' r5 (step x H5 y5)
    rw [hx] at hg'
    refine nC (thn hg' fun _ s6 ⟨σ6, H6, I6, q6⟩ => ?_)
    have ht' := ht _ s6 σ6 H6 _ I6 q6
    rw [hx] at ht'
    refine nC (thn ht' fun ok s7 ⟨H7, I7, q7⟩ => ?_)
    have again : ∀ {s8 : nE} {H8 : Hp} {zs : Gc V} {m' : Nat}, Inv X' ([] ++ P1 fp s5.heap) σ6 H8 s8 -> m' < n -> W (i + 1) m' σ6 H8 zs -> ∃ m, m < n /\ ∃ i σ' H' ys, Inv X' [] σ' H' s8 /\ tn i s8.heap /\ (∀ b ∈ fp, H' b = nD) /\ W i m σ' H' ys := fun {s8 H8 zs m'} I8 hm w8 => by
      refine ⟨m', hm, i + 1, σ6, H8, zs, I8.Ls, T.keep _ _ _ st5 fun b hb o e => (I8.pin (b, o) (oW _ (oW _ (JH hb e)))).1, fun b hb => ?_, w8⟩
      obtain ⟨o, e, d⟩ := T.obj _ _ st5 b hb
      exact (I8.pin (b, o) (oW _ (oW _ (JH hb e)))).2.1
    cases ok with
    | false =>
      rw [oU (by decide)] at q7
      obtain ⟨m', hm, w7⟩ := q7
      exact ng ⟨rfl, again I7 hm w7⟩
    | true =>
      rw [oP rfl] at q7
      have hb' := hb _ s7 σ6 H7 _ I7 q7
      rw [hx] at hb'
      refine nC (nC (thn hb' fun v s8 ⟨y, H8, I8, r8, hD8, m', hm, w8⟩ => ?_))
      have ha := Qa (X := X') _ s8 σ6 H8 (.ref D) [y] (.ref D) [v] (fun _ H9 => H9 = upd H8 D (.lst (ys ++ [y]))) I8 rfl (.cons r8 .nil) ⟨D, ys, y, rfl, rfl, hD8, hlen, rfl⟩
      rw [hx] at ha
      refine nC (thn ha fun _ s9 ⟨_, H9, I9, _, e9⟩ => ?_)
      subst e9
      exact ng (ng ⟨rfl, again I9 hm w8⟩)
theorem SD(hc:X.calm=true)(S:Aa X.N X.env.scope N' ix scope)(hb:Block X N' scope tg ifs elt g tc te){it:nI}{fp:Gc nI}{tn:Nat->oE->Prop}{J:It}{H₂:Hp}{Q:VK}{E:Wp->nE->Prop}{RR:Wp->nI->Result->nE->Prop}(I2:Inv X pins σ H₂ s₂)(T:Turn X.prog X.w X.K tg J fp it tn)(st2:tn 0 s₂.heap)(f2:∀b∈fp,Q7 X pins H₂ b)(hW:cZ ix g tc te J σ H₂ Q)(hRR:∀D C H' s',Inv X pins σ H' s'->(∃m,s'.heap.Ns C m)->Q7 X pins H' C->Q (.ref D) H'->RR (.ref D) C (.ok .next) s'):wpAny (model X.prog X.w) X.A (newList []) (λacc s₃=>wpAny (model X.prog X.w) X.A (newFunctionEnv scope X.env.globals (GZ X.env.cells scope.names []) [] X.env.qual nD .none (Fk X.env)) (λcenv s₄=>
  codeAny (model X.prog X.w) X.A (.compStart (.ListComp elt [⟨tg,iter,ifs,0⟩] scope pos) 0 (.ref it) acc {cenv with scope:=relabel scope X.env}) (RR acc cenv.locals) s₄) E s₃) E s₂:=by
 have hD0:H₂ s₂.heap.objs.size=none:=I2.hok.fresh (nS _)
 have hlt2:∀b∈fp,b<s₂.heap.objs.size:=λb hb=>by
  obtain⟨o,e,_⟩:=T.obj _ _ st2 b hb
  exact nj e
 refine qg (Ko (λh₁ hns₁ hsb₁ hcl₁=>?_))
 have I3:Inv X pins σ (upd H₂ s₂.heap.objs.size (.lst [])) {s₂ with heap:=s₂.heap.push {cls:=.type "list",dict:=nD,data:=.seq ([]:Gc Wp).toArray}}:=
  I2.laid (t':=s₂.toks) (λb u e=>W1 _ e) (nS _) ⟨qv _,[],0,.nil,nq _ rfl⟩
 have f3:∀b∈fp,Q7 X pins (upd H₂ s₂.heap.objs.size (.lst [])) b:=λb hb=>⟨by rw[Ab (oH (hlt2 b hb))];exact(f2 b hb).1,(f2 b hb).2⟩
 have k3:∀b o,s₂.heap.get? b=Fk o->(s₂.heap.push {cls:=.type "list",dict:=nD,data:=.seq ([]:Gc Wp).toArray}).get? b=Fk o:=λb o e=>W1 _ e
 dsimp only at hns₁ hsb₁ hcl₁⊢
 generalize hs3:({s₂ with heap:=s₂.heap.push {cls:=.type "list",dict:=nD,data:=.seq ([]:Gc Wp).toArray}}:nE)=s₃ at I3
 have eh:s₂.heap.push {cls:=.type "list",dict:=nD,data:=.seq ([]:Gc Wp).toArray}=s₃.heap:=by rw[<-hs3]
 have et:s₂.toks=s₃.toks:=by rw[<-hs3]
 have es:∀(h:oE) (t:Nat),({s₂ with heap:=h,toks:=t}:nE)={s₃ with heap:=h,toks:=t}:=λh t=>by rw[<-hs3]
 rw[eh]at hns₁ hsb₁ hcl₁ k3⊢
 have hlt3:∀b∈fp,b<s₃.heap.objs.size:=λb hb=>by
  obtain⟨o,e,_⟩:=T.obj _ _ st2 b hb
  exact nj (k3 b o e)
 have k4:∀b o,s₃.heap.get? b=Fk o->h₁.get? b=Fk o:=hsb₁
 obtain⟨W,⟨m0,w0⟩,turn⟩:=hW _ hD0
 have I4:∀tk,Inv (Iv X N' scope s₃ (upd H₂ s₂.heap.objs.size (.lst [])) fp) [] (sig ix σ) (upd H₂ s₂.heap.objs.size (.lst [])) {s₃ with heap:=h₁,toks:=tk}:=λtk=>Xe S hc I3 f3 hlt3 hns₁ k4 hcl₁
 have st4:tn 0 h₁:=T.keep _ _ _ st2 λb hb o e=>k4 b o (k3 b o e)
 obtain⟨bg,bt,be⟩:=hb s₃ (upd H₂ s₂.heap.objs.size (.lst [])) fp
 have noX:∀(H:Hp),(∀b∈fp,H b=nD)->∀b∈fp,Q7 (Iv X N' scope s₃ (upd H₂ s₂.heap.objs.size (.lst [])) fp) [] H b:=λH hn b hb=>by
  obtain⟨_,h2,h3⟩:=f3 b hb
  refine⟨hn b hb,oH (hlt3 b hb),λhs=>(I4 0).ok.af b hb hs,.inl hb,λx c h=>?_,λp hp=>absurd (show p∈([]:Gc (nI×Obj))from hp) (by simp)⟩
  exact((I4 0).ok.exf b hb).2 x c h
 have fin:∀(s':nE) (σ':St) (H':Hp),Inv (Iv X N' scope s₃ (upd H₂ s₂.heap.objs.size (.lst [])) fp) [] σ' H' s'->Q (.ref s₂.heap.objs.size) H'->RR (.ref s₂.heap.objs.size) s₃.heap.objs.size (.ok .next) s':=λs' σ' H' I' q=>by
  refine hRR _ _ H' s' ?_ (let⟨m,hn,_⟩:=I'.loc;⟨m,hn⟩) (I3.ZV (nS _) I'.free) q
  exact I3.aH I'.os I'.base I'.hok I'.bare λb hb=>⟨(f3 b hb).2.2.2.1,(f3 b hb).2.1,(f3 b hb).2.2.2.2.1,(f3 b hb).2.2.2.2.2⟩
 have loop:∀tk,codeAny (model X.prog X.w) X.A (.compLoop (.ListComp elt [⟨tg,iter,ifs,0⟩] scope pos) 0 (.ref it) (.ref s₂.heap.objs.size) (compEnvC scope (cellsFrom (s₃.heap.objs.size+1) scope.names (GZ X.env.cells scope.names [])) s₃.heap.objs.size X.env)) (RR (.ref s₂.heap.objs.size) s₃.heap.objs.size) {s₃ with heap:=h₁,toks:=tk}:=λtk=>
  VX (X':=Iv X N' scope s₃ (upd H₂ s₂.heap.objs.size (.lst [])) fp) (D:=s₂.heap.objs.size) (Q:=Q) (W:=W) rfl rfl rfl T noX bg bt be turn fin ⟨0,_,_,_,I4 tk,st4,λb hb=>(f3 b hb).1,w0⟩
 rw[es]
 exact codeAny_compStart_list (loop _) (T.self _ 0 _ _ _ st4 (loop _))
theorem bO{wi:TI}(hc:X.calm=true)(S:Aa X.N X.env.scope N' ix scope)(hi:PI X tg iter wi)(hb:Block X N' scope tg ifs elt g tc te)(hs:∀x,foldedSetIterable iter X.env x=pure x:=by intro _;rfl):PE X (.ListComp elt [⟨tg,iter,ifs,0⟩] scope pos) (Zj ix wi g tc te):=by
 intro pins s σ H Q I h
 rw[eval_ListComp]
 refine uH (use:=nD) rfl hs (PC (I.cellsOf S)) S.kind S.names (thn (hi pins s σ H _ I h) λv s1 h1=>thn h1 λitv s2 h2=>?_)
 obtain⟨it,fp,tn,J,H2,e,I2,T,st2,f2,hW⟩:=h2
 subst e
 refine SD (RR:=λacc C=>compPost (model X.prog X.w) X.A X.xe nD (EP X pins σ Q) acc C) hc S hb I2 T st2 f2 hW ?_
 intro D C H' s' I' hm hC q
 obtain⟨m,hm⟩:=hm
 refine⟨m,hm,λh' hs'=>⟨.ref D,H',I'.turned (it:=C) (t':=s'.toks) (λb o hb e=>hs'.extBut b o hb e) hC.1 hC.2.1 hC.2.2.2.1 hC.2.2.2.2.1 hC.2.2.2.2.2,rfl,q⟩⟩
end
end L2
end
noncomputable section
namespace L2
open PySem PySem.Spec PyProof.Rows
section
variable{X:Cx}{N':Gc Str}{ix:Gc (nG Nat)}{scope:pJ}{elt tg iter:oA}{ifs:Gc oA}{pos spos py:Pos}{g:TG}{tc:TT}{te:TE}{wi:TI}{i:Nat}{y:Str}
theorem TZ(hc:X.calm=true)(hN:X.N.Nodup)(hi':X.N[i]?=Fk y)(hx:X.env.scope.names.lookup y=Fk .local)(S:Aa X.N X.env.scope N' ix scope)(hi:PI X tg iter wi)(hb:Block X N' scope tg ifs elt g tc te)(hsw:swapsWith (.ListComp elt [⟨tg,iter,ifs,0⟩] scope pos) (Fk (.Name y py)) spos.line X.env=pure true:=by rfl)(hs:∀x,foldedSetIterable iter X.env x=pure x:=by intro _;rfl):PS X (.Assign [.Name y py] (.ListComp elt [⟨tg,iter,ifs,0⟩] scope pos) spos) (iR (Zj ix wi g tc te) (Z5 i)):=by
 intro pins s σ H D I h
 rw[exec_Assign_Name_used _ _ _ _ hsw]
 refine nC (rQ (nC ?_))
 show wpAny _ X.A (do let _<-comprehension (.ListComp elt [⟨tg,iter,ifs,0⟩] scope pos) scope X.env _ (newList []) false (eval iter X.env) (Fk (assign (.Name y py) X.env))) _ _ s
 refine nC (pW (uH (use:=Fk (assign (.Name y py) X.env)) (Q:=λ_ s'=>SP X pins D .next s') rfl hs (PC (I.cellsOf S)) S.kind S.names
  (thn (hi pins s σ H _ I h) λv s1 h1=>thn h1 λitv s2 h2=>?_)) (λ_ s' hq=>ng (ng hq)) λ_ _ e=>e)
 obtain⟨it,fp,tn,J,H2,e,I2,T,st2,f2,hW⟩:=h2
 subst e
 refine SD (RR:=λacc C=>compPost (model X.prog X.w) X.A X.xe (Fk (assign (.Name y py) X.env)) (λ_ s'=>SP X pins D .next s') acc C) hc S hb I2 T st2 f2 hW ?_
 intro L C H' s' I' hm hC q
 obtain⟨m,hm⟩:=hm
 show wpAny _ X.A (assign (.Name y py) X.env (.ref L)) _ _ _
 refine vp (QJ I' hN hi' (.inl hx) (v:=.ref L) rfl (λs'' I'' ⟨a,sb,ha⟩=>?_) (.inr hx))
 have hCa:C≠a:=by
  rcases ha with rfl|ha
  .exact hC.2.1
  .exact pb (hC.2.2.2.2.1 y a ha)
 refine⟨m,hm.sameBut sb hCa,λh' hs'=>?_⟩
 exact⟨_,H',I''.turned (it:=C) (t':=s''.toks) (λb o hb e=>hs'.extBut b o hb e) hC.1 hC.2.1 hC.2.2.2.1 hC.2.2.2.2.1 hC.2.2.2.2.2,q⟩
end
end L2
end
noncomputable section
namespace L2
open PySem PySem.Spec PyProof.Rows
section
variable{κ:Type} [wu κ]
noncomputable def putK(kvs:Gc (κ×V))(k:κ)(v:V):Gc (κ×V):=
 if(kvs.any λkv=>decide (kv.1=k))=true then kvs.map (λkv=>if kv.1=k then(kv.1,v)else kv)else kvs++[(k,v)]
theorem Qs(kvs:Gc (κ×V))(k:κ)(v:V):(putK kvs k v).length<=kvs.length+1:=by
 unfold putK
 split
 .rw[oa];lia
 .rw[pI,pD,rX];lia
theorem KV.any{kvs:Gc (κ×V)}{vs:Gc (κ×Wp)}(r:KV kvs vs)(k:κ):(kvs.any λkv=>decide (kv.1=k))=vs.any λkv=>decide (kv.1=k):=by
 unfold KV at r
 induction r with
 |nil=>rfl
 |cons h t ih=>rw[qU,qU,ih,h.1]
theorem KV.eM{kvs:Gc (κ×V)}{vs:Gc (κ×Wp)}(r:KV kvs vs)(k:κ){y:V}{u:Wp}(ry:RelV y u):KV (kvs.map λkv=>if kv.1=k then(kv.1,y)else kv) (vs.map λkv=>if kv.1=k then(kv.1,u)else kv):=by
 unfold KV at r⊢
 induction r with
 |nil=>exact .nil
 | @cons p q ps qs h t ih=>
   rw[oG,oG]
   refine .cons ?_ ih
   obtain⟨h1,h2⟩:=h
   by_cases e:p.1=k
   .rw[oP e,oP (h1.symm.trans e)];exact⟨h1,ry⟩
   .rw[oU e,oU (λz=>e (h1.trans z))];exact⟨h1,h2⟩
theorem KV.put{kvs:Gc (κ×V)}{vs:Gc (κ×Wp)}(r:KV kvs vs)(k:κ){y:V}{u:Wp}(ry:RelV y u):KV (putK kvs k y) (stored vs k u):=by
 unfold putK stored
 rw[r.any k]
 by_cases e:(vs.any λkv=>decide (kv.1=k))=true
 .rw[oP e,oP e];exact r.eM k ry
 .rw[oU e,oU e];exact Paired.snoc r ⟨rfl,ry⟩
end
theorem cM{P:nv}{w:oM}{k:Key}{u:Wp}(r:RelV (kV k) u):(Dw P w).is k u=true:=by
 cases k with
 |inl i=>obtain⟨t,e⟩:=(show∃t,u=uN i t from r);subst e;exact Qw P w i t
 |inr x=>obtain⟨t,e⟩:=(show∃t,u=uO x t from r);subst e;exact RM P w x t
theorem Pq{P:nv}{w:oM}:∀{ks:Gc Key} {us:Gc Wp},Vals (ks.map kV) us->ItemsAre (Dw P w) ks us
 | [],_,r=>by rw[qB]at r;cases r;exact .nil
 |k::ks,_,r=>by
  rw[oG]at r
  cases r with
  |cons h t=>exact .cons (cM h) (Pq t)
abbrev KT(H:Hp):Gc (Gc Key×V)->Gc (Gc Key×nI×Wp)->Prop:=Paired λp q=>p.1=q.1/\H q.2.1=Fk (.tup (p.1.map kV))/\RelV p.2 q.2.2
section
variable{P:nv}{w:oM}{H:Hp}{h:oE}{a:nI}
theorem eG{u:HO}(ok:HOk P w H h)(e:Rd H a u):Ds P w H h a u:=e.ok ok
theorem iD{kvs:Gc (Key×V)}(ok:HOk P w H h)(e:Rd H a (.dK kvs)):kvs.length<=sizeLine/\(a==sysModules)=false/\∃vs,KV kvs vs/\h.DictOf (Dw P w) a vs:=
 show Ds P w H h a (.dK kvs)from eG ok e
theorem jB{kvs:Gc (Key×V)}(ok:HOk P w H h)(e:H a=Fk (.dK kvs)):kvs.length<=sizeLine/\(a==sysModules)=false/\∃vs,KV kvs vs/\h.DictOf (Dw P w) a vs:=iD ok (.inl e)
theorem eB{ks:Gc Key}(ok:HOk P w H h)(e:H a=Fk (.tup (ks.map kV))):(tupleKind (Dw P w)).is h ks a:=by
 obtain⟨_,its,r,o,h1,h2,n,h3⟩:=(show Ds P w H h a (.tup (ks.map kV))from ok a _ e)
 exact⟨o,its.toArray,n,h1,h2,h3,by simpa using Pq r⟩
theorem jb{kvs:Gc (Gc Key×V)}(ok:HOk P w H h)(e:Rd H a (.dT kvs)):kvs.length<=sizeLine/\(a==sysModules)=false/\∃xs,KT H kvs xs/\h.DictOfH (tupleKind (Dw P w)) a xs:=by
 obtain⟨z,y,xs,r,o,es,ep,h1,h2,h3,h4,h5⟩:=(show Ds P w H h a (.dT kvs)from eG ok e)
 refine⟨z,y,xs,r,o,es,ep,h1,h2,h3,h4,λx hx=>?_,h5⟩
 have all:∀{l:Gc (Gc Key×V)} {m:Gc (Gc Key×nI×Wp)},KT H l m->∀x∈m,(tupleKind (Dw P w)).is h x.1 x.2.1:=by
  intro l m q
  induction q with
  |nil=>intro x hx;exact nomatch hx
  | @cons p q ps qs hq t ih=>
    intro x hx
    rcases nO.mp hx with e|hx
    .subst e
     exact eB ok (by rw[<-hq.1];exact hq.2.1)
    .exact ih x hx
 exact all r x hx
theorem Zc{kvs:Gc (Gc Key×V)}(ok:HOk P w H h)(e:H a=Fk (.dT kvs)):kvs.length<=sizeLine/\(a==sysModules)=false/\∃xs,KT H kvs xs/\h.DictOfH (tupleKind (Dw P w)) a xs:=jb ok (.inl e)
end
section
variable{X:Cx}{pins:Gc (nI×Obj)}{σ:St}{H:Hp}{s:nE}{a:nI}{y v:V}{u r:Wp}{o:nG V}{A:oN}{E:Wp->nE->Prop}
theorem Inv.big(I:Inv X pins σ H s):sysModules<s.heap.objs.size:=by
 have h:mainGlobals<s.heap.objs.size:=(I.mod.glob.keeps I.bk).lt
 exact yu (by decide) h
theorem Zu{h':oE}{t':Nat}{ob:HO}(I:Inv X pins σ H s)(mu:Mut (H a))(hs:rm a s.heap h')(he:∃q,h'.get? a=Fk q)(new:Ds X.prog X.w (upd H a ob) h' a ob):Inv X pins σ (upd H a ob) {s with heap:=h',toks:=t'}:=
 I.write (x:=a) (e:=a) mu (.inl rfl) (λb q hb z=>(hs.2 b hb).trans z) he new
theorem cB{P:nv}{w:oM}{H':Hp}{h':oE}{kvs:Gc (Key×V)}{vs:Gc (Key×Wp)}(z:kvs.length<=sizeLine)(hd:(a==sysModules)=false)(rel:KV kvs vs)(dd:h'.DictOf (Dw P w) a vs):Ds P w H' h' a (.dK kvs):=⟨z,hd,vs,rel,dd⟩
end
section
variable{X:Cx}{pins:Gc (nI×Obj)}{σ:St}{H:Hp}{s:nE}{a:nI}{kvs:Gc (Key×V)}{k:Key}{u:Wp}{A:oN}{E:Wp->nE->Prop}
end
section
variable{X:Cx}{o i e value:oA}{pos pos' tpos:Pos}{td ty tv:TE}
end
theorem X3{P:nv}{w:oM}{H:Hp}(h:oE)(hb:sysModules<h.objs.size):Ds P w H (h.push {cls:=.type "dict",data:=.dict #[]}) h.objs.size (.dK []):=
 ⟨qv _,vR.mpr (pb (oH hb)),[],.nil,Heap.DictOf.new h⟩
section
variable{X:Cx}{pos:Pos}
end
def Rw:Gc (TE×TE)->St->Hp->(Gc (V×V)->Hp->Prop)->Prop
 | [],_,H,Q=>Q [] H
 |(tk,tv)::r,σ,H,Q=>tk σ H λx H1=>tv σ H1 λy H2=>Rw r σ H2 λps H3=>Q ((x,y)::ps) H3
abbrev VV:Gc (V×V)->Gc (Wp×Wp)->Prop:=Paired λp q=>RelV p.1 q.1/\RelV p.2 q.2
def PPs(X:Cx)(pos:Pos)(keys:Gc (nG oA))(values:Gc oA)(trs:Gc (TE×TE)):Prop:=
 ∀(pins:Gc (nI×Obj)) (s:nE) (σ:St) (H:Hp) (Q:Gc (V×V)->Hp->Prop),Inv X pins σ H s->Rw trs σ H Q->
  wpAny (model X.prog X.w) X.A (evalPairs (pairTrees keys values X.env pos)) (λvs s'=>∃ps H',Inv X pins σ H' s'/\VV ps vs/\Q ps H') X.xe s
theorem bH{X:Cx}{pos:Pos}:PPs X pos [] [] []:=λpins s σ H Q I h=>pairTrees_nil_walk ⟨[],H,I,.nil,h⟩
theorem Xk{X:Cx}{pos:Pos}{k v:oA}{ks:Gc (nG oA)}{vs:Gc oA}{tk tv:TE}{trs:Gc (TE×TE)}(hk:PE X k tk)(hv:PE X v tv)(hr:PPs X pos ks vs trs):PPs X pos (Fk k::ks) (v::vs) ((tk,tv)::trs):=λpins s σ H Q I h=>
 pairTrees_cons_walk (thn (hk pins s σ H _ I h) λu s1 ⟨x,H1,I1,rx,q1⟩=>thn (hv pins s1 σ H1 _ I1 q1) λw2 s2 ⟨y,H2,I2,ry,q2⟩=>
  thn (hr pins s2 σ H2 _ I2 q2) λws s3 ⟨ps,H3,I3,rel,q3⟩=>⟨(x,y)::ps,H3,I3,.cons ⟨rx,ry⟩ rel,q3⟩)
noncomputable def MY(kvs more:Gc (Key×V)):Gc (Key×V):=more.foldl (λacc kv=>putK acc kv.1 kv.2) kvs
theorem KV.merge:∀{more:Gc (Key×V)} {rs:Gc (Key×Wp)} {kvs:Gc (Key×V)} {vs:Gc (Key×Wp)},KV more rs->KV kvs vs->KV (MY kvs more) (merged vs rs):=by
 intro more rs kvs vs r
 unfold KV at r
 induction r generalizing kvs vs with
 |nil=>intro q;exact q
 | @cons p q ps qs h t ih=>
   intro r0
   have e:KV (putK kvs p.1 p.2) (stored vs q.1 q.2):=by
    have:=r0.put p.1 h.2
    rw[<-h.1];exact this
   exact ih e
theorem KQ:∀(more kvs:Gc (Key×V)),(MY kvs more).length<=kvs.length+more.length
 | [],kvs=>by show kvs.length<=kvs.length+0;lia
 |p::r,kvs=>by
  have h1:=KQ r (putK kvs p.1 p.2)
  have h2:=Qs kvs p.1 p.2
  show(MY (putK kvs p.1 p.2) r).length<=_
  rw[pD];lia
theorem OD{P:nv}{w:oM}:∀{kvs:Gc (Key×V)} {ws:Gc (Wp×Wp)},VV (kvs.map λkv=>(kV kv.1,kv.2)) ws->∃rs,Carries (Dw P w) ws rs/\KV kvs rs
 | [],_,r=>by rw[qB]at r;cases r;exact⟨[],sT,.nil⟩
 |p::kvs,_,r=>by
  rw[oG]at r
  cases r with
  | @cons a b as bs h t=>
    obtain⟨rs,c,q⟩:=OD (P:=P) (w:=w) t
    obtain⟨b1,b2⟩:=b
    exact⟨(p.1,b2)::rs,⟨cM h.1,rfl,c⟩,.cons ⟨rfl,h.2⟩ q⟩
noncomputable def g9(trs:Gc (TE×TE)):TE:=λσ H Q=>∀p,H p=nD->Rw trs σ (upd H p (.dK [])) λps H2=>H2 p=Fk (.dK [])/\∃kvs:Gc (Key×V),ps=kvs.map (λkv=>(kV kv.1,kv.2))/\kvs.length<=15/\Q (.ref p) (upd H2 p (.dK (MY [] kvs)))
theorem Zf{X:Cx}{pos:Pos}{keys:Gc (nG oA)}{values:Gc oA}{trs:Gc (TE×TE)}(h:PPs X pos keys values trs)(hall:keys.all (·.isSome)=true)(hl:keys.length=values.length)(h0:keys≠[])(h15:keys.length<=15):PE X (.Dict keys values pos) (g9 trs):=by
 intro pins s σ H Q I q
 have hn:=I.hok.fresh (nS s.heap.objs.size)
 have I1:=I.laid (a:=s.heap.objs.size) (o:=.dK []) (h':=s.heap.push {cls:=.type "dict",data:=.dict #[]}) (t':=s.toks) (λ_ _ q=>W1 _ q) (nS _) (X3 s.heap I.big)
 refine wpAny_Dict_walk (knd:=Dw X.prog X.w) hall hl h0 h15 (thn (h pins _ σ _ _ I1 (q _ hn)) λws s2 ⟨ps,H2,I2,rel,e,kvs,ep,lk,q2⟩=>?_)
 subst ep
 obtain⟨rs,c,rk⟩:=OD (P:=X.prog) (w:=X.w) rel
 obtain⟨z,hd,vs0,r0,dd⟩:=jB I2.hok e
 cases r0
 refine⟨rs,c,dd,λh' dd' hs=>⟨.ref s.heap.objs.size,_,?_,rfl,q2⟩⟩
 have hz:(MY [] kvs).length<=sizeLine:=by
  have h1:=KQ kvs []
  rw[rX]at h1
  rw[zc];lia
 have he:∃q,h'.get? s.heap.objs.size=Fk q:=let⟨q,_,_,hq,_⟩:=dd';⟨q,hq⟩
 exact Zu I2 (by rw[e];exact sT) hs he (cB hz hd (rk.merge .nil) dd')
structure M1(X:Cx)(o:oA)(m:Str)(apos:Pos)(e:oA)(cpos:Pos):Prop where
 base:attributeBase o m X.env (eval o X.env)=eval o X.env
 few:((backTo cpos (nk [e] X.env)).all (λx=> !x.1) && (backToKw cpos (keywordEach [] X.env)).all (λx=>x.1.isSome)
  && decide (([e]:Gc oA).length+([]:Gc uA).length+(if([]:Gc uA).isEmpty then 0 else 1)<30))=true
 line:(apos.endLine==cpos.line)=true
 trees:backTo cpos (nk [e] X.env)=[(false,eval e X.env)]
structure M2(X:Cx)(o:oA)(m:Str)(apos:Pos)(e f:oA)(cpos:Pos):Prop where
 base:attributeBase o m X.env (eval o X.env)=eval o X.env
 few:((backTo cpos (nk [e,f] X.env)).all (λx=> !x.1) && (backToKw cpos (keywordEach [] X.env)).all (λx=>x.1.isSome)
  && decide (([e,f]:Gc oA).length+([]:Gc uA).length+(if([]:Gc uA).isEmpty then 0 else 1)<30))=true
 line:(apos.endLine==cpos.line)=true
 trees:backTo cpos (nk [e,f] X.env)=[(false,eval e X.env),(false,eval f X.env)]
def IsD(H:Hp)(a:nI):Prop:=(∃kvs,Rd H a (.dK kvs))\/∃kvs,Rd H a (.dT kvs)
section
variable{X:Cx}{pins:Gc (nI×Obj)}{σ:St}{H:Hp}{s:nE}{a:nI}{y d:V}{u r:Wp}{o:nG V}{A:oN}{E:Wp->nE->Prop}
end
section
variable{X:Cx}{o e f:oA}{apos cpos:Pos}{td ty tx:TE}
end
section
variable{X:Cx}{pins:Gc (nI×Obj)}{σ:St}{H:Hp}{s:nE}{a:nI}{kvs:Gc (Key×V)}{A:oN}{E:Wp->nE->Prop}
end
section
variable{X:Cx}{pins:Gc (nI×Obj)}{σ:St}{H:Hp}{s:nE}{a:nI}{y:V}{u:Wp}{A:oN}{E:Wp->nE->Prop}
end
end L2
end
noncomputable section
namespace L2
open PySem PySem.Spec PyProof.Rows
section
variable{prog:nv}{w:oM}{A:oN}{E:Wp->nE->Prop}{s:nE}
theorem Th{h:oE}{it t:nI}{i:Nat}{o:Obj}(ho:h.get? it=Fk o)(hc:o.cls=.type "tuple_iterator")(hd:o.data=.fields #[.ref t,.int i 0]){h':oE}(e:h'=h.update it (λo=>o.mapFields λa=>a.setIfInBounds 1 (rawInt ((i:Int)+1)))):h'.IsTupleIter it t (i+1):=by
 subst e
 have d:=Obj.data_mapFields hd λa=>a.setIfInBounds 1 (rawInt ((i:Int)+1))
 refine⟨_,uz _ ho (Obj.isFreed_of_fields d),?_,?_⟩
 .rw[Obj.cls_mapFields];exact hc
 .rw[d];simp[rawInt]
theorem XR{it t:nI}{i:Nat}{items:pE Wp}{x:Wp}{Q:Wp->nE->Prop}(hit:s.heap.IsTupleIter it t i)(ht:s.heap.IsTuple t items)(hx:items[i]?=Fk x)(hQ:∀h',h'.IsTupleIter it t (i+1)->rm it s.heap h'->Q x {s with heap:=h'}):wpAny (model prog w) A (oO (.ref it)) Q E s:=by
 obtain⟨⟨c,dd,dt,sl⟩,ho,hc,hd⟩:=id hit
 obtain⟨⟨c2,dd2,dt2,sl2⟩,ho2,hc2,n2,hd2⟩:=id ht
 simp only at hc hd hc2 hd2
 subst hc hd hc2 hd2
 unfold oO
 refine nC (pv (name:=pk "__next__") hit.typeIs qX (qF qX hit.typeIs tJ ?_ (so _)))
 unfold tK.«tuple_iterator.__next__»
 wp_walk using ny ho,ny ho2
 have e:items[(i:Int).toNat]?=Fk x:=by rw[sE];exact hx
 rw[e]
 refine nC (xV ho rfl (by simp) ?_)
 exact ng ⟨x,rfl,ng (hQ _ (Th ho rfl rfl rfl) (vU ..))⟩
theorem WR{it t:nI}{i:Nat}{items:pE Wp}{Q:Wp->nE->Prop}(hh:A.handled=nD)(hit:s.heap.IsTupleIter it t i)(ht:s.heap.IsTuple t items)(hx:items[i]?=nD)(hE:∀h' e,uD it s.heap h'->(∃o,h'.get? e=Fk o/\o.cls=.type "StopIteration")->E (.ref e) {s with heap:=h'}):wpAny (model prog w) A (oO (.ref it)) Q E s:=by
 obtain⟨⟨c,dd,dt,sl⟩,ho,hc,hd⟩:=id hit
 obtain⟨⟨c2,dd2,dt2,sl2⟩,ho2,hc2,n2,hd2⟩:=id ht
 simp only at hc hd hc2 hd2
 subst hc hd hc2 hd2
 unfold oO
 refine nC (pv (name:=pk "__next__") hit.typeIs qX (qF qX hit.typeIs tJ ?_ (so _)))
 unfold tK.«tuple_iterator.__next__»
 wp_walk using ny ho,ny ho2
 have e:items[(i:Int).toNat]?=none:=by rw[sE];exact hx
 rw[e]
 refine nC (ub (nC (xV ho rfl (by simp) ?_)))
 have hh1:A.in1.handled=none:=hh
 unfold wB
 simp only[newExc,newTuple,raiseNew]
 wp_walk
 refine hE _ _ ?_ ⟨_,nq _ rfl,rfl⟩
 have a:=(vU (a:=it) (h:=s.heap) (f:=Obj.mapFields λx=>x.setIfInBounds 0 pN)).extBut
 exact(a.push _).push _
theorem T8(l:nI)(items:pE Wp)(n:Nat)(dct:nG nI)(sl:pE (nG Wp)):Meets (tK.«enumerate.__new__» ⟨[.type "enumerate",.ref l],[]⟩) (λ_ R s=>s.heap.get? l=Fk {cls:=.type "tuple",dict:=dct,data:=.seq items n,slots:=sl}/\R (.ok (.ret (.ref (s.heap.objs.size+1)))) {s with heap:=(s.heap.push {cls:=.type "tuple_iterator",data:=.fields #[.ref l,.int 0 0]}).push {cls:=.type "enumerate",data:=.fields #[.none,.bool false,.ref s.heap.objs.size,rawInt 0,.none,.none]}}):=
 .of_wp λprog w A R s h=>by
  obtain⟨hp,g,d,tk,os⟩:=s
  obtain⟨hl,h⟩:=h
  have hsub:=sub_enumerate
  have hT:tL (qi ⟨hp,g,d,tk,os⟩) l items:=⟨_,hl,rfl,n,rfl⟩
  wp_walk using ny hl
  refine wpAny_stack_any λst=>ng ?_
  split
  .rename_i c _ _ _ _ _
   cases (c==ua "enumerate")<;>(wp_walk using ny hl,qG hT)<;>(refine⟨_,rfl,?_⟩;rw[pR];exact h)
  .wp_walk using ny hl,qG hT
   refine⟨_,rfl,?_⟩
   rw[pR]
   exact h
theorem Sj{l:nI}{items:pE Wp}{Q:Wp->nE->Prop}(hT:s.heap.IsTuple l items)(h:∀h',IsEnum h' (s.heap.objs.size+1) s.heap.objs.size 0 .none->h'.IsTupleIter s.heap.objs.size l 0->(∀b o,s.heap.get? b=Fk o->h'.get? b=Fk o)->Q (.ref (s.heap.objs.size+1)) {s with heap:=h'}):wpAny (model prog w) A (call (.type "enumerate") [.ref l]) Q E s:=by
 obtain⟨⟨c,dct,dt,sl⟩,hl,hc,n,hd⟩:=hT
 simp only at hc hd
 subst hc hd
 refine yv F.called_enumerate (by decide) (F.typeCall_enumerate_1 _) (F.newCall_enumerate_1 _) (λobj=>F.args_object_init_2 obj _) F.entry_enumerate_new (T8 l items n dct sl) ⟨hl,?_⟩
 have z:=nq (s.heap.push {cls:=.type "tuple_iterator",data:=.fields #[.ref l,.int 0 0]}) (o:={cls:=.type "enumerate",data:=.fields #[.none,.bool false,.ref s.heap.objs.size,rawInt 0,.none,.none]}) rfl
 rw[pR]at z
 exact⟨⟨_,z,rfl⟩,h _ z ⟨_,W1 _ (nq _ rfl),rfl,rfl⟩ λb o x=>W1 _ (W1 _ x)⟩
end
section
variable{X:Cx}
end
end L2
end
noncomputable section
namespace L2
open PySem PySem.Spec PyProof.Rows
structure TopD(K:KE)(w:oM)(a:nI)(kvs:Gc (Str×V)):Prop where
 ex:∃(es:pE DictEntry) (n:Nat),K.lookup a=Fk ⟨.type "dict",nD,.dict es n, #[]⟩/\PySem.W.KeysLit w.params es.toList/\(a==sysModules)=false/\∀x,gI (kvs.lookup x) (findBy vX es x)
section
variable{X:Cx}
end
end L2
end
noncomputable section
namespace L2
open PySem PySem.Spec PyProof.Rows
def SIt(h:oE)(j l:nI)(i:Nat)(its:pE Wp):Prop:=(h.IsListIter j l i/\h.IsList l its)\/(h.IsTupleIter j l i/\h.IsTuple l its)
section
variable{prog:nv}{w:oM}{A:oN}{E:Wp->nE->Prop}{s:nE}{h h':oE}{j l:nI}{i:Nat}{its:pE Wp}
theorem SIt.at(q:SIt h j l i its)(k1:∀o,h.get? j=Fk o->h'.get? j=Fk o)(k2:∀o,h.get? l=Fk o->h'.get? l=Fk o):SIt h' j l i its:=by
 rcases q with⟨a,b⟩|⟨a,b⟩
 .exact .inl ⟨a.at k1,b.at k2⟩
 .exact .inr ⟨a.at k1,let⟨o,e,r⟩:=b;⟨o,k2 o e,r⟩⟩
theorem SIt.but{c:nI}(q:SIt h j l i its)(sb:uD c h h')(n1:j≠c)(n2:l≠c):SIt h' j l i its:=q.at (λo e=>sb _ o n1 e) λo e=>sb _ o n2 e
theorem SIt.live(q:SIt h j l i its):∃o,h.get? j=Fk o/\∀v,o.data≠.cell v:=by
 rcases q with⟨⟨o,a,b,c⟩,_⟩|⟨⟨o,a,b,c⟩,_⟩
 .exact⟨o,a,λv z=>by rw[c]at z;cases z⟩
 .exact⟨o,a,λv z=>by rw[c]at z;cases z⟩
theorem SIt.ne(q:SIt h j l i its):l≠j:=by
 rcases q with⟨⟨o,a,b,_⟩,⟨o2,a2,b2,_⟩⟩|⟨⟨o,a,b,_⟩,⟨o2,a2,b2,_⟩⟩
 .intro z;subst z;rw[a]at a2;cases a2;rw[b]at b2;injection b2 with q;exact absurd q (by decide)
 .intro z;subst z;rw[a]at a2;cases a2;rw[b]at b2;injection b2 with q;exact absurd q (by decide)
theorem Lz{x:Wp}{Q:Wp->nE->Prop}(q:SIt s.heap j l i its)(hx:its[i]?=Fk x)(k:∀h',SIt h' j l (i+1) its->rm j s.heap h'->Q x {s with heap:=h'}):wpAny (model prog w) A (oO (.ref j)) Q E s:=by
 have n:=q.ne
 rcases q with⟨a,b⟩|⟨a,b⟩
 .exact wpAny_nextOf_list_item a b hx λh' a' sb=>k h' (.inl ⟨a',b.extBut sb.extBut n⟩) sb
 .exact XR a b hx λh' a' sb=>k h' (.inr ⟨a',let⟨o,e,r⟩:=b;⟨o,sb.extBut _ o n e,r⟩⟩) sb
theorem Lv{Q:Wp->nE->Prop}(hh:A.handled=nD)(q:SIt s.heap j l i its)(hx:its[i]?=nD)(k:∀h' e,uD j s.heap h'->(∃o,h'.get? e=Fk o/\o.cls=.type "StopIteration")->E (.ref e) {s with heap:=h'}):wpAny (model prog w) A (oO (.ref j)) Q E s:=by
 rcases q with⟨a,b⟩|⟨a,b⟩
 .exact wpAny_nextOf_list_end hh a b hx k
 .exact WR hh a b hx k
theorem Ur{z ti tt j1 j2 l1 l2:nI}{m:Nat}{xs ys:pE Wp}{x y u1 u2:Wp}{Q:Wp->nE->Prop}(D:wC z ti tt j1 j2 l1 l2)(oz:tY s.heap z ti tt .none)(oi:ql s.heap ti (.ref j1) (.ref j2))(ot:ql s.heap tt u1 u2)(q1:SIt s.heap j1 l1 m xs)(q2:SIt s.heap j2 l2 m ys)(ex:xs[m]?=Fk x)(ey:ys[m]?=Fk y)(k:∀h',tY h' z ti tt (rawInt s.heap.objs.size)->ql h' tt x y->SIt h' j1 l1 (m+1) xs->SIt h' j2 l2 (m+1) ys->ql h' s.heap.objs.size x y->(∀c o,c≠z->c≠tt->c≠j1->c≠j2->s.heap.get? c=Fk o->h'.get? c=Fk o)->Q (.ref s.heap.objs.size) {s with heap:=h'}):wpAny (model prog w) A (tK.«zip.__next__» ⟨[.ref z],[]⟩) (λfin s'=>∃v,fin=.done (.ret v)/\Q v s') E s:=by
 show wpAny _ _ (field (.ref z) 2 >>= _) _ _ _
 refine nC (qN oz rfl (x:=.bool false) rfl ?_)
 show wpAny _ _ (field (.ref z) 3 >>= _) _ _ _
 refine nC (qN oz rfl (x:=.ref ti) rfl (nC (rF oi rfl ?_)))
 show wpAny _ _ (pZ (.ref z) >>= _) _ _ _
 refine nC ?_
 unfold pZ
 refine nC (qN oz rfl (x:=.none) rfl (ng ?_))
 simp only[sd]
 refine nC (ub (nC (qN oz rfl (x:=.ref tt) rfl (nC (qY oz (by simp) λg1 oz1 b1=>?_)))))
 have oz1:tY g1 z ti tt .ellipsis:=oz1
 refine nC ?_
 simp only[wc,xF,uu,vD]
 refine nC (nC (uI ?_))
 show wpAny _ _ (oO (.ref j1) >>= _) _ _ _
 refine nC (Lz (q1.but b1.extBut D.i1z D.l1z) ex λg2 q12 b2=>ng ?_)
 have ot2:ql g2 tt u1 u2:=b2.extBut _ _ D.TOi1 (b1.extBut _ _ D.TOz ot)
 refine nC (rF ot2 rfl (nC (si ot2 λg3 ot3 b3=>?_)))
 have ot3:ql g3 tt x u2:=ot3
 refine nC (xA (ng (nC (nC (uI ?_)))))
 show wpAny _ _ (oO (.ref j2) >>= _) _ _ _
 refine nC (Lz (((q2.but b1.extBut D.i2z D.l2z).but b2.extBut D.i12.symm D.l2i1).but b3.extBut D.TOi2.symm D.l2TO) ey λg4 q24 b4=>ng ?_)
 have ot4:ql g4 tt x u2:=b4.extBut _ _ D.TOi2 ot3
 refine nC (rF ot4 rfl (nC (si ot4 λg5 ot5 b5=>?_)))
 have ot5:ql g5 tt x y:=ot5
 refine nC (xA (ng (ng (nC (rF ot5 rfl (nC (wpAny_newTuple ?_)))))))
 have sz:g5.objs.size=s.heap.objs.size:=by rw[b5.1,b4.1,b3.1,b2.1,b1.1]
 have oz5:tY g5 z ti tt .ellipsis:=b5.extBut _ _ D.TOz.symm (b4.extBut _ _ D.i2z.symm (b3.extBut _ _ D.TOz.symm (b2.extBut _ _ D.i1z.symm oz1)))
 have k5:∀c o,c≠z->c≠tt->c≠j1->c≠j2->s.heap.get? c=Fk o->g5.get? c=Fk o:=λc o c1 c2 c3 c4 e=>b5.extBut _ _ c2 (b4.extBut _ _ c4 (b3.extBut _ _ c2 (b2.extBut _ _ c3 (b1.extBut _ _ c1 e))))
 have q15:SIt g5 j1 l1 (m+1) xs:=((q12.but b3.extBut D.TOi1.symm D.l1TO).but b4.extBut D.i12 D.l1i2).but b5.extBut D.TOi1.symm D.l1TO
 have q25:SIt g5 j2 l2 (m+1) ys:=q24.but b5.extBut D.TOi2.symm D.l2TO
 have zlt:z<g5.objs.size:=nj oz5
 show wpAny _ _ (rP (.ref z) (.ref g5.objs.size) >>= _) _ _ _
 refine nC ?_
 unfold rP
 have oz6:tY (g5.push {cls:=.type "tuple",data:=.seq #[x,y]}) z ti tt .ellipsis:=W1 _ oz5
 refine nC (qY oz6 (by simp) λg7 oz7 b7=>?_)
 have oz7:tY g7 z ti tt (rawInt g5.objs.size):=oz7
 refine qY oz7 (by simp) λg8 oz8 b8=>?_
 have oz8:tY g8 z ti tt (rawInt g5.objs.size):=oz8
 have up:∀c o,c≠z->g5.get? c=Fk o->g8.get? c=Fk o:=λc o c1 e=>b8.extBut _ _ c1 (b7.extBut _ _ c1 (W1 _ e))
 have op8:ql g8 g5.objs.size x y:=b8.extBut _ _ (vt zlt) (b7.extBut _ _ (vt zlt) (nq _ rfl))
 rw[sz]at oz8 op8
 refine ng ⟨_,rfl,?_⟩
 show Q (.ref g5.objs.size) _
 rw[sz]
 exact k g8 oz8 (up _ _ D.TOz ot5) (q15.at (λo e=>up _ o D.i1z e) λo e=>up _ o D.l1z e) (q25.at (λo e=>up _ o D.i2z e) λo e=>up _ o D.l2z e) op8 λc o c1 c2 c3 c4 e=>up c o c1 (k5 c o c1 c2 c3 c4 e)
theorem X4{z ti tt j1 j2 l1 l2:nI}{m:Nat}{xs ys:pE Wp}{u1 u2:Wp}{Q:Fin->nE->Prop}(hh:A.handled=nD)(D:wC z ti tt j1 j2 l1 l2)(oz:tY s.heap z ti tt .none)(oi:ql s.heap ti (.ref j1) (.ref j2))(ot:ql s.heap tt u1 u2)(q1:SIt s.heap j1 l1 m xs)(q2:SIt s.heap j2 l2 m ys)(en:xs[m]?=nD\/ys[m]?=nD)(k:∀h' e,(∀c o,c≠z->c≠tt->c≠j1->c≠j2->s.heap.get? c=Fk o->h'.get? c=Fk o)->(∃o,h'.get? e=Fk o/\o.cls=.type "StopIteration")->E (.ref e) {s with heap:=h'}):wpAny (model prog w) A (tK.«zip.__next__» ⟨[.ref z],[]⟩) Q E s:=by
 show wpAny _ _ (field (.ref z) 2 >>= _) _ _ _
 refine nC (qN oz rfl (x:=.bool false) rfl ?_)
 show wpAny _ _ (field (.ref z) 3 >>= _) _ _ _
 refine nC (qN oz rfl (x:=.ref ti) rfl (nC (rF oi rfl ?_)))
 show wpAny _ _ (pZ (.ref z) >>= _) _ _ _
 refine nC ?_
 unfold pZ
 refine nC (qN oz rfl (x:=.none) rfl (ng ?_))
 simp only[sd]
 refine nC (ub (nC (qN oz rfl (x:=.ref tt) rfl (nC (qY oz (by simp) λg1 oz1 b1=>?_)))))
 have oz1:tY g1 z ti tt .ellipsis:=oz1
 refine nC ?_
 simp only[wc,xF,uu,vD]
 refine nC (nC (uI ?_))
 show wpAny _ _ (oO (.ref j1) >>= _) _ _ _
 cases ex:xs[m]? with
 |none=>
  refine nC (Lv hh (q1.but b1.extBut D.i1z D.l1z) ex λg2 e b2 he=>?_)
  obtain⟨oe,e1,e2⟩:=he
  have oz2:tY g2 z ti tt .ellipsis:=b2 _ _ D.i1z.symm oz1
  have nez:e≠z:=λx=>by subst x;rw[oz2]at e1;cases e1;simp at e2
  exact qY oz2 (by simp) λg3 _ b3=>k g3 e (λc o c1 _ c3 _ x=>b3.extBut _ _ c1 (b2 _ _ c3 (b1.extBut _ _ c1 x))) ⟨oe,b3.extBut _ _ nez e1,e2⟩
 |some x=>
  have ey:ys[m]?=none:=by
   rcases en with z|z
   .rw[ex]at z;cases z
   .exact z
  refine nC (Lz (q1.but b1.extBut D.i1z D.l1z) ex λg2 q12 b2=>ng ?_)
  have ot2:ql g2 tt u1 u2:=b2.extBut _ _ D.TOi1 (b1.extBut _ _ D.TOz ot)
  refine nC (rF ot2 rfl (nC (si ot2 λg3 ot3 b3=>?_)))
  refine nC (xA (ng (nC (nC (uI ?_)))))
  show wpAny _ _ (oO (.ref j2) >>= _) _ _ _
  refine nC (Lv hh (((q2.but b1.extBut D.i2z D.l2z).but b2.extBut D.i12.symm D.l2i1).but b3.extBut D.TOi2.symm D.l2TO) ey λg4 e b4 he=>?_)
  obtain⟨oe,e1,e2⟩:=he
  have oz4:tY g4 z ti tt .ellipsis:=b4 _ _ D.i2z.symm (b3.extBut _ _ D.TOz.symm (b2.extBut _ _ D.i1z.symm oz1))
  have nez:e≠z:=λx=>by subst x;rw[oz4]at e1;cases e1;simp at e2
  exact qY oz4 (by simp) λg5 _ b5=>k g5 e (λc o c1 c2 c3 c4 x=>b5.extBut _ _ c1 (b4 _ _ c4 (b3.extBut _ _ c2 (b2.extBut _ _ c3 (b1.extBut _ _ c1 x))))) ⟨oe,b5.extBut _ _ nez e1,e2⟩
theorem S9{z ti tt j1 j2 l1 l2:nI}{m:Nat}{xs ys:pE Wp}{x y u1 u2:Wp}{Q:nG Wp->nE->Prop}(D:wC z ti tt j1 j2 l1 l2)(oz:tY s.heap z ti tt .none)(oi:ql s.heap ti (.ref j1) (.ref j2))(ot:ql s.heap tt u1 u2)(q1:SIt s.heap j1 l1 m xs)(q2:SIt s.heap j2 l2 m ys)(ex:xs[m]?=Fk x)(ey:ys[m]?=Fk y)(k:∀h',tY h' z ti tt (rawInt s.heap.objs.size)->ql h' tt x y->SIt h' j1 l1 (m+1) xs->SIt h' j2 l2 (m+1) ys->ql h' s.heap.objs.size x y->(∀c o,c≠z->c≠tt->c≠j1->c≠j2->s.heap.get? c=Fk o->h'.get? c=Fk o)->Q (Fk (.ref s.heap.objs.size)) {s with heap:=h'}):wpAny (model prog w) A (pyNext (.ref z)) Q E s:=by
 have ht:s.TypeIs (.ref z) "zip":=⟨_,oz,rfl⟩
 unfold pyNext
 exact nC (yH (pv (name:=pk "__next__") ht su (qF su ht wd
  (Ur D oz oi ot q1 q2 ex ey λh' a1 a2 a3 a4 a5 a6=>ng (k h' a1 a2 a3 a4 a5 a6)) (wD _))))
theorem Vb{z ti tt j1 j2 l1 l2:nI}{m:Nat}{xs ys:pE Wp}{u1 u2:Wp}{Q:nG Wp->nE->Prop}(hh:A.handled=nD)(D:wC z ti tt j1 j2 l1 l2)(oz:tY s.heap z ti tt .none)(oi:ql s.heap ti (.ref j1) (.ref j2))(ot:ql s.heap tt u1 u2)(q1:SIt s.heap j1 l1 m xs)(q2:SIt s.heap j2 l2 m ys)(en:xs[m]?=nD\/ys[m]?=nD)(k:∀h',(∀c o,c≠z->c≠tt->c≠j1->c≠j2->s.heap.get? c=Fk o->h'.get? c=Fk o)->Q nD {s with heap:=h'}):wpAny (model prog w) A (pyNext (.ref z)) Q E s:=by
 have ht:s.TypeIs (.ref z) "zip":=⟨_,oz,rfl⟩
 unfold pyNext
 refine nC (yH (pv (name:=pk "__next__") ht su (qF su ht wd
  (X4 hh D oz oi ot q1 q2 en λh' e kp he=>?_) (wD _))))
 obtain⟨o,e1,e2⟩:=he
 exact nC (wpAny_isInstance (T:="StopIteration") (b:=true) ⟨o,e1,e2⟩ isSubtype_stop (ng (k _ kp)))
end
end L2
end
noncomputable section
namespace L2
open PySem PySem.Spec PyProof.Rows
def NZ(h:oE)(b:oQ)(l:nI)(its:pE Wp):Prop:=match b with|true=>h.IsTuple l its|false=>h.IsList l its
noncomputable def fA:oQ->qo|true=>"tuple_iterator" |false=>"list_iterator"
noncomputable def zh1(h:oE)(b:oQ)(l:nI):oE:=h.push {cls:=.type (fA b),data:=.fields #[.ref l,.int 0 0]}
noncomputable def zh2(h:oE)(b c:oQ)(l m:nI):oE:=zh1 (zh1 h b l) c m
noncomputable def zh3(h:oE)(b c:oQ)(l m:nI):oE:=(zh2 h b c l m).push {cls:=.type "tuple",data:=.seq #[.ref h.objs.size,.ref (zh1 h b l).objs.size]}
noncomputable def zh4(h:oE)(b c:oQ)(l m:nI):oE:=(zh3 h b c l m).push {cls:=.type "tuple",data:=.seq #[.none,.none]}
noncomputable def zh5(h:oE)(b c:oQ)(l m:nI):oE:=(zh4 h b c l m).push {cls:=.type "zip",data:=.fields #[.none,.bool false,.bool false,.ref (zh2 h b c l m).objs.size,.ref (zh3 h b c l m).objs.size]}
theorem NZ.push{h:oE}{b:oQ}{l:nI}{its:pE Wp}(q:NZ h b l its)(o:Obj):NZ (h.push o) b l its:=by
 cases b
 .exact Heap.IsList.push q _
 .obtain⟨u,e,r⟩:=(show h.IsTuple l its from q)
  exact⟨u,W1 _ e,r⟩
theorem YA(b c:oQ)(l m:nI)(xs ys:pE Wp):Meets (tK.«zip.__new__» ⟨[.type "zip",.ref l,.ref m],[]⟩) (λ_ R s=>NZ s.heap b l xs/\NZ s.heap c m ys/\R (.ok (.ret (.ref (zh4 s.heap b c l m).objs.size))) {s with heap:=zh5 s.heap b c l m}):=
 .of_wp λprog w A R s hyp=>by
  obtain⟨hp,gs,dr,tk,os⟩:=s
  obtain⟨i1,i2,hyp⟩:=hyp
  have hsub:=sub_zip
  have i3:NZ (qi ⟨zh1 hp b l,gs,dr,tk,os⟩) c m ys:=NZ.push i2 _
  cases b<;>cases c
  .have a1:vE (qi ⟨hp,gs,dr,tk,os⟩) l xs:=i1
   have a2:vE (qi ⟨hp.push {cls:=.type "list_iterator",data:=.fields #[.ref l,.int 0 0]},gs,dr,tk,os⟩) m ys:=i3
   wp_walk using qO a1,qO a2
   exact⟨_,rfl,hyp⟩
  .have a1:vE (qi ⟨hp,gs,dr,tk,os⟩) l xs:=i1
   have a2:tL (qi ⟨hp.push {cls:=.type "list_iterator",data:=.fields #[.ref l,.int 0 0]},gs,dr,tk,os⟩) m ys:=i3
   wp_walk using qO a1,qG a2
   exact⟨_,rfl,hyp⟩
  .have a1:tL (qi ⟨hp,gs,dr,tk,os⟩) l xs:=i1
   have a2:vE (qi ⟨hp.push {cls:=.type "tuple_iterator",data:=.fields #[.ref l,.int 0 0]},gs,dr,tk,os⟩) m ys:=i3
   wp_walk using qG a1,qO a2
   exact⟨_,rfl,hyp⟩
  .have a1:tL (qi ⟨hp,gs,dr,tk,os⟩) l xs:=i1
   have a2:tL (qi ⟨hp.push {cls:=.type "tuple_iterator",data:=.fields #[.ref l,.int 0 0]},gs,dr,tk,os⟩) m ys:=i3
   wp_walk using qG a1,qG a2
   exact⟨_,rfl,hyp⟩
section
variable{prog:nv}{w:oM}{A:oN}{E:Wp->nE->Prop}{s:nE}
theorem Yo{h h':oE}{b:oQ}{l j:nI}{its:pE Wp}(q:NZ h b l its)(k:∀c o,h.get? c=Fk o->h'.get? c=Fk o)(e:h'.get? j=Fk {cls:=.type (fA b),data:=.fields #[.ref l,.int 0 0]}):SIt h' j l 0 its:=by
 cases b
 .exact .inl ⟨⟨_,e,rfl,rfl⟩,(show h.IsList l its from q).at λo z=>k _ o z⟩
 .exact .inr ⟨⟨_,e,rfl,rfl⟩,let⟨o,z,r⟩:=(show h.IsTuple l its from q);⟨o,k _ o z,r⟩⟩
theorem UQ{b c:oQ}{l m:nI}{xs ys:pE Wp}{Q:Wp->nE->Prop}(i1:NZ s.heap b l xs)(i2:NZ s.heap c m ys)(k:∀h',tY h' (s.heap.objs.size+4) (s.heap.objs.size+2) (s.heap.objs.size+3) .none->ql h' (s.heap.objs.size+2) (.ref s.heap.objs.size) (.ref (s.heap.objs.size+1))->ql h' (s.heap.objs.size+3) .none .none->SIt h' s.heap.objs.size l 0 xs->SIt h' (s.heap.objs.size+1) m 0 ys->(∀c o,s.heap.get? c=Fk o->h'.get? c=Fk o)->Q (.ref (s.heap.objs.size+4)) {s with heap:=h'}):wpAny (model prog w) A (call (.type "zip") [.ref l,.ref m]) Q E s:=by
 refine yv F.called_zip (by decide) (F.typeCall_zip_2 _ _) (F.newCall_zip_2 _ _) (λobj=>F.args_object_init_3 obj _ _) F.entry_zip_new (YA b c l m xs ys) ⟨i1,i2,?_⟩
 have z1:(zh1 s.heap b l).objs.size=s.heap.objs.size+1:=pR ..
 have z2:(zh2 s.heap b c l m).objs.size=s.heap.objs.size+2:=by unfold zh2 zh1;rw[pR];exact congrArg (· +1) z1
 have z3:(zh3 s.heap b c l m).objs.size=s.heap.objs.size+3:=by unfold zh3;rw[pR,z2]
 have z4:(zh4 s.heap b c l m).objs.size=s.heap.objs.size+4:=by unfold zh4;rw[pR,z3]
 have kp:∀d o,s.heap.get? d=Fk o->(zh5 s.heap b c l m).get? d=Fk o:=λd o e=>by
  unfold zh5 zh4 zh3 zh2 zh1
  exact W1 _ (W1 _ (W1 _ (W1 _ (W1 _ e))))
 have g5:(zh5 s.heap b c l m).get? (zh4 s.heap b c l m).objs.size=Fk _:=nq _ rfl
 have g4:(zh5 s.heap b c l m).get? (zh3 s.heap b c l m).objs.size=Fk _:=W1 _ (nq _ rfl)
 have g3:(zh5 s.heap b c l m).get? (zh2 s.heap b c l m).objs.size=Fk _:=W1 _ (W1 _ (nq _ rfl))
 have g2:(zh5 s.heap b c l m).get? (zh1 s.heap b l).objs.size=Fk _:=W1 _ (W1 _ (W1 _ (nq _ rfl)))
 have g1:(zh5 s.heap b c l m).get? s.heap.objs.size=Fk _:=W1 _ (W1 _ (W1 _ (W1 _ (nq _ rfl))))
 show _/\_
 rw[z2,z3,z4]at g5
 rw[z1,z2]at g3
 rw[z3]at g4
 rw[z1]at g2
 rw[z4]
 exact⟨⟨_,g5,rfl⟩,k _ g5 g3 g4 (Yo i1 kp g1) (Yo i2 kp g2) kp⟩
end
end L2
end
noncomputable section
namespace L2
open PySem PySem.Spec PyProof.Rows
def SqB(K:KE)(H:Hp)(k:oQ)(a:nI)(xs:Gc V):Prop:=match k with|true=>SqT K H a xs|false=>SqL K H a xs
def JIt(h:oE)(k:oQ)(j l:nI)(i:Nat):Prop:=match k with|true=>h.IsTupleIter j l i|false=>h.IsListIter j l i
theorem JIt.at{h h':oE}{k:oQ}{j l:nI}{i:Nat}(q:JIt h k j l i)(e:∀o,h.get? j=Fk o->h'.get? j=Fk o):JIt h' k j l i:=by
 cases k
 .exact Heap.IsListIter.at q e
 .exact Heap.IsTupleIter.at q e
theorem JIt.sit{h:oE}{k:oQ}{j l:nI}{i:Nat}{its:pE Wp}(q:JIt h k j l i)(p:NZ h k l its):SIt h j l i its:=by
 cases k
 .exact .inl ⟨q,p⟩
 .exact .inr ⟨q,p⟩
theorem SIt.jit{h:oE}{k:oQ}{j l:nI}{i:Nat}{its:pE Wp}(q:SIt h j l i its)(p:NZ h k l its):JIt h k j l i:=by
 rcases q with⟨q,r⟩|⟨q,r⟩
 .cases k
  .exact q
  .obtain⟨o,e,c,_⟩:=r;obtain⟨o',e',c',_⟩:=(show h.IsTuple l its from p)
   rw[e]at e';cases e';rw[c]at c';injection c' with z;exact absurd z (by decide)
 .cases k
  .obtain⟨o,e,c,_⟩:=r;obtain⟨o',e',c',_⟩:=(show h.IsList l its from p)
   rw[e]at e';cases e';rw[c]at c';injection c' with z;exact absurd z (by decide)
  .exact q
theorem Inv.sqB{X:Cx}{pins:Gc (nI×Obj)}{σ:St}{H:Hp}{s:nE}{k:oQ}{a:nI}{xs:Gc V}(I:Inv X pins σ H s)(h:SqB X.K H k a xs):∃its:Gc Wp,Vals xs its/\NZ s.heap k a its.toArray:=by
 cases k
 .obtain⟨its,h1,⟨o,n,q1,q2,_,q3⟩,h3⟩:=I.list h
  exact⟨its,h1,o,q1,q2,n,q3⟩
 .obtain⟨its,h1,h2,h3⟩:=I.tuple h
  exact⟨its,h1,h2⟩
theorem Inv.RD{X:Cx}{pins:Gc (nI×Obj)}{σ:St}{H:Hp}{s:nE}{k:oQ}{a:nI}{xs ys:Gc V}(I:Inv X pins σ H s)(h:SqB X.K H k a xs)(g:SqB X.K H k a ys):xs=ys:=by
 cases k
 .exact I.R9 h g
 .exact I.Po h g
noncomputable def Itz(K:KE)(k:oQ)(a:nI)(m:oQ)(b:nI):It:=
 ⟨λi H=>∃(xs ys:Gc V) (x y:V),SqB K H k a xs/\SqB K H m b ys/\xs[i]?=Fk x/\ys[i]?=Fk y,
  λi H v H'=>∃(p:nI) (x y:V),H p=nD/\v=.ref p/\(∀xs,SqB K H k a xs->xs[i]?=Fk x)/\(∀ys,SqB K H m b ys->ys[i]?=Fk y)/\H'=upd H p (.tup [x,y]),
  λi H=>∃(xs ys:Gc V),SqB K H k a xs/\SqB K H m b ys/\(xs.length<=i\/ys.length<=i)⟩
structure ZSt(h:oE)(z ti tt j1 j2:nI)(k:oQ)(a:nI)(m:oQ)(b:nI)(i:Nat):Prop where
 oz:tY h z ti tt .none
 oi:ql h ti (.ref j1) (.ref j2)
 ot:∃u v,ql h tt u v
 q1:JIt h k j1 a i
 q2:JIt h m j2 b i
structure ZNe(z ti tt j1 j2:nI):Prop where
 n1:ti≠z
 n2:tt≠z
 n3:j1≠z
 n4:j2≠z
 n5:ti≠tt
 n6:ti≠j1
 n7:ti≠j2
 n8:tt≠j1
 n9:tt≠j2
 n10:j1≠j2
theorem ZNe.apart{z ti tt j1 j2 a b:nI}(N:ZNe z ti tt j1 j2)(ha:a∉ [z,tt,j1,j2])(hb:b∉ [z,tt,j1,j2]):wC z ti tt j1 j2 a b:=by
 simp only[nO,oB,pO,vF]at ha hb
 exact⟨N.n1,N.n2,N.n3,N.n4,N.n5,N.n6,N.n7,N.n8,N.n9,N.n10,ha.1,ha.2.1,ha.2.2.1,ha.2.2.2,hb.1,hb.2.1,hb.2.2.1,hb.2.2.2⟩
theorem Bk{X:Cx}{pins:Gc (nI×Obj)}{σ:St}{H:Hp}{s:nE}{k:oQ}{a c:nI}{xs:Gc V}(I:Inv X pins σ H s)(q:SqB X.K H k a xs)(f:Q7 X pins H c):a≠c:=by
 intro e
 subst e
 have rd:∀o,Rd H a o->qa:=λo r=>by
  rcases r with r|⟨_,r⟩<;>(rw[f.1]at r;cases r)
 have kk:∀o,X.K.lookup a=Fk o->qa:=λo hk=>by
  have b:=I.ok.mod.kin a o hk
  rcases f.2.2.2.1 with z|z
  .exact I.ok.Yj a o b z
  .exact absurd (nQ (nj (I.ok.bs a o b).1) z) (pT _)
 cases k
 .rcases(show SqL X.K H a xs from q)with q|⟨o,_,_,hk,_⟩
  .exact rd _ q
  .exact kk o hk
 .rcases(show SqT X.K H a xs from q)with q|⟨o,_,_,hk,_⟩
  .exact rd _ q
  .exact kk o hk
theorem Wg{P:nv}{w:oM}{K:KE}{elts:Gc oA}{n:Nat}{pos:Pos}(k:oQ)(a:nI)(m:oQ)(b:nI)(z ti tt j1 j2:nI)(N:ZNe z ti tt j1 j2):Turn P w K (.Tuple elts n pos) (Itz K k a m b) [z,ti,tt,j1,j2] z (λi h=>ZSt h z ti tt j1 j2 k a m b i) where
 mem:=by simp
 obj:=λi h st c hc=>by
  have jl:∀{q:oQ} {j l:nI},JIt h q j l i->∃o,h.get? j=Fk o/\∀v,o.data≠.cell v:=λ{q j l} x=>by
   cases q
   .obtain⟨o,e,_,d⟩:=(show h.IsListIter j l i from x)
    exact⟨o,e,λv z=>by rw[d]at z;cases z⟩
   .obtain⟨o,e,_,d⟩:=(show h.IsTupleIter j l i from x)
    exact⟨o,e,λv z=>by rw[d]at z;cases z⟩
  simp only[nO,oB,pO]at hc
  rcases hc with rfl|rfl|rfl|rfl|rfl
  .exact⟨_,st.oz,λv z=>nomatch z⟩
  .exact⟨_,st.oi,λv z=>nomatch z⟩
  .obtain⟨u,v,e⟩:=st.ot
   exact⟨_,e,λv z=>nomatch z⟩
  .exact jl st.q1
  .exact jl st.q2
 keep:=λi h h' st kp=>⟨kp z (by simp) _ st.oz,kp ti (by simp) _ st.oi,let⟨u,v,e⟩:=st.ot;⟨u,v,kp tt (by simp) _ e⟩,st.q1.at λo e=>kp j1 (by simp) o e,st.q2.at λo e=>kp j2 (by simp) o e⟩
 item:=by
  intro X hP hw hK hc i pins s σ H E I hf st hg
  subst hP hw hK
  obtain⟨xs,ys,x,y,s1,s2,e1,e2⟩:=hg
  obtain⟨i1,r1,p1⟩:=I.sqB s1
  obtain⟨i2,r2,p2⟩:=I.sqB s2
  obtain⟨u1,h1,ru1⟩:=r1.get e1
  obtain⟨u2,h2,ru2⟩:=r2.get e2
  have fz:=hf z (by simp);have fi:=hf ti (by simp);have ft:=hf tt (by simp);have f1:=hf j1 (by simp);have f2:=hf j2 (by simp)
  have ap:=N.apart (a:=a) (b:=b) (by simp[Bk I s1 fz,Bk I s1 ft,Bk I s1 f1,Bk I s1 f2]) (by simp[Bk I s2 fz,Bk I s2 ft,Bk I s2 f1,Bk I s2 f2])
  obtain⟨v1,v2,ot⟩:=st.ot
  refine S9 ap st.oz st.oi ot (st.q1.sit p1) (st.q2.sit p2) (x:=u1) (y:=u2) (by simpa using h1) (by simpa using h2) λh' oz ot' q1 q2 op kp=>⟨_,rfl,wpAny_letOwnedTupleGo_zip oz λg oz' sb=>?_⟩
  have lt:∀c o,s.heap.get? c=Fk o->c≠s.heap.objs.size:=λc o q=>oH (nj q)
  have nz:z≠s.heap.objs.size:=lt _ _ st.oz
  have nt:tt≠s.heap.objs.size:=lt _ _ ot
  have n1:j1≠s.heap.objs.size:=by obtain⟨o,e,_⟩:=(st.q1.sit p1).live;exact lt _ _ e
  have n2:j2≠s.heap.objs.size:=by obtain⟨o,e,_⟩:=(st.q2.sit p2).live;exact lt _ _ e
  have kp2:∀c o,c≠z->c≠tt->c≠j1->c≠j2->s.heap.get? c=Fk o->g.get? c=Fk o:=λc o c1 c2 c3 c4 q=>(sb.2 c c1).trans (kp c o c1 c2 c3 c4 q)
  have fr:H s.heap.objs.size=none:=I.hok.fresh (nS _)
  have op2:g.get? s.heap.objs.size=Fk {cls:=.type "tuple",data:=.seq #[u1,u2]}:=(sb.2 _ (pb nz)).trans op
  have ne:∀c u,c∈ [z,ti,tt,j1,j2]->∀d,H d=Fk u->d≠c:=λc u hc d q e=>by rw[e,(hf c hc).1]at q;cases q
  have kpH:∀c u,H c=Fk u->∀o,s.heap.get? c=Fk o->g.get? c=Fk o:=λc u q o e=>kp2 c o (ne z u (by simp) c q) (ne tt u (by simp) c q) (ne j1 u (by simp) c q) (ne j2 u (by simp) c q) e
  have ka:∀o,s.heap.get? a=Fk o->g.get? a=Fk o:=λo e=>kp2 a o (Bk I s1 fz) (Bk I s1 ft) (Bk I s1 f1) (Bk I s1 f2) e
  have kb:∀o,s.heap.get? b=Fk o->g.get? b=Fk o:=λo e=>kp2 b o (Bk I s2 fz) (Bk I s2 ft) (Bk I s2 f1) (Bk I s2 f2) e
  have sq:∀{q:oQ} {d:nI} {is:pE Wp},NZ s.heap q d is->(∀o,s.heap.get? d=Fk o->h'.get? d=Fk o)->NZ h' q d is:=λ{q d is} x kd=>by
   cases q
   .exact(show s.heap.IsList d is from x).at kd
   .obtain⟨o,e,r⟩:=(show s.heap.IsTuple d is from x)
    exact⟨o,kd o e,r⟩
  have ka1:∀o,s.heap.get? a=Fk o->h'.get? a=Fk o:=λo e=>kp a o (Bk I s1 fz) (Bk I s1 ft) (Bk I s1 f1) (Bk I s1 f2) e
  have kb1:∀o,s.heap.get? b=Fk o->h'.get? b=Fk o:=λo e=>kp b o (Bk I s2 fz) (Bk I s2 ft) (Bk I s2 f1) (Bk I s2 f2) e
  refine⟨.ref s.heap.objs.size,upd H s.heap.objs.size (.tup [x,y]),?_,rfl,⟨_,x,y,fr,rfl,λzs hz=>by rw[I.RD hz s1];exact e1,λzs hz=>by rw[I.RD hz s2];exact e2,rfl⟩,⟨oz',(sb.2 _ N.n1).trans (kp ti _ N.n1 N.n5 N.n6 N.n7 st.oi),⟨_,_,(sb.2 _ N.n2).trans ot'⟩,(q1.jit (sq p1 ka1)).at λo e=>(sb.2 _ N.n3).trans e,(q2.jit (sq p2 kb1)).at λo e=>(sb.2 _ N.n4).trans e⟩,?_⟩
  .show Inv X pins σ _ {s with heap:=g,gens:=s.gens,drawn:=s.drawn,toks:=s.toks}
   refine I.step (g':=s.gens) (d':=s.drawn) (ch:=[z,tt,j1,j2]) ?_ ?_ ?_ ?_ ?_ ?_ ?_ ?_ ?_ ?_ I.bare
   .intro c hc
    have q:Q7 X pins H c:=hf c (by simp only[nO,oB,pO]at hc ⊢; rcases hc with z|z|z|z<;>simp[z])
    exact⟨q.2.2.2.1,q.2.1,q.2.2.2.2.1,q.2.2.2.2.2⟩
   .exact λc o _ _ hc q _=>by
     simp only[nO,oB,pO,vF]at hc
     exact kp2 c o hc.1 hc.2.1 hc.2.2.1 hc.2.2.2 q
   .exact λc o _ _ hc q _=>by
     simp only[nO,oB,pO,vF]at hc
     exact⟨o.slots,kp2 c o hc.1 hc.2.1 hc.2.2.1 hc.2.2.2 q⟩
   .exact λc o _ q n=>by rw[Ab (lt c o q)];exact n
   .exact λc o hc q=>by
     simp only[nO,oB,pO,vF]at hc
     exact⟨o,kp2 c o hc.1 hc.2.1 hc.2.2.1 hc.2.2.2 q⟩
   .exact λc ys q=>by rw[Ab (BW q fr)];exact q
   .exact λc o u q=>by rw[Ab (BW q fr)];exact q
   .exact λc ps q=>⟨#[],by rw[Ab (BW q fr),q];simp⟩
   .rintro mm ⟨o,es,ep,ho,r⟩
    exact⟨o,es,ep,kp2 _ o (pb fz.2.1) (pb ft.2.1) (pb f1.2.1) (pb f2.2.1) ho,r⟩
   .intro c v q
    by_cases hb:c=s.heap.objs.size
    .subst hb
     rw[BL]at q
     cases q
     exact⟨by show 2<=sizeLine;decide,[u1,u2],.cons ru1 (.cons ru2 .nil),⟨_,op2,rfl,0,rfl⟩⟩
    .rw[Ab hb]at q
     refine(I.hok c v q).WC (λd o hd r=>?_) (λd r=>by rw[Ab (BW r fr)];exact r) (λd ys r=>by rw[Ab (BW r fr)];exact r)
     rcases hd with e|e
     .rw[e]at r ⊢; exact kpH c v q o r
     .exact kpH d _ e o r
  .intro c hc
   have q:=hf c hc
   have:c≠s.heap.objs.size:=by
    simp only[nO,oB,pO]at hc
    rcases hc with e|e|e|e|e
    .rw[e];exact nz
    .rw[e];exact lt _ _ st.oi
    .rw[e];exact nt
    .rw[e];exact n1
    .rw[e];exact n2
   rw[Ab this];exact q.1
 done:=by
  intro X hP hw hK hc i pins s σ H E I hf st hg
  subst hP hw hK
  obtain⟨xs,ys,s1,s2,e⟩:=hg
  obtain⟨i1,r1,p1⟩:=I.sqB s1
  obtain⟨i2,r2,p2⟩:=I.sqB s2
  have l1:=r1.length
  have l2:=r2.length
  have hh:X.A.in1.handled=none:=I.ok.hd hc
  have hh0:X.A.handled=none:=I.ok.hd hc
  have fz:=hf z (by simp);have fi:=hf ti (by simp);have ft:=hf tt (by simp);have f1:=hf j1 (by simp);have f2:=hf j2 (by simp)
  have ap:=N.apart (a:=a) (b:=b) (by simp[Bk I s1 fz,Bk I s1 ft,Bk I s1 f1,Bk I s1 f2]) (by simp[Bk I s2 fz,Bk I s2 ft,Bk I s2 f1,Bk I s2 f2])
  obtain⟨v1,v2,ot⟩:=st.ot
  refine Vb hh0 ap st.oz st.oi ot (st.q1.sit p1) (st.q2.sit p2) (by rcases e with e|e;exact .inl (by simp;lia);exact .inr (by simp;lia)) λh' kp=>⟨rfl,?_⟩
  have ne:∀c u,c∈ [z,ti,tt,j1,j2]->∀d,H d=Fk u->d≠c:=λc u hc d q e=>by rw[e,(hf c hc).1]at q;cases q
  show Inv X pins σ _ {s with heap:=h',gens:=s.gens,drawn:=s.drawn,toks:=s.toks}
  refine I.step (g':=s.gens) (d':=s.drawn) (ch:=[z,tt,j1,j2]) ?_ ?_ ?_ ?_ ?_ ?_ ?_ ?_ ?_ ?_ I.bare
  .intro c hc
   have q:Q7 X pins H c:=hf c (by simp only[nO,oB,pO]at hc ⊢; rcases hc with z|z|z|z<;>simp[z])
   exact⟨q.2.2.2.1,q.2.1,q.2.2.2.2.1,q.2.2.2.2.2⟩
  .exact λc o _ _ hc q _=>by
    simp only[nO,oB,pO,vF]at hc
    exact kp c o hc.1 hc.2.1 hc.2.2.1 hc.2.2.2 q
  .exact λc o _ _ hc q _=>by
    simp only[nO,oB,pO,vF]at hc
    exact⟨o.slots,kp c o hc.1 hc.2.1 hc.2.2.1 hc.2.2.2 q⟩
  .exact λc o _ q n=>n
  .exact λc o hc q=>by
    simp only[nO,oB,pO,vF]at hc
    exact⟨o,kp c o hc.1 hc.2.1 hc.2.2.1 hc.2.2.2 q⟩
  .exact λc ys q=>q
  .exact λc o u q=>q
  .exact λc ps q=>⟨#[],by rw[q];simp⟩
  .rintro mm ⟨o,es,ep,ho,r⟩
   exact⟨o,es,ep,kp _ o (pb fz.2.1) (pb ft.2.1) (pb f1.2.1) (pb f2.2.1) ho,r⟩
  .intro c v q
   refine(I.hok c v q).WC (λd o hd r=>?_) (λd r=>r) (λd ys r=>r)
   rcases hd with e|e
   .rw[e]at r ⊢; exact kp c o (ne z v (by simp) c q) (ne tt v (by simp) c q) (ne j1 v (by simp) c q) (ne j2 v (by simp) c q) r
   .exact kp d o (ne z _ (by simp) d e) (ne tt _ (by simp) d e) (ne j1 _ (by simp) d e) (ne j2 _ (by simp) d e) r
 self:=λ_ _ _ _ _ st h=>we st.oz h
end L2
end
noncomputable section
namespace L2
open PySem PySem.Spec PyProof.Rows
theorem zne(n:Nat):ZNe (n+4) (n+2) (n+3) n (n+1):=⟨λe=>by have:n+2=n+4:=e;lia,λe=>by have:n+3=n+4:=e;lia,λe=>by have:n=n+4:=e;lia,λe=>by have:n+1=n+4:=e;lia,λe=>by have:n+2=n+3:=e;lia,λe=>by have:n+2=n:=e;lia,λe=>by have:n+2=n+1:=e;lia,λe=>by have:n+3=n:=e;lia,λe=>by have:n+3=n+1:=e;lia,λe=>by have:n=n+1:=e;lia⟩
section
variable{X:Cx}
noncomputable def ko(K:KE)(ta:TA):TI:=λσ H R=>ta σ H λvs H1=>∃k a m b,vs=[.ref a,.ref b]/\(∃xs,SqB K H1 k a xs)/\(∃ys,SqB K H1 m b ys)/\R (Itz K k a m b) H1
theorem dF{a b:oA}{ta:TA}{p pos tp:Pos}{elts:Gc oA}{n:Nat}(hg:Gl X "zip")(hm:X.mg "zip"=nD)(ha:PA X [a,b] ta)(hs:nk [a,b] X.env=[(false,eval a X.env),(false,eval b X.env)]:=by rfl)(hs2:nk [b] X.env=[(false,eval b X.env)]:=by rfl):PI X (.Tuple elts n tp) (.Call (.Name "zip" p) [a,b] [] pos) (ko X.K ta):=by
 intro pins s σ H R I h
 refine Call_ (LF I hg hm boot_zip (qA (thn (ha pos pins s σ H _ I h) λus s1 ⟨vs,H1,I1,r1,q1⟩=>?_) (by rw[hs,hs2]) (by rw[hs2];rfl)))
 obtain⟨k,a',m,b',e,⟨xs,hq⟩,⟨ys,hr⟩,q⟩:=q1
 subst e
 obtain⟨u,v,rfl,ru,rv⟩:=r1.two
 cases (show u=pL a' from ru)
 cases (show v=pL b' from rv)
 obtain⟨i1,v1,p1⟩:=I1.sqB hq
 obtain⟨i2,v2,p2⟩:=I1.sqB hr
 refine UQ p1 p2 λh' oz oi ot q1 q2 kp=>we (s:={s1 with heap:=h'}) oz ?_
 have sq:∀{q:oQ} {d:nI} {is:pE Wp},NZ s1.heap q d is->NZ h' q d is:=λ{q d is} x=>by
  cases q
  .exact(show s1.heap.IsList d is from x).at λo e=>kp _ o e
  .obtain⟨o,e,r⟩:=(show s1.heap.IsTuple d is from x)
   exact⟨o,kp _ o e,r⟩
 refine⟨s1.heap.objs.size+4,[s1.heap.objs.size+4,s1.heap.objs.size+2,s1.heap.objs.size+3,s1.heap.objs.size,s1.heap.objs.size+1],_,_,H1,rfl,I1.kept (t':=s1.toks) kp,
  Wg k a' m b' _ _ _ _ _ (zne s1.heap.objs.size),⟨oz,oi,⟨_,_,ot⟩,q1.jit (sq p1),q2.jit (sq p2)⟩,λc hc=>?_,q⟩
 simp only[nO,oB,pO]at hc
 have:s1.heap.objs.size<=c:=by rcases hc with rfl|rfl|rfl|rfl|rfl<;>first|exact nS _|exact Nat.le_add_right _ _
 exact I1.ZV this (I1.hok.fresh this)
end
end L2
end
noncomputable section
namespace L2
open PySem PySem.Spec PyProof.Rows
section
variable{prog:nv}{w:oM}{A:oN}{E:Wp->nE->Prop}{s:nE}
theorem IsList.R8{h h':oE}{a:nI}{items:pE Wp}(p:h.IsList a items)(k:∀o,h.get? a=Fk o->h'.get? a=Fk o):h'.IsList a items:=by
 obtain⟨o,ho,r⟩:=p
 exact⟨o,k o ho,r⟩
theorem P9{it t:nI}{items:pE Wp}(hne:t≠it):∀(n i:Nat) (s:nE) (Q:Gc Wp->nE->Prop),s.heap.IsListIter it t i->s.heap.IsList t items->i+n<=items.size->(∀h',h'.IsListIter it t (i+n)->rm it s.heap h'->Q ((items.toList.drop i).take n) {s with heap:=h'})->wpAny (model prog w) A (draw (.ref it) n) Q E s
 |0,i,s,Q,hit,_,_,hQ=>by
  show wpAny _ _ (pure []) Q E s
  exact ng (by simpa using hQ s.heap hit (Heap.SameBut.refl ..))
 |n+1,i,s,Q,hit,ht,hle,hQ=>by
  have hlt:i<items.size:=by lia
  show wpAny _ _ (pyNext (.ref it) >>= _) Q E s
  refine nC (rz hit ht (x:=items[i]) (by simp[hlt]) λh1 hit1 hs1=>?_)
  refine nC (qJ (P9 hne n (i+1) _ _ hit1 (IsList.R8 ht λo e=>hs1.extBut t o hne e) (by lia) λh2 hit2 hs2=>ng ?_))
  have hd:items.toList.drop i=items[i]::items.toList.drop (i+1):=by simp[pH,hlt]
  have:=hQ h2 (by rw[show i+(n+1)=i+1+n by lia];exact hit2) (hs1.trans hs2)
  rw[hd,List.take_succ_cons]at this
  exact this
theorem Lg{t:nI}{items:pE Wp}{Q:Gc Wp->nE->Prop}(hh:A.handled=nD)(ht:s.heap.IsList t items)(hty:s.TypeIs (.ref t) "list")(hQ:∀h',uD s.heap.objs.size s.heap h'->Q items.toList {s with heap:=h'}):wpAny (model prog w) A (unpackItems (.ref t) items.size nD) Q E s:=by
 have hlt:t≠s.heap.objs.size:=by obtain⟨o,ho,_⟩:=ht;exact oH (nj ho)
 unfold unpackItems
 refine nC ?_
 .unfold notIterableAtAll
  refine nC (wpAny_specialOf hty F.slot_list_iter.lookup ?_)
  refine ng ?_
  simp only[vi,uT]
  refine nC (qJ (qO ht ?_))
  refine nC (qJ (P9 hlt items.size 0 _ _ ⟨_,nq _ rfl,rfl,rfl⟩ (IsList.R8 ht λo e=>W1 _ e) (by lia) λh1 hit1 hs1=>?_))
  have hall:wg items.size (yT 0 items.toList)=items.toList:=by
   rw[List.drop_zero];exact sG (by simp)
  rw[hall]
  rw[oU (by simp)]
  have ht1:h1.IsList t items:=IsList.R8 (IsList.R8 ht λo e=>W1 _ e) λo e=>hs1.extBut t o hlt e
  refine nC (qJ (sQ hh hit1 ht1 (by simp) λh2 he2=>?_))
  simp only[Option.isSome_none,vi,uT]
  refine ng (hQ h2 λb o hb e=>he2 b o hb (hs1.extBut b o hb (W1 _ e)))
theorem Kk{env:Env}{elts:Gc oA}{x1}{pos:Pos}{t:nI}{items:pE Wp}{Q:Unit->nE->Prop}(hh:A.handled=nD)(ht:s.heap.IsList t items)(hty:s.TypeIs (.ref t) "list")(hn:(assignEach elts env).length=items.size)(hstar:(assignEach elts env).findIdx? (·.1)=nD)(h:∀h',uD s.heap.objs.size s.heap h'->wpAny (model prog w) A (assignInOrder ((assignEach elts env).map (·.2)) items.toList) Q E {s with heap:=h'}):wpAny (model prog w) A (assign (.Tuple elts x1 pos) env (.ref t)) Q E s:=by
 rw[xt]
 refine nC (rQ ?_)
 unfold unpack
 rw[hn,hstar]
 exact nC (qJ (Lg hh ht hty h))
end
section
variable{X:Cx}{pos:Pos}
noncomputable def mL(K:KE)(n:Nat)(t:TGs):TG:=λv σ H Q=>∃a xs,v=.ref a/\(SqT K H a xs\/H a=Fk (.lst xs))/\xs.length=n/\t xs σ H Q
theorem c7{es:Gc oA}{k:Nat}{t:TGs}{n:Nat}(hc:X.calm=true)(h:PGs X es t)(hn:(assignEach es X.env).length=n:=by rfl)(hst:(assignEach es X.env).findIdx? (·.1)=none:=by rfl):PG X (.Tuple es k pos) (mL X.K n t):=by
 intro pins s σ H v u Q I r hw
 obtain⟨a,xs,e1,hq,hl,hw⟩:=hw
 rcases hq with hq|hq
 .exact bz hc h hn hst pins s σ H v u Q I r ⟨a,xs,e1,hq,hl,hw⟩
 .subst e1
  cases r
  obtain⟨its,rv,p,hz⟩:=I.list (SqL.of hq)
  obtain⟨z,its2,m,rv2,_,e⟩:=I.Yh hq
  refine Kk (I.ok.hd hc) p.isList ⟨_,e,rfl⟩ (by simp[hn,<-hl,rv.length]) hst λh' hx=>?_
  have I1:Inv X pins σ H {s with heap:=h'}:=I.kept (t':=s.toks) λb o e=>hx b o (oH (nj e)) e
  exact h pins _ σ H xs _ Q I1 (by simpa using rv) hw
end
end L2
end
noncomputable section
namespace L2
open PySem PySem.Spec PyProof.Rows
theorem JIt.live{h:oE}{k:oQ}{j l:nI}{i:Nat}(q:JIt h k j l i):∃o,h.get? j=Fk o/\∀v,o.data≠.cell v:=by
 cases k with
 |true=>obtain⟨o,e,c,d⟩:=q;exact⟨o,e,λv z=>by rw[d]at z;cases z⟩
 |false=>obtain⟨o,e,c,d⟩:=q;exact⟨o,e,λv z=>by rw[d]at z;cases z⟩
theorem NZ.mono{h h':oE}{k:oQ}{l:nI}{its:pE Wp}(q:NZ h k l its)(e:∀o,h.get? l=Fk o->h'.get? l=Fk o):NZ h' k l its:=by
 cases k with
 |true=>obtain⟨o,ho,r⟩:=q;exact⟨o,e o ho,r⟩
 |false=>obtain⟨o,ho,r⟩:=q;exact⟨o,e o ho,r⟩
theorem Vl{prog:nv}{w:oM}{A:oN}(hh:A.handled=nD)(it t:nI)(hne:t≠it)(items:pE Wp):Draws prog w A it [it,t] items.size (λi v=>items[i]?=Fk v) (λi h=>SIt h it t i items) where
 live:=λ_ _ st=>let⟨o,ho,_⟩:=st.live;⟨o,ho⟩
 frame:=λ_ _ _ st hk=>st.at (λo e=>hk it (by simp) o e) λo e=>hk t (by simp) o e
 item:=λi s Q E hi st hQ=>Lz st (x:=items[i]) (by simp[hi]) λh' a b=>hQ _ h' s.toks (by simp[hi]) a b
 done:=λs Q E st hE=>Lv hh st (by simp) hE
noncomputable def ItE(K:KE)(kk:oQ)(a:nI):It:=
 ⟨λi H=>∃xs x,SqB K H kk a xs/\xs[i]?=Fk x,λi H x H'=>∃p y,H p=nD/\x=.ref p/\(∀xs,SqB K H kk a xs->xs[i]?=Fk y)/\H'=upd H p (.tup [.int i,y]),λi H=>∃xs,SqB K H kk a xs/\xs.length<=i⟩
theorem TU{P:nv}{w:oM}{K:KE}{elts:Gc oA}{k:Nat}{pos:Pos}(kk:oQ)(a e it:nI)(hei:e≠it):Turn P w K (.Tuple elts k pos) (ItE K kk a) [e,it] e (λi h=>(∃old,IsEnum h e it i old)/\JIt h kk it a i) where
 mem:=by simp
 obj:=λi h st b hb=>by
  obtain⟨⟨old,h1⟩,st2⟩:=st
  obtain⟨o,h2,h4⟩:=st2.live
  simp only[nO,oB,pO]at hb
  rcases hb with rfl|rfl
  .exact⟨_,h1,λv z=>nomatch z⟩
  .exact⟨o,h2,h4⟩
 keep:=λi h h' st k=>by
  obtain⟨⟨old,h1⟩,h2⟩:=st
  exact⟨⟨old,k e (by simp) _ h1⟩,h2.at λo q=>k it (by simp) o q⟩
 item:=by
  intro X hP hw hK hc i pins s σ H E I hf st hg
  subst hP hw hK
  obtain⟨xs,x,hq,hx⟩:=hg
  obtain⟨its,rv,p⟩:=I.sqB hq
  obtain⟨u,hu,ru⟩:=rv.get hx
  obtain⟨⟨old,h1⟩,h2⟩:=st
  obtain⟨oi,hi1,hi2⟩:=h2.live
  have hea:a≠e:=Bk I hq (hf e (by simp))
  have hia:a≠it:=Bk I hq (hf it (by simp))
  have hil:i<its.toArray.size:=by
   have:=(nP.mp hu).1
   simpa using this
  have hh:X.A.in1.handled=none:=I.ok.hd hc
  have D:=Vl (prog:=X.prog) (w:=X.w) hh it a hia its.toArray
  refine wpAny_pyNext_enum_itemD D h1 (h2.sit p) hil hei (by simp[hei,pb hea]) ?_
  intro y h' tk hy out st' tup size kept
  have ey:y=u:=by
   have:its[i]?=Fk y:=by simpa using hy
   rw[hu]at this
   exact(oy this).symm
  subst ey
  refine⟨_,rfl,wpAny_letOwnedTupleGo_enum out λh'' en sb=>?_⟩
  have hfe:=hf e (by simp)
  have hfi:=hf it (by simp)
  have lt:∀b o,s.heap.get? b=Fk o->b≠s.heap.objs.size:=λb o q=>oH (nj q)
  have kept2:∀b o,b≠e->b≠it->s.heap.get? b=Fk o->h''.get? b=Fk o:=λb o b1 b2 q=>(sb.2 b b1).trans (kept b o b1 b2 q)
  have fr:H s.heap.objs.size=none:=I.hok.fresh (nS _)
  have tup2:h''.get? s.heap.objs.size=Fk {cls:=.type "tuple",data:=.seq #[.int i tk,y]}:=(sb.2 _ (pb (lt e _ h1))).trans tup
  have ne1:∀b u,H b=Fk u->b≠e:=λb u q z=>by rw[z,hfe.1]at q;cases q
  have ne2:∀b u,H b=Fk u->b≠it:=λb u q z=>by rw[z,hfi.1]at q;cases q
  refine⟨.ref s.heap.objs.size,upd H s.heap.objs.size (.tup [.int i,x]),?_,rfl,⟨_,x,fr,rfl,λys hys=>by rw[I.RD hys hq];exact hx,rfl⟩,⟨⟨y,en⟩,?_⟩,?_⟩
  .show Inv X pins σ _ {s with heap:=h'',gens:=s.gens,drawn:=s.drawn,toks:=tk+1}
   refine I.step (g':=s.gens) (d':=s.drawn) (ch:=[e,it]) ?_ ?_ ?_ ?_ ?_ ?_ ?_ ?_ ?_ ?_ I.bare
   .intro b hb
    simp only[nO,oB,pO]at hb
    rcases hb with rfl|rfl
    .exact⟨hfe.2.2.2.1,hfe.2.1,hfe.2.2.2.2.1,hfe.2.2.2.2.2⟩
    .exact⟨hfi.2.2.2.1,hfi.2.1,hfi.2.2.2.2.1,hfi.2.2.2.2.2⟩
   .exact λb o _ _ hc q _=>kept2 b o (λz=>hc (by simp[z])) (λz=>hc (by simp[z])) q
   .exact λb o _ _ hc q _=>⟨o.slots,kept2 b o (λz=>hc (by simp[z])) (λz=>hc (by simp[z])) q⟩
   .exact λb o _ q n=>by rw[Ab (lt b o q)];exact n
   .exact λb o hc q=>⟨o,kept2 b o (λz=>hc (by simp[z])) (λz=>hc (by simp[z])) q⟩
   .exact λb ys q=>by rw[Ab (BW q fr)];exact q
   .exact λb o u q=>by rw[Ab (BW q fr)];exact q
   .exact λb ps q=>⟨#[],by rw[Ab (BW q fr),q];simp⟩
   .rintro m ⟨o,es,ep,ho,r⟩
    exact⟨o,es,ep,kept2 _ o (pb hfe.2.1) (pb hfi.2.1) ho,r⟩
   .intro b v q
    by_cases hb:b=s.heap.objs.size
    .subst hb
     rw[BL]at q
     cases q
     exact⟨by show 2<=sizeLine;decide,[.int i tk,y],.cons ⟨tk,rfl⟩ (.cons ru .nil),⟨_,tup2,rfl,0,rfl⟩⟩
    .rw[Ab hb]at q
     refine(I.hok b v q).WC (λc z hc r=>kept2 c z ?_ ?_ r) (λc r=>by rw[Ab (BW r fr)];exact r) (λc ys r=>by rw[Ab (BW r fr)];exact r)
     .rcases hc with z|z
      .rw[z];exact ne1 b v q
      .exact ne1 c _ z
     .rcases hc with z|z
      .rw[z];exact ne2 b v q
      .exact ne2 c _ z
  .have pa:NZ h'' kk a its.toArray:=p.mono λo q=>kept2 a o hea hia q
   exact(st'.at (λo q=>(sb.2 it (pb hei)).trans q) λo q=>(sb.2 a hea).trans q).jit pa
  .intro b hb
   simp only[nO,oB,pO]at hb
   rcases hb with rfl|rfl
   .rw[Ab (lt b _ h1)];exact hfe.1
   .rw[Ab (lt b _ hi1)];exact hfi.1
 done:=by
  intro X hP hw hK hc i pins s σ H E I hf st hg
  subst hP hw hK
  obtain⟨xs,hq,hx⟩:=hg
  obtain⟨its,rv,p⟩:=I.sqB hq
  obtain⟨⟨old,h1⟩,h2⟩:=st
  have hl:=rv.length
  have hh:X.A.in1.handled=none:=I.ok.hd hc
  obtain⟨f0,f1,f2,f3,f4,f5⟩:=hf it (by simp)
  have D:Draws X.prog X.w X.A.in1 it [it,a] i (λ_ _=>x5) (λj h=>j=i/\SIt h it a i its.toArray):=
   {live:=λ_ _ st=>let⟨o,ho,_⟩:=st.2.live;⟨o,ho⟩
    frame:=λ_ _ _ st hk=>⟨st.1,st.2.at (λo e=>hk it (by simp) o e) λo e=>hk a (by simp) o e⟩
    item:=λj s Q E hj st _=>absurd st.1 (oH hj)
    done:=λs Q E st hE=>Lv hh st.2 (by simp;lia) hE}
  exact wpAny_pyNext_enum_endD D h1 ⟨rfl,h2.sit p⟩ λh' eb=>⟨rfl,I.turned (t':=s.toks) (λb o hb q=>eb b o hb q) f0 f1 f3 f4 f5⟩
 self:=λ_ _ _ _ _ st h=>by
  obtain⟨⟨old,h1⟩,_⟩:=st
  exact wF h1 h
section
variable{X:Cx}
noncomputable def cH(K:KE)(ta:TA):TI:=λσ H R=>ta σ H λvs H1=>∃kk a,vs=[.ref a]/\(∃xs,SqB K H1 kk a xs)/\R (ItE K kk a) H1
theorem YV{a:oA}{ta:TA}{p pos tp:Pos}{elts:Gc oA}{k:Nat}(hg:Gl X "enumerate")(hm:X.mg "enumerate"=nD)(ha:PA X [a] ta)(hs:nk [a] X.env=[(false,eval a X.env)]:=by rfl):PI X (.Tuple elts k tp) (.Call (.Name "enumerate" p) [a] [] pos) (cH X.K ta):=by
 intro pins s σ H R I h
 refine Call_ (LF I hg hm boot_enumerate (callWith_type1 (thn (ha pos pins s σ H _ I h) λus s1 ⟨vs,H1,I1,r1,q1⟩=>?_) hs rfl))
 obtain⟨kk,b,e,⟨xs,hq⟩,q⟩:=q1
 subst e
 obtain⟨u,rfl,ru⟩:=r1.one
 cases (show u=pL b from ru)
 obtain⟨its,rv,pt⟩:=I1.sqB hq
 have fin:∀h':oE,IsEnum h' (s1.heap.objs.size+1) s1.heap.objs.size 0 .none->JIt h' kk s1.heap.objs.size b 0->(∀b o,s1.heap.get? b=Fk o->h'.get? b=Fk o)->wpAny (model X.prog X.w) X.A (pyIter (.ref (s1.heap.objs.size+1))) (PIE X pins σ (.Tuple elts k tp) R) X.xe {s1 with heap:=h'}:=λh' en it kp=>by
  refine wF (s:={s1 with heap:=h'}) en ?_
  refine⟨s1.heap.objs.size+1,[s1.heap.objs.size+1,s1.heap.objs.size],_,_,H1,rfl,I1.kept (t':=s1.toks) kp,TU kk b (s1.heap.objs.size+1) s1.heap.objs.size (Nat.succ_ne_self _),⟨⟨_,en⟩,it⟩,λc hc=>?_,q⟩
  simp only[nO,oB,pO]at hc
  rcases hc with rfl|rfl
  .exact I1.ZV (by lia) (I1.hok.fresh (by lia))
  .exact I1.ZV (nS _) (I1.hok.fresh (nS _))
 cases kk with
 |true=>exact Sj (show s1.heap.IsTuple b its.toArray from pt) λh' en it kp=>fin h' en it kp
 |false=>exact call_enumerate_list (show s1.heap.IsList b its.toArray from pt) λh' en it _ kp=>fin h' en it kp
end
end L2
end
noncomputable section
namespace St
open PySem PySem.Spec L2 PyProof.Rows
inductive Kd where
 |non|bl|int|str|tup|lst|dct
 deriving wu
noncomputable def Kd.ty:Kd->qo
 | .non=>"NoneType" | .bl=>"bool" | .int=>"int" | .str=>"str" | .tup=>"tuple" | .lst=>"list" | .dct=>"dict"
noncomputable def Kd.isA:Kd->qo->oQ
 | .bl,"bool"=>true| .bl,"int"=>true| .int,"int"=>true| .str,"str"=>true| .tup,"tuple"=>true| .lst,"list"=>true| .dct,"dict"=>true
 |_,_=>false
section
variable{K:KE}
theorem bP(k:Kd):qV K (.type k.ty) (.type "int")=Fk (k.isA "int"):=by
 cases k<;>first|rfl|(unfold qV;rfl)
theorem Wo(k:Kd):qV K (.type k.ty) (.type "bool")=Fk (k.isA "bool"):=by
 cases k<;>rfl
theorem kit_tuple(k:Kd):qV K (.type k.ty) (.type "tuple")=Fk (k.isA "tuple"):=by
 cases k<;>rfl
theorem aQ(k:Kd):qV K (.type k.ty) (.type "str")=Fk (k.isA "str"):=by
 cases k<;>rfl
end
structure Dfn(P:nv)(w:oM)(K:KE)(mg:Str->nG Wp)(base:oE)(x:Str)(k:Nat)(ps:Gc Str)(sp:Sp):Prop where
 ex:∃f fd,mg x=Fk (.ref f)/\qM K (.ref f)=true/\Binds K fd ps []/\Rq P w K mg base CX0 k f fd ps sp
structure Src(K:KE)(mg:Str->nG Wp)(x:Str)(st:oK):Prop where
 ex:∃f fd,Fun K x x st f fd/\mg x=Fk (.ref f)
theorem iG{X:Cx}{k:Nat}{x:Str}{ps:Gc Str}{sp:Sp}{e:oA}{es:Gc oA}{t:TA}{p pos:Pos}(d:Dfn X.prog X.w X.K X.mg X.base x k ps sp)(hr:Gz k X.A)(hg:Gl X x)(ha:PA X (e::es) t)(hdb:(x==("__debug__":Str))=false:=by decide)(he:nk (e::es) X.env=(false,eval e X.env)::nk es X.env:=by rfl)(hpl:(backTo pos (nk es X.env)).any (·.1)=false:=by rfl):PE X (.Call (.Name x p) (e::es) [] pos) (aj sp [] E0 t):=by
 obtain⟨f,fd,a,b,c,F⟩:=d.ex
 exact aO F hr hg a b c .nil iO ha hdb he hpl
section
variable{X:Cx}
theorem Zi{n:Nat}(h:n<2^8000):n.log2<9000:=by
 by_cases h0:n=0
 .subst h0;decide
 .exact yu ((Nat.log2_lt h0).mpr h) (by decide)
theorem Wq:OpR X (binaryOp .FloorDiv) (rI (λ_ j=>0<j/\j.natAbs<2^8000) λi j=>.int (i / j)):=opI λi j _ _ _ _ _ hc q=>by
 have h1:(0:Int)<j:=hc.1
 exact floordiv_int (by lia) (by rw[Int.fdiv_eq_ediv_of_nonneg i (by lia)];exact q) (.inl (PyProof.noPylong_of_log2 (Zi hc.2)))
theorem Sw{prog:nv}{w:oM}{A:oN}(hh:A.handled=nD){a it:nI}(hne:a≠it){vs:Gc Wp}:Walks prog w A it [it,a] [it] vs.length (λi v=>vs[i]?=Fk v) (λi h=>h.IsListIter it a i/\h.IsList a vs.toArray) where
 sub:=λb hb=>by simp at hb;simp[hb]
 frame:=λi h h' st k=>⟨st.1.at λo e=>k it (by simp) o e,by
  obtain⟨o,ho,r⟩:=st.2
  exact⟨o,k a (by simp) o ho,r⟩⟩
 item:=λi s Q E hi st hQ=>by
  refine rz st.1 st.2 (x:=vs[i]) (by simp[hi]) λh' st' sb=>?_
  refine hQ _ h' s.toks (by simp[hi]) ⟨st',?_⟩ λb o hb e=>(sb.2 b (by simpa using hb)).trans e
  obtain⟨o,ho,r⟩:=st.2
  exact⟨o,(sb.2 a hne).trans ho,r⟩
 done:=λs Q E st hQ=>sQ hh st.1 st.2 (by simp) λh' eb=>hQ h' s.toks λb o hb e=>eb b o (by simpa using hb) e
 self:=λi s Q E st hQ=>ux st.1 hQ
theorem YI{ns:Gc Int}{j:Nat}(h:j<ns.length):(ns.take (j+1)).sum=(ns.take j).sum+ns.getD j 0:=by
 have e:ns.getD j 0=ns[j]:=by simp[nW,nM h]
 rw[vG,nM h,xG,e]
 show _+(ns[j]+0)=_
 lia
theorem NH{ns:Gc Int}:∀{j:Nat},j<=ns.length->preSum (λi=>ns.getD i 0) j=(ns.take j).sum
 |0,_=>by simp[preSum]
 |j+1,h=>by
  rw[preSum,NH (by lia),YI (by lia)]
theorem VL{ns:Gc Int}(h:∀n∈ns,0<=n/\n<=1000000):0<=ns.sum/\ns.sum<=1000000*ns.length:=by
 induction ns with
 |nil=>simp
 |cons a l ih=>
  have h1:=h a (by simp)
  have h2:=ih λn hn=>h n (by simp[hn])
  rw[rA,pD]
  have:((l.length+1:Nat):Int)=(l.length:Int)+1:=by lia
  lia
end
section
variable{prog:nv}{w:oM}{A:oN}{E:Wp->nE->Prop}{s:nE}
theorem Ki{t sl:nI}{items:pE Wp}{vl vu:Wp}{lo hi:nG Int}{Q:Wp->nE->Prop}(ht:zS s.heap t items)(hs:s.heap.IsSliceOf sl vl vu .none)(pl:uf vl lo)(pu:uf vu hi)(hw:HT.sIx items.size 0 lo=0/\HT.sIx items.size items.size hi=items.size)(h:Q (.ref t) s):wpAny (model prog w) A (getItem (.ref t) (.ref sl)) Q E s:=by
 obtain⟨os,hos,hcs,hds⟩:=id hs
 have hTs:s.TypeIs (.ref sl) "slice":=⟨os,hos,hcs⟩
 unfold getItem
 try with_reducible refine qJ ?_
 first|refine nC (ng ?_)|skip
 refine nC (v3 ht.typeIs (by decide) ?_)
 refine nC (pv (name:=pk "__getitem__") ht.typeIs og
  (qF og ht.typeIs vS ?_ (vf _ _)))
 show wpAny _ _ (tV (.ref t) >>= _) _ _ s
 refine nC (yD ht ?_)
 refine nC (v5 hTs ?_)
 rw[oP (by decide)]
 refine nC (HT.IM hs pl pu ?_)
 show wpAny _ _ (if(((HT.sIx items.size 0 lo:Nat):Int)==0 && (1:Int)==1 && (HT.sIx items.size items.size hi-HT.sIx items.size 0 lo)==items.size)=true then _ else _) _ _ s
 rw[oP (by rw[hw.1,hw.2];simp)]
 unfold xY
 refine nC (nC (v5 ht.typeIs (ng ?_)))
 rw[oP (by decide)]
 exact nC (ub (ng ⟨_,rfl,ng h⟩))
end
section
variable{X:Cx}
def lM(K:KE):V->nG Int->nG Int->Hp->VK->Prop:=λx lo hi H Q=>∃a xs,x=.ref a/\SqT K H a xs/\HT.sIx xs.length 0 lo=0/\HT.sIx xs.length xs.length hi=xs.length/\Q x H
theorem cn:SlR X (lM X.K):=by
 intro pins s σ H x v vl vu lo hi sl Q I rx hs pl pu h
 obtain⟨a,xs,rfl,hx,h1,h2,q⟩:=h
 cases rx
 obtain⟨its,r,ht,hz⟩:=I.tuple hx
 have hlen:its.toArray.size=xs.length:=by rw[nX];exact r.length.symm
 refine⟨"tuple",_,og.lookup,ht.typeIs,?_⟩
 exact Ki ht hs pl pu (by rw[hlen];exact⟨h1,h2⟩) ⟨.ref a,H,I,rfl,q⟩
noncomputable def ij(K:KE):R2:=λx y H Q=>∃a b ys,x=.ref a/\y=.ref b/\SqT K H a []/\SqT K H b ys/\Q (.ref b) H
theorem bK:OpR X (binaryOp .Add) (ij X.K):=by
 intro pins s σ H x y v u Q I rx ry h
 obtain⟨a,b,ys,rfl,rfl,ha,hb,q⟩:=h
 cases rx
 cases ry
 obtain⟨its,r1,p1,_⟩:=I.tuple ha
 obtain⟨its2,r2,p2,_⟩:=I.tuple hb
 have e0:its=[]:=r1.Oj.mpr rfl
 subst e0
 obtain⟨⟨cls,dd,data,sl⟩,ho,hc,n,hd⟩:=id p1
 obtain⟨⟨cls2,dd2,data2,sl2⟩,ho2,hc2,n2,hd2⟩:=id p2
 simp only at hc hd hc2 hd2
 subst hc hd hc2 hd2
 exact vz ⟨_,ho,rfl⟩ ⟨_,ho2,rfl⟩ uS vY sD rg (rR _ _)
  (tuple_addW0 a b #[] its2.toArray n n2 dd dd2 sl sl2 rfl) ⟨ho,ho2,⟨.ref b,H,I,rfl,q⟩⟩
end
end St
end
noncomputable section
namespace Mi
open PySem PySem.Spec L2
inductive D where
 |non|bl (b:oQ)|int (i:Int)|str (x:Str)|ty (n:qo)|tup (ds:Gc D)|lst (ds:Gc D)|dct (kvs:Gc (Key×D))|scr (ns:Gc Int)|ref (n:Nat)
inductive Wv where
 |val (d:D)|own (ds:Gc D)
inductive Cl where
 |lst (ds:Gc D)|dct (kvs:Gc (Key×D))|tab (x:Str)
abbrev Sto:=Gc Cl
structure Ms where
 cel:Gc nI
 tmp:Gc nI
def Ms.mem(M:Ms)(a:nI):Prop:=a∈M.cel\/a∈M.tmp
noncomputable def Ms.no:Ms:=⟨[],[]⟩
def KL(K:KE)(a:nI)(xs:Gc V):Prop:=∃(o:Obj) (its:pE Wp) (n:Nat),K.lookup a=Fk o/\o.cls=.type "list" /\o.dict=nD/\o.data=.seq its n/\its.size<=sizeLine/\Vals xs its.toList
mutual
inductive Dy(K:KE)(M:Ms)(H:Hp):V->D->Prop
 |non:Dy K M H .non .non
 |bl (b:oQ):Dy K M H (.bl b) (.bl b)
 |int (i:Int):Dy K M H (.int i) (.int i)
 |str (x:Str):Dy K M H (.str x) (.str x)
 |ty (n:qo):Dy K M H (.ty n) (.ty n)
 |tup {a:nI} {xs:Gc V} {ds:Gc D} (h:SqT K H a xs) (r:Ah K M H xs ds):Dy K M H (.ref a) (.tup ds)
 |lst {a:nI} {xs:Gc V} {ds:Gc D} (h:H a=Fk (.lst xs)) (n:¬M.mem a) (r:Ah K M H xs ds):Dy K M H (.ref a) (.lst ds)
 |scr {a:nI} {ns:Gc Int} (h:(Rd H a (.lst (ns.map V.int))/\¬M.mem a)\/KL K a (ns.map V.int)):Dy K M H (.ref a) (.scr ns)
 |dct {a:nI} {kvs:Gc (Key×V)} {es:Gc (Key×D)} (h:H a=Fk (.dK kvs)) (n:¬M.mem a) (r:DA K M H kvs es):Dy K M H (.ref a) (.dct es)
 |ref {a:nI} {n:Nat} (h:M.cel[n]?=Fk a):Dy K M H (.ref a) (.ref n)
inductive Ah(K:KE)(M:Ms)(H:Hp):Gc V->Gc D->Prop
 |nil:Ah K M H [] []
 |cons {v:V} {d:D} {vs:Gc V} {ds:Gc D} (h:Dy K M H v d) (t:Ah K M H vs ds):Ah K M H (v::vs) (d::ds)
inductive DA(K:KE)(M:Ms)(H:Hp):Gc (Key×V)->Gc (Key×D)->Prop
 |nil:DA K M H [] []
 |cons {k:Key} {v:V} {d:D} {vs:Gc (Key×V)} {ds:Gc (Key×D)} (h:Dy K M H v d) (t:DA K M H vs ds):DA K M H ((k,v)::vs) ((k,d)::ds)
end
def MOk(M:Ms)(H:Hp):Prop:=∀a,M.mem a->(∃xs,H a=Fk (.lst xs))\/(∃kvs,H a=Fk (.dK kvs))\/∃ps,H a=Fk (.tbl ps)
structure Sp1(M:Ms)(H:Hp)(M':Ms)(H':Hp):Prop where
 mo:MOk M H
 pre:M.cel <+: M'.cel
 fresh:∀a,M'.mem a->M.mem a\/H a=nD
 keep:∀a o,H a=Fk o->¬M.mem a->H' a=Fk o
structure Gr(M:Ms)(H:Hp)(M':Ms)(H':Hp):Prop where
 mo:MOk M H
 pre:M.cel <+: M'.cel
 tmp:M'.tmp=M.tmp
 fresh:∀a,a∈M'.cel->a∈M.cel\/H a=nD
 keep:∀a o,H a=Fk o->a∉M.cel->H' a=Fk o
 some:∀a,H a≠nD->H' a≠nD
section
variable{K:KE}{M M' M2:Ms}{H H' H2:Hp}
theorem MOk.some(mo:MOk M H){a:nI}(h:M.mem a):H a≠none:=λz=>by
 rcases mo a h with⟨xs,e⟩|⟨xs,e⟩|⟨xs,e⟩<;>(rw[e]at z;cases z)
theorem Gr.st(g:Gr M H M' H'):Sp1 M H M' H':=⟨g.mo,g.pre,λa z=>z.elim (λz=>(g.fresh a z).imp .inl id) λz=>.inl (.inr (by rw[<-g.tmp];exact z)),λa o e n=>g.keep a o e λz=>n (.inl z)⟩
theorem Gr.refl(mo:MOk M H):Gr M H M H:=⟨mo,pB,rfl,λ_ z=>.inl z,λ_ _ e _=>e,λ_ e=>e⟩
theorem Gr.none(g:Gr M H M' H'){a:nI}(h:H' a=nD):H a=none:=by
 cases e:H a with
 |none=>rfl
 |some o=>exact absurd h (g.some a (by rw[e];intro z;cases z))
theorem Gr.trans(h:Gr M H M' H')(g:Gr M' H' M2 H2):Gr M H M2 H2:=
 ⟨h.mo,h.pre.trans g.pre,g.tmp.trans h.tmp,λa z=>(g.fresh a z).elim (h.fresh a) λz=>.inr (h.none z),λa o e n=>g.keep a o (h.keep a o e n) (λz=>by
   rcases h.fresh a z with z|z
   .exact n z
   .rw[e]at z;cases z),λa e=>g.some a (h.some a e)⟩
theorem Gr.grow(mo:MOk M H)(k:∀a o,H a=Fk o->H' a=Fk o):Gr M H M H':=
 ⟨mo,pB,rfl,λ_ z=>.inl z,λb u eb _=>k b u eb,λb eb z=>by
   cases h:H b with
   |none=>exact eb h
   |some o=>rw[k b o h]at z;cases z⟩
theorem OJ{α:Type}{xs ys:Gc α}(h:xs <+: ys){n:Nat}{a:α}(e:xs[n]?=Fk a):ys[n]?=Fk a:=by
 obtain⟨zs,rfl⟩:=h
 rw[nJ (nP.mp e).1]
 exact e
theorem X5{a:nI}{xs:Gc V}(h:SqT K H a xs)(k:∀b o,H b=Fk o->(∀ys,o≠.lst ys)->(∀ys,o≠.dK ys)->(∀ys,o≠.tbl ys)->H' b=Fk o):SqT K H' a xs:=by
 rcases h with h|h
 .rcases h with h|⟨o,h⟩
  .exact .inl (.inl (k _ _ h (λys z=>by cases z) (λys z=>by cases z) λys z=>by cases z))
  .exact .inl (.inr ⟨o,k _ _ h (λys z=>by cases z) (λys z=>by cases z) λys z=>by cases z⟩)
 .exact .inr h
theorem Sp1.sqT(g:Sp1 M H M' H'){a:nI}{xs:Gc V}(h:SqT K H a xs):SqT K H' a xs:=X5 h λb o e n1 n2 n3=>g.keep b o e λz=>by
 rcases g.mo b z with⟨ys,q⟩|⟨ys,q⟩|⟨ys,q⟩
 .exact n1 ys (oy (e.symm.trans q))
 .exact n2 ys (oy (e.symm.trans q))
 .exact n3 ys (oy (e.symm.trans q))
theorem Sp1.nm(g:Sp1 M H M' H'){a:nI}{o:HO}(e:H a=Fk o)(n:¬M.mem a):¬M'.mem a:=λz=>by
 rcases g.fresh _ z with z|z
 .exact n z
 .rw[z]at e;cases e
mutual
theorem Dy.step(g:Sp1 M H M' H'):∀{v:V} {d:D},Dy K M H v d->Dy K M' H' v d
 |_,_,.non=>.non
 |_,_,.bl b=>.bl b
 |_,_,.int b=>.int b
 |_,_,.str b=>.str b
 |_,_,.ty b=>.ty b
 |_,_,.tup h r=>.tup (g.sqT h) (Ah.step g r)
 |_,_,.lst (a:=a) (xs:=xs) h n r=>.lst (g.keep _ _ h n) (g.nm h n) (Ah.step g r)
 |_,_,.scr (a:=a) (ns:=ns) h=>by
  rcases h with⟨h,n⟩|h
  .rcases h with h|⟨o,h⟩
   .exact .scr (.inl ⟨.inl (g.keep _ _ h n),g.nm h n⟩)
   .exact .scr (.inl ⟨.inr ⟨o,g.keep _ _ h n⟩,g.nm h n⟩)
  .exact .scr (.inr h)
 |_,_,.dct (a:=a) h n r=>.dct (g.keep _ _ h n) (g.nm h n) (DA.step g r)
 |_,_,.ref h=>.ref (OJ g.pre h)
theorem Ah.step(g:Sp1 M H M' H'):∀{v:Gc V} {d:Gc D},Ah K M H v d->Ah K M' H' v d
 |_,_,.nil=>.nil
 |_,_,.cons h t=>.cons (Dy.step g h) (Ah.step g t)
theorem DA.step(g:Sp1 M H M' H'):∀{v:Gc (Key×V)} {d:Gc (Key×D)},DA K M H v d->DA K M' H' v d
 |_,_,.nil=>.nil
 |_,_,.cons h t=>.cons (Dy.step g h) (DA.step g t)
end
theorem Ah.length:∀{v:Gc V} {d:Gc D},Ah K M H v d->v.length=d.length
 |_,_,.nil=>rfl
 |_,_,.cons _ t=>by simp[Ah.length t]
theorem Ah.get:∀{v:Gc V} {d:Gc D} {i:Nat} {y:D},Ah K M H v d->d[i]?=Fk y->∃x,v[i]?=Fk x/\Dy K M H x y
 |_,_,i,y,.nil,e=>by simp at e
 |_,_,0,y,.cons h t,e=>by simp at e;subst e;exact⟨_,rfl,h⟩
 |_,_,i+1,y,.cons h t,e=>by
  obtain⟨x,h1,h2⟩:=Ah.get (i:=i) t (by simpa using e)
  exact⟨x,by simpa using h1,h2⟩
theorem Ah.append:∀{v v':Gc V} {d d':Gc D},Ah K M H v d->Ah K M H v' d'->Ah K M H (v++v') (d++d')
 |_,_,_,_,.nil,s=>s
 |_,_,_,_,.cons h t,s=>.cons h (Ah.append t s)
theorem Ah.take:∀{v:Gc V} {d:Gc D} (n:Nat),Ah K M H v d->Ah K M H (v.take n) (d.take n)
 |_,_,0,_=>.nil
 |_,_,_+1,.nil=>.nil
 |_,_,n+1,.cons h t=>.cons h (Ah.take n t)
theorem Ah.drop:∀{v:Gc V} {d:Gc D} (n:Nat),Ah K M H v d->Ah K M H (v.drop n) (d.drop n)
 |_,_,0,r=>r
 |_,_,_+1,.nil=>.nil
 |_,_,n+1,.cons _ t=>Ah.drop n t
theorem Ah.set{x:V}{y:D}(r:Dy K M H x y):∀{v:Gc V} {d:Gc D} (i:Nat),Ah K M H v d->Ah K M H (v.set i x) (d.set i y)
 |_,_,_,.nil=>.nil
 |_,_,0,.cons _ t=>.cons r t
 |_,_,i+1,.cons q t=>.cons q (Ah.set r i t)
end
abbrev En:=Gc (nG D)
abbrev Sg:=Gc (nG V)
structure EnR(K:KE)(M:Ms)(E:En)(σ:Sg)(H:Hp):Prop where
 len:E.length=σ.length
 val:∀(i:Nat) (d:D),E[i]?=Fk (Fk d)->∃v,σ[i]?=Fk (Fk v)/\Dy K M H v d
noncomputable def MI(x:Str):Str:=(x++(".<locals>.":Str))++("<lambda>":Str)
def K0(K:KE)(c P:nI):Prop:=
 ∃o vs file tf flags tg inF text tt,K.lookup c=Fk o/\o.cls=ua "code" /\o.data=wx vs/\vs[11]?=Fk (pL P)/\vs.getD 11 pN=pL P/\vs.getD 18 pN=uO file tf/\vs.getD 7 pN=uN flags tg/\vs.getD 9 pN=vb inF/\vs.getD 10 pN=uN text tt/\c≠P
def TabAt(K:KE)(x:Str)(P:nI):Prop:=
 ∃f oc od fd osl c,qC K mainGlobals x=Fk (Fk (pL f))/\K.lookup f=Fk ⟨oc,od,Data.func fd,osl⟩/\fd.code=pL c/\K0 K c P
def U9(q:Str)(o:Obj):Prop:=∃vs t,o.data=wx vs/\vs[1]?=Fk (uO q t)
structure TV(K:KE)(H:Hp)(x:Str)(P:nI)(ps:pE Wp):Prop where
 tri:yz ps.toList
 tat:TabAt K x P
 cod:∀pos cv,PySem.codeAmong pos ps.toList=Fk cv->∃c o,cv=pL c/\H c=Fk (.frz o (.own 0))/\U9 (MI x) o
theorem TV.step{x:Str}{P:nI}{ps:pE Wp}{K:KE}{M M':Ms}{H H':Hp}(t:TV K H x P ps)(g:Sp1 M H M' H'):TV K H' x P ps:=⟨t.tri,t.tat,λpos cv e=>by
 obtain⟨c,o,h1,h2,h3⟩:=t.cod pos cv e
 refine⟨c,o,h1,g.keep _ _ h2 λz=>?_,h3⟩
 rcases g.mo c z with⟨ys,q⟩|⟨ys,q⟩|⟨ys,q⟩<;>(rw[h2]at q;cases q)⟩
def aK(K:KE)(M:Ms)(H:Hp)(a:nI):Cl->Prop
 | .lst ds=>∃xs,H a=Fk (.lst xs)/\Ah K M H xs ds
 | .dct es=>∃kvs,H a=Fk (.dK kvs)/\DA K M H kvs es
 | .tab x=>∃ps,H a=Fk (.tbl ps)/\TV K H x a ps
structure StR(K:KE)(M:Ms)(S:Sto)(H:Hp):Prop where
 mo:MOk M H
 nd:M.cel.Nodup
 nt:∀a∈M.tmp,a∉M.cel
 len:M.cel.length=S.length
 cell:∀(n:Nat) (a:nI) (c:Cl),M.cel[n]?=Fk a->S[n]?=Fk c->aK K M H a c
section
variable{K:KE}{M M' M2:Ms}{H H' H2:Hp}{E:En}{σ:Sg}{S:Sto}
theorem EnR.step(r:EnR K M E σ H)(g:Sp1 M H M' H'):EnR K M' E σ H':=⟨r.len,λi d e=>by
 obtain⟨v,h1,h2⟩:=r.val i d e
 exact⟨v,h1,h2.step g⟩⟩
theorem StR.at(r:StR K M S H){n:Nat}{c:Cl}(e:S[n]?=Fk c):∃a,M.cel[n]?=Fk a/\aK K M H a c:=by
 have hn:n<M.cel.length:=by rw[r.len];exact(nP.mp e).1
 exact⟨_,nM hn,r.cell n _ c (nM hn) e⟩
theorem StR.grow(r:StR K M S H)(k:∀a o,H a=Fk o->H' a=Fk o):StR K M S H':=by
 have g:Sp1 M H M H':=⟨r.mo,pB,λ_ z=>.inl z,λa o e _=>k a o e⟩
 refine⟨λa z=>(r.mo a z).imp (λ⟨xs,e⟩=>⟨xs,k _ _ e⟩) (Or.imp (λ⟨xs,e⟩=>⟨xs,k _ _ e⟩) λ⟨xs,e⟩=>⟨xs,k _ _ e⟩),r.nd,r.nt,r.len,λn a c h1 h2=>?_⟩
 have q:=r.cell n a c h1 h2
 cases c with
 |lst ds=>obtain⟨xs,e,rr⟩:=q;exact⟨xs,k _ _ e,rr.step g⟩
 |dct ds=>obtain⟨xs,e,rr⟩:=q;exact⟨xs,k _ _ e,rr.step g⟩
 |tab ds=>obtain⟨xs,e,rr⟩:=q;exact⟨xs,k _ _ e,rr.step g⟩
theorem StR.chg(r:StR K M S H){n:Nat}{a:nI}{ds es:Gc D}{ys:Gc V}(h1:M.cel[n]?=Fk a)(h2:S[n]?=Fk (.lst ds))(hy:Ah K M H ys es):StR K M (S.set n (.lst es)) (upd H a (.lst ys))/\Gr M H M (upd H a (.lst ys)):=by
 have ha:a∈M.cel:=ni h1
 have hl:n<S.length:=(nP.mp h2).1
 have g:Gr M H M (upd H a (.lst ys)):=⟨r.mo,pB,rfl,λ_ z=>.inl z,λb o eb nb=>by rw[Ab (λz=>nb (by rw[z];exact ha))];exact eb,λb eb=>by
  by_cases h:b=a
  .subst h;rw[BL];intro z;cases z
  .rw[Ab h];exact eb⟩
 refine⟨⟨λb z=>?_,r.nd,r.nt,by rw[qR];exact r.len,λm b c e1 e2=>?_⟩,g⟩
 .by_cases h:b=a
  .subst h;exact .inl ⟨ys,BL⟩
  .rw[Ab h];exact r.mo b z
 .by_cases h:n=m
  .subst h
   rw[h1]at e1;cases e1
   rw[nZ hl]at e2;cases e2
   exact⟨ys,BL,hy.step g.st⟩
  .rw[nN h]at e2
   have hb:b≠a:=λz=>by
    subst z
    exact h ((sH (nP.mp h1).1 r.nd).mp (h1.trans e1.symm))
   have q:=r.cell m b c e1 e2
   cases c with
   |lst fs=>obtain⟨xs,e,rr⟩:=q;exact⟨xs,by rw[Ab hb];exact e,rr.step g.st⟩
   |dct fs=>obtain⟨xs,e,rr⟩:=q;exact⟨xs,by rw[Ab hb];exact e,rr.step g.st⟩
   |tab fs=>obtain⟨xs,e,rr⟩:=q;exact⟨xs,by rw[Ab hb];exact e,rr.step g.st⟩
theorem StR.bM(r:StR K M S H){a:nI}{xs:Gc V}{ds:Gc D}(e:H a=nD)(k:∀b o,H b=Fk o->H' b=Fk o)(ea:H' a=Fk (.lst xs))(rr:Ah K M H xs ds):StR K ⟨M.cel++[a],M.tmp⟩ (S++[.lst ds]) H'/\Gr M H ⟨M.cel++[a],M.tmp⟩ H':=by
 have g:Gr M H ⟨M.cel++[a],M.tmp⟩ H':=⟨r.mo,qy _ _,rfl,λb z=>by
  rcases oD.mp z with z|z
  .exact .inl z
  .simp at z;subst z;exact .inr e,λb o eb _=>k b o eb,λb eb z=>by
  cases h:H b with
  |none=>exact eb h
  |some o=>rw[k b o h]at z;cases z⟩
 have na:¬M.mem a:=λz=>r.mo.some z e
 refine⟨⟨λb z=>?_,?_,λb hb z=>?_,by simp[r.len],λm b c e1 e2=>?_⟩,g⟩
 .have z':M.mem b\/b=a:=by
   rcases z with z|z
   .rcases oD.mp z with z|z
    .exact .inl (.inl z)
    .simp at z;exact .inr z
   .exact .inl (.inr z)
  rcases z' with z|z
  .exact(r.mo b z).imp (λ⟨xs,e⟩=>⟨xs,k _ _ e⟩) (Or.imp (λ⟨xs,e⟩=>⟨xs,k _ _ e⟩) λ⟨xs,e⟩=>⟨xs,k _ _ e⟩)
  .subst z;exact .inl ⟨xs,ea⟩
 .rw[sI]
  refine⟨r.nd,by simp,λx hx y hy=>?_⟩
  simp at hy;subst hy
  exact λz=>na (.inl (by rw[<-z];exact hx))
 .rcases oD.mp z with z|z
  .exact r.nt b hb z
  .simp at z;subst z;exact na (.inr hb)
 .by_cases h:m<S.length
  .rw[nJ (by rw[r.len];exact h)]at e1
   rw[nJ h]at e2
   have q:=r.cell m b c e1 e2
   cases c with
   |lst fs=>obtain⟨xs,e,rr⟩:=q;exact⟨xs,k _ _ e,rr.step g.st⟩
   |dct fs=>obtain⟨xs,e,rr⟩:=q;exact⟨xs,k _ _ e,rr.step g.st⟩
   |tab fs=>obtain⟨xs,e,rr⟩:=q;exact⟨xs,k _ _ e,rr.step g.st⟩
  .have hm:m=S.length:=by
    have:=(nP.mp e2).1
    simp at this;lia
   subst hm
   rw[oI (by rw[r.len];exact nS _)]at e1
   rw[oI (nS _)]at e2
   rw[r.len]at e1
   simp at e1 e2
   subst e1 e2
   exact⟨xs,ea,rr.step g.st⟩
end
abbrev Ev:=En->Sto->nG (D×Sto)
noncomputable def tD(K:KE)(f:Ev):TE:=λσ H Q=>∃M E S d S',f E S=Fk (d,S')/\EnR K M E σ H/\StR K M S H/\∀v H' M',Gr M H M' H'->StR K M' S' H'->Dy K M' H' v d->Q v H'
structure DE(X:Cx)(e:oA)(f:Ev):Prop where
 pe:PE X e (tD X.K f)
theorem Bz{X:Cx}{e:oA}{t t':TE}(h:PE X e t)(m:∀σ H Q,t' σ H Q->t σ H Q):PE X e t':=λpins s σ H Q I q=>h pins s σ H Q I (m _ _ _ q)
theorem UC{X:Cx}{e:oA}{t t':TT}(h:PT X e t)(m:∀σ H Q,t' σ H Q->t σ H Q):PT X e t':=λpins s σ H Q I q=>h pins s σ H Q I (m _ _ _ q)
theorem Jl{K:KE}{f:Ev}{σ:Sg}{H:Hp}{Q Q':VK}(h:tD K f σ H Q)(m:∀v H',Q v H'->Q' v H'):tD K f σ H Q':=by
 obtain⟨M,E,S,d,S',e,r,st,q⟩:=h
 exact⟨M,E,S,d,S',e,r,st,λv H' M' g s r=>m _ _ (q v H' M' g s r)⟩
theorem BA{α β:Type}{o:nG α}{k:α->nG β}{y:β}(e:o.bind k=Fk y):∃x,o=Fk x/\k x=Fk y:=by
 cases o with
 |none=>cases e
 |some x=>exact⟨x,rfl,e⟩
theorem Ky{α β:Type}{o:nG α}{k:α->β}{y:β}(e:o.map k=Fk y):∃x,o=Fk x/\k x=y:=by
 cases o with
 |none=>cases e
 |some x=>cases e;exact⟨x,rfl,rfl⟩
noncomputable def fz:Wv->D
 | .val d=>d
 | .own ds=>.lst ds
noncomputable def at?(E:En)(i:Nat):nG D:=(E[i]?).join
theorem at?_some{E:En}{i:Nat}{w:D}(h:at? E i=Fk w):E[i]?=Fk (Fk w):=by
 unfold at? at h
 cases e:E[i]? with
 |none=>rw[e]at h;cases h
 |some q=>rw[e]at h;exact congrArg Fk h
noncomputable def evs:Gc Ev->En->Sto->nG (Gc D×Sto)
 | [],_,S=>Fk ([],S)
 |f::fs,E,S=>(f E S).bind λr=>(evs fs E r.2).map λq=>(r.1::q.1,q.2)
noncomputable def tDs(K:KE):Gc Ev->TA
 | []=>j4
 |f::fs=>cR (tD K f) (tDs K fs)
structure DEs(X:Cx)(es:Gc oA)(fs:Gc Ev):Prop where
 pe:PA X es (tDs X.K fs)
theorem AD{X:Cx}:DEs X [] []:=⟨U8⟩
theorem AA{X:Cx}{e:oA}{es:Gc oA}{f:Ev}{fs:Gc Ev}(h:DE X e f)(t:DEs X es fs)(hs:nk (e::es) X.env=(false,eval e X.env)::nk es X.env:=by rfl):DEs X (e::es) (f::fs):=⟨O1 h.pe t.pe hs⟩
section
variable{K:KE}{M M':Ms}{E:En}{S:Sto}{σ:Sg}{H H':Hp}
theorem ID:∀{fs:Gc Ev} {M:Ms} {S:Sto} {ds:Gc D} {S':Sto} {H:Hp} {Q:Gc V->Hp->Prop},evs fs E S=Fk (ds,S')->EnR K M E σ H->StR K M S H->(∀vs H' M',Gr M H M' H'->StR K M' S' H'->Ah K M' H' vs ds->Q vs H')->tDs K fs σ H Q
 | [],M,S,ds,S',H,Q,e,r,st,q=>by
   cases e
   exact q [] H M (.refl st.mo) st .nil
 |f::fs,M,S,ds,S',H,Q,e,r,st,q=>by
  obtain⟨⟨d,S1⟩,e1,e⟩:=BA e
  obtain⟨⟨es,S2⟩,e2,e⟩:=Ky e
  cases e
  refine⟨M,E,S,d,S1,e1,r,st,λv H1 M1 g1 st1 d1=>?_⟩
  exact ID e2 (r.step g1.st) st1 λvs H2 M2 g2 st2 d2=>q _ _ M2 (g1.trans g2) st2 (.cons (d1.step g2.st) d2)
theorem ML:∀{fs:Gc Ev} {S:Sto} {ds:Gc D} {S':Sto},evs fs E S=Fk (ds,S')->ds.length=fs.length
 | [],_,_,_,e=>by cases e;rfl
 |f::fs,S,ds,S',e=>by
  obtain⟨⟨d,S1⟩,e1,e⟩:=BA e
  obtain⟨⟨es,S2⟩,e2,e⟩:=Ky e
  cases e
  simp[ML e2]
def Sh(K:KE)(M:Ms)(H:Hp)(v:V):Wv->Prop
 | .val d=>Dy K M H v d
 | .own ds=>∃a xs,v=.ref a/\H a=Fk (.lst xs)/\Ah K M H xs ds
inductive Shs(K:KE)(M:Ms)(H:Hp):Gc V->Gc Wv->Prop
 |nil:Shs K M H [] []
 |cons {v:V} {w:Wv} {vs:Gc V} {ws:Gc Wv} (h:Sh K M H v w) (t:Shs K M H vs ws):Shs K M H (v::vs) (w::ws)
noncomputable def dr(S:Sto):D->Wv
 | .ref n=>match S[n]? with
   |some (.lst ds)=>.own ds
   |_=>.val (.ref n)
 |d=>.val d
theorem bD(st:StR K M S H){v:V}{d:D}(h:Dy K M H v d):Sh K M H v (dr S d):=by
 cases h with
 |ref h=>
  rename_i a n
  show Sh K M H (.ref a) (match S[n]? with|some (.lst ds)=>.own ds|_=>.val (.ref n))
  split
  .rename_i ds e
   obtain⟨xs,h1,h2⟩:=st.cell n a _ h e
   exact⟨a,xs,rfl,h1,h2⟩
  .exact .ref h
 |non=>exact .non
 |bl b=>exact .bl b
 |int b=>exact .int b
 |str b=>exact .str b
 |ty b=>exact .ty b
 |tup h r=>exact .tup h r
 |lst h n r=>exact .lst h n r
 |scr h=>exact .scr h
 |dct h n r=>exact .dct h n r
theorem Y3(st:StR K M S H):∀{vs:Gc V} {ds:Gc D},Ah K M H vs ds->Shs K M H vs (ds.map (dr S))
 |_,_,.nil=>.nil
 |_,_,.cons h t=>.cons (bD st h) (Y3 st t)
def NwR(K:KE)(M:Ms)(H H':Hp)(v:V):Wv->Prop
 | .val d=>Dy K M H' v d
 | .own ds=>∃a xs,v=.ref a/\H a=nD/\H' a=Fk (.lst xs)/\Ah K M H xs ds
structure Nw(K:KE)(M:Ms)(H H':Hp)(v:V)(w:Wv):Prop where
 grow:∀a o,H a=Fk o->H' a=Fk o
 rel:NwR K M H H' v w
theorem Nw.same{v:V}{d:D}(mo:MOk M H)(h:Dy K M H v d):Nw K M H H v (.val d):=⟨λ_ _ e=>e,h⟩
theorem Hs{a:nI}{o:HO}(e:H a=nD):∀b u,H b=Fk u->upd H a o b=Fk u:=λb u eb=>by rw[Ab (λz=>by subst z;rw[e]at eb;cases eb)];exact eb
theorem Nw.lst{a:nI}{xs:Gc V}{ds:Gc D}(mo:MOk M H)(e:H a=nD)(h:Ah K M H xs ds):Nw K M H (upd H a (.lst xs)) (.ref a) (.own ds):=⟨Hs e,a,xs,rfl,e,BL,h⟩
theorem Nw.tup{a:nI}{xs:Gc V}{ds:Gc D}(mo:MOk M H)(e:H a=nD)(h:Ah K M H xs ds):Nw K M H (upd H a (.tup xs)) (.ref a) (.val (.tup ds)):=⟨Hs e,.tup (.of BL) (h.step (Gr.grow mo (Hs e)).st)⟩
noncomputable def fin:oQ->Wv->Sto->nG (D×Sto)
 |_,.val d,S=>Fk (d,S)
 |false,.own ds,S=>Fk (.lst ds,S)
 |true,.own ds,S=>Fk (.ref S.length,S++[.lst ds])
theorem Nw.fin{c:oQ}{v:V}{w:Wv}{d:D}{S':Sto}(n:Nw K M H H' v w)(st:StR K M S H)(e:fin c w S=Fk (d,S')):∃M',Gr M H M' H'/\StR K M' S' H'/\Dy K M' H' v d:=by
 cases w with
 |val d'=>
  cases e
  exact⟨M,.grow st.mo n.grow,st.grow n.grow,n.rel⟩
 |own ds=>
  obtain⟨a,xs,rfl,h1,h2,h3⟩:=n.rel
  cases c with
  |false=>
   cases e
   exact⟨M,.grow st.mo n.grow,st.grow n.grow,.lst h2 (λz=>st.mo.some z h1) (h3.step (Gr.grow st.mo n.grow).st)⟩
  |true=>
   cases e
   obtain⟨s1,g1⟩:=st.bM h1 n.grow h2 h3
   refine⟨_,g1,s1,.ref ?_⟩
   rw[<-st.len]
   exact oC
abbrev Op1:=Wv->nG Wv
abbrev Op2:=Wv->Wv->nG Wv
abbrev OpN:=Gc Wv->nG Wv
noncomputable def rOp(K:KE)(op:Op2):R2:=λx y H Q=>∃M w1 w2 r,op w1 w2=Fk r/\MOk M H/\Sh K M H x w1/\Sh K M H y w2/\∀v H',Nw K M H H' v r->Q v H'
def rUn(K:KE)(op:Op1):V->Hp->VK->Prop:=λx H Q=>∃M w r,op w=Fk r/\MOk M H/\Sh K M H x w/\∀v H',Nw K M H H' v r->Q v H'
def rN(K:KE)(op:OpN):Gc V->Hp->VK->Prop:=λxs H Q=>∃M ws r,op ws=Fk r/\MOk M H/\Shs K M H xs ws/\∀v H',Nw K M H H' v r->Q v H'
noncomputable def PU(c:oQ)(op:OpN)(fs:Gc Ev):Ev:=λE S=>(evs fs E S).bind λr=>(op (r.1.map (dr r.2))).bind λw=>fin c w r.2
abbrev eOp:=PU false
abbrev bX:=PU true
noncomputable def o1(op:Op1):OpN| [a]=>op a|_=>nD
noncomputable def o2(op:Op2):OpN| [a,b]=>op a b|_=>nD
theorem N1{c:oQ}{op:OpN}{fs:Gc Ev}{Q:VK}{d:D}{S':Sto}(e:PU c op fs E S=Fk (d,S'))(r:EnR K M E σ H)(st:StR K M S H)(h:∀v H' M',Gr M H M' H'->StR K M' S' H'->Dy K M' H' v d->Q v H'):tDs K fs σ H λvs H1=>rN K op vs H1 Q:=by
 obtain⟨⟨ds,S1⟩,e1,e⟩:=BA e
 obtain⟨w,e2,e⟩:=BA e
 refine ID e1 r st λvs H1 M1 g1 st1 d1=>⟨M1,_,w,e2,st1.mo,Y3 st1 d1,λv H2 n=>?_⟩
 obtain⟨M2,g2,st2,d2⟩:=n.fin st1 e
 exact h v H2 M2 (g1.trans g2) st2 d2
end
theorem eT{K:KE}{f:Op2}{x y:V}{H:Hp}{Q:VK}(h:rN K (o2 f) [x,y] H Q):rOp K f x y H Q:=by
 obtain⟨M,ws,r,e,mo,s,q⟩:=h
 cases s with
 |cons h1 s=>
  cases s with
  |cons h2 s=>
   cases s
   exact⟨M,_,_,r,e,mo,h1,h2,q⟩
theorem dA{K:KE}{f:Op1}{x:V}{H:Hp}{Q:VK}(h:rN K (o1 f) [x] H Q):rUn K f x H Q:=by
 obtain⟨M,ws,r,e,mo,s,q⟩:=h
 cases s with
 |cons h1 s=>
  cases s
  exact⟨M,_,r,e,mo,h1,q⟩
theorem Ra{K:KE}{c:oQ}{f:Op2}{fa fb:Ev}{σ:Sg}{H:Hp}{Q:VK}(h:tD K (PU c (o2 f) [fa,fb]) σ H Q):tOp (rOp K f) (tD K fa) (tD K fb) σ H Q:=by
 obtain⟨M,E,S,d,S',e,r,st,q⟩:=h
 have z:tD K fa σ H λx H1=>tD K fb σ H1 λy H2=>rN K (o2 f) [x,y] H2 Q:=N1 (Q:=Q) e r st q
 exact Jl z λx H1 z1=>Jl z1 λy H2 z2=>eT z2
theorem cc{K:KE}{c:oQ}{f:Op1}{fa:Ev}{σ:Sg}{H:Hp}{Q:VK}(h:tD K (PU c (o1 f) [fa]) σ H Q):tUn (rUn K f) (tD K fa) σ H Q:=by
 obtain⟨M,E,S,d,S',e,r,st,q⟩:=h
 have z:tD K fa σ H λx H1=>rN K (o1 f) [x] H1 Q:=N1 (Q:=Q) e r st q
 exact Jl z λx H1 z1=>dA z1
section
variable{X:Cx}{a b e:oA}{es:Gc oA}{fa fb:Ev}{fs:Gc Ev}{pos p:Pos}{c:oQ}
theorem AY{op:Operator}{f:Op2}(ho:OpR X (binaryOp op) (rOp X.K f))(ha:DE X a fa)(hb:DE X b fb):DE X (.BinOp a op b pos) (PU c (o2 f) [fa,fb]):=⟨Bz (jV ho ha.pe hb.pe) λ_ _ _ h=>Ra h⟩
theorem IA{op:CmpOp}{f:Op2}(ho:OpR X (compareOp op) (rOp X.K f))(ha:DE X a fa)(hb:DE X b fb)(hm:behindInMarks op b=false:=by rfl):DE X (.Compare a [op] [b] pos) (PU c (o2 f) [fa,fb]):=⟨Bz (Zr ho ha.pe hb.pe hm) λ_ _ _ h=>Ra h⟩
theorem O2{op:UnaryOp}{f:Op1}(ho:UnR X (unaryOp op) (rUn X.K f))(ha:DE X a fa):DE X (.UnaryOp op a pos) (PU c (o1 f) [fa]):=⟨Bz (ia ho ha.pe) λ_ _ _ h=>cc h⟩
theorem AL{f:Op2}(hr:IxR X (rOp X.K f))(ha:DE X a fa)(hb:DE X b fb)(hs:UE b:=by exact λ_ _=>rfl):DE X (.Subscript a b pos) (PU c (o2 f) [fa,fb]):=⟨Bz (jH hr ha.pe hb.pe hs) λ_ _ _ h=>Ra h⟩
theorem BK{id:qo}{x:Str}{f:OpN}(hc:Ga X (.builtin id) (rN X.K f))(hg:Gl X x)(hm:X.mg x=nD)(hv:bootBuiltins x=Fk (.builtin id))(ha:DEs X (e::es) fs)(hn:x≠ "__name__":=by decide)(hdb:(x==("__debug__":Str))=false:=by decide)(he:nk (e::es) X.env=(false,eval e X.env)::nk es X.env:=by rfl)(hpl:(backTo pos (nk es X.env)).any (·.1)=false:=by rfl):DE X (.Call (.Name x p) (e::es) [] pos) (PU c f fs):=⟨
 Bz (XJ hc hg hm hv ha.pe hn hdb he hpl) λ_ _ _ h=>by
  obtain⟨M,E,S,d,S',e,r,st,q⟩:=h
  exact N1 e r st q⟩
theorem A6{T:qo}{x:Str}{f:OpN}(hc:Ga X (.type T) (rN X.K f))(hg:Gl X x)(hm:X.mg x=nD)(hv:bootBuiltins x=Fk (.type T))(ha:DEs X (e::es) fs)(hn:x≠ "__name__":=by decide)(hdb:(x==("__debug__":Str))=false:=by decide)(he:nk (e::es) X.env=(false,eval e X.env)::nk es X.env:=by rfl)(hpl:(backTo pos (nk es X.env)).any (·.1)=false:=by rfl):DE X (.Call (.Name x p) (e::es) [] pos) (PU c f fs):=⟨
 Bz (UH hc hg hm hv ha.pe hn hdb he hpl) λ_ _ _ h=>by
  obtain⟨M,E,S,d,S',e,r,st,q⟩:=h
  exact N1 e r st q⟩
noncomputable def eC(d:D):Ev:=λ_ S=>Fk (d,S)
theorem QK{v:V}{d:D}(h:PE X e (tC v))(r:∀K M H,Dy K M H v d):DE X e (eC d):=⟨Bz h λσ H Q z=>by
 obtain⟨M,E,S,w,S',e,rr,st,q⟩:=z
 cases e
 exact q _ _ M (.refl st.mo) st (r _ _ _)⟩
theorem AF{i:Int}{j:Nat}:DE X (.Constant (.int i) j pos) (eC (.int i)):=QK eU λ_ _ _=>.int _
theorem Je{i:oQ}{j:Nat}:DE X (.Constant (.bool i) j pos) (eC (.bl i)):=QK jU λ_ _ _=>.bl _
theorem BB{i:Str}{j:Nat}:DE X (.Constant (.str i) j pos) (eC (.str i)):=QK cU λ_ _ _=>.str _
theorem RW{j:Nat}:DE X (.Constant .none j pos) (eC .non):=QK d9 λ_ _ _=>.non
noncomputable def eV(i:Nat):Ev:=λE S=>(at? E i).map λd=>(d,S)
theorem AB(i:Nat){x:Str}(hN:X.N[i]?=Fk x:=by rfl)(hv:Vis X.env.scope x:=by first|exact xZ rfl|exact xf (xZ rfl)|exact xf (xf rfl))(hd:(x==("__debug__":Str))=false:=by decide)(hcd:(x==("__classdict__":Str))=false:=by decide):DE X (.Name x pos) (eV i):=⟨Bz (U6 hN hv hd hcd) λσ H Q z=>by
 obtain⟨M,E,S,d,S',e,r,st,q⟩:=z
 obtain⟨d',e1,e⟩:=Ky e
 cases e
 obtain⟨v,hv,rd⟩:=r.val i d (at?_some e1)
 exact⟨v,hv,q v H M (.refl st.mo) st rd⟩⟩
end
theorem IH:fillsNumberSlot (.type "tuple") "mul"=pure false:=
 fillsNumberSlot_seq (id:="tuple.__mul__") (r:=Fk (.builtin "tuple.__rmul__")) sW.lookup (by decide+kernel) wG.lookup (by decide+kernel)
theorem K5:seqRepeat? (.type "tuple")=pure (Fk (.builtin "tuple.__mul__")):=by
 unfold seqRepeat?
 rw[seqSlot_of (T:="tuple") (name:="__mul__") (id:="tuple.__mul__") sW.lookup (by decide+kernel),seqSlot_of (T:="tuple") (name:="__rmul__") (id:="tuple.__rmul__") wG.lookup (by decide+kernel)]
 rfl
theorem JW(a:Int)(t:Tok)(l:nI)(items:pE Wp)(n:Nat)(dd:nG nI)(sl:pE (nG Wp)):Meets (tK.«int.__rmul__» ⟨[.int a t,.ref l],[]⟩) (λ_ R s=>s.heap.get? l=Fk {cls:=.type "tuple",dict:=dd,data:=.seq items n,slots:=sl}/\R (.ok (.ret Value.notImplemented)) s):=
 .of_wp λprog w A R s h=>by obtain⟨hp,g,d,tk,os⟩:=s;obtain⟨hl,h⟩:=h;wp_walk;exact⟨_,rfl,h⟩
theorem Pk(its:Gc Wp)(m:Nat):vg (λx1 x2=>x1++x2) #[] (nh m its.toArray)=(nh m its).flatten.toArray:=by
 have:=foldl_rep its m []
 rw[oY]at this
 exact this
theorem Zo{X:Cx}:OpR X (binaryOp .Mult) (λx y H Q=>∃a xs k,x=.ref a/\y=.int k/\SqT X.K H a xs/\xs≠[]/\1<=k/\xs.length*k.toNat<=sizeLine/\(k=1->Q (.ref a) H)/\(k≠1->∀p,H p=nD->Q (.ref p) (upd H p (.tup (nh k.toNat xs).flatten)))):=by
 intro pins s σ H x y v u Q I rx ry h
 obtain⟨a,xs,k,rfl,rfl,hx,hne,hk,hz,q1,q2⟩:=h
 cases rx
 obtain⟨t,rfl⟩:=ry
 obtain⟨its,r,⟨⟨c,dd,data,sl⟩,ho,hc,n,hd⟩,hzz⟩:=I.tuple hx
 simp only at hc hd
 subst hc hd
 have hl:=r.length
 have hsz:its.toArray.size=xs.length:=by rw[nX];exact hl.symm
 have hpos:0<xs.length:=vV.mpr hne
 have hkl:k.toNat<=sizeLine:=nR (Nat.le_mul_of_pos_left _ hpos) hz
 have hk63:k<2^63:=by
  have:(sizeLine:Nat)<2^63:=by decide
  lia
 refine rL (T:="tuple") (U:="int") (by decide) ⟨_,ho,rfl⟩ (λs'=>sU s' k t) IH ur q8 K5 uU.lookup
  (sV q8 (sU s k t) uV (uC _ _) (JW k t a its.toArray n dd sl) ⟨ho,rfl,⟨_,ho,rfl⟩,?_⟩)
 refine qF sW ⟨_,ho,rfl⟩ wH ?_ (vj _ _)
 unfold tK.«tuple.__mul__»
 wp_walk using ny ho
 rw[oU (show¬(decide (k< -2^63)||decide (k≥2^63))=true by
  rw[pA]
  rintro (z|z)
  .have:=nV z;lia
  .have:=nV z;lia)]
 wp_walk using ny ho
 by_cases h1:k=1
 .subst h1
  rw[oP (show(its.toArray.isEmpty||(1:Int)==1)=true by simp)]
  wp_walk using ny ho
  exact⟨_,rfl,.ref a,H,I,rfl,q1 rfl⟩
 .have hemp:its.toArray.isEmpty=false:=by
   cases its with
   |nil=>rw[rX]at hl;lia
   |cons b bs=>rfl
  rw[oU (show¬(its.toArray.isEmpty||k==1)=true by rw[hemp];simpa using h1)]
  wp_walk using ny ho
  have hmul:((its.toArray.size:Int)*k)=((xs.length*k.toNat:Nat):Int):=by
   rw[hsz,uv]
   congr 1
   lia
  rw[oU (show¬(decide (k<=0)||its.toArray.isEmpty)=true by
   rw[hemp,Bool.or_false]
   intro z
   have:=nV z
   lia)]
  wp_walk
  rw[oU (show¬((its.toArray.size:Int)*k>(2^63-1) / 8) by
   rw[hmul]
   have:(sizeLine:Nat)<=(2^63-1) / 8:=by decide
   lia)]
  wp_walk
  rw[oU (show¬tZ ((its.toArray.size:Int)*k)=true by
   unfold tZ
   rw[hmul]
   intro z
   have:=nV z
   lia)]
  rw[Pk]
  wp_walk
  have hlen:(nh k.toNat its).flatten.length<=sizeLine:=by rw[len_rep,qx,<-hl];exact hz
  rw[oU (show¬((nh k.toNat its).flatten.toArray.size>sizeLine) by rw[nX];lia)]
  wp_walk
  refine⟨_,rfl,.ref _,_,I.laid (o:=.tup (nh k.toNat xs).flatten) (t':=s.toks) (λb ob q=>W1 _ q) (nS _) ?_,rfl,q2 h1 _ (I.hok.fresh (nS _))⟩
  exact⟨by rw[len_rep,qx];exact hz,_,r.rep k.toNat,rO _ _⟩
mutual
noncomputable def D.py:D->PyData
 | .non=>.none| .bl b=>.bool b| .int i=>.int i| .str x=>.str x| .ty _=>.none
 | .tup ds=>.tuple (D.pys ds)| .lst ds=>.list (D.pys ds)| .dct _=>.none| .scr _=>.none| .ref _=>.none
noncomputable def D.pys:Gc D->Gc PyData
 | []=>[]
 |d::ds=>D.py d::D.pys ds
end
mutual
noncomputable def D.lay:D->oQ
 | .non=>true| .bl _=>true| .int _=>true| .str x=>pz x| .ty _=>false| .dct _=>false| .scr _=>false| .ref _=>false
 | .tup ds=>D.Qd ds| .lst ds=>D.Qd ds
noncomputable def D.Qd:Gc D->oQ
 | []=>true
 |d::ds=>D.lay d && D.Qd ds
end
mutual
theorem MM:∀{d:D},d.lay=true->d.py.canLay0=true
 | .non,_=>rfl
 | .bl _,_=>rfl
 | .int _,_=>rfl
 | .str x,h=>h
 | .ty _,h=>qH h
 | .dct _,h=>qH h
 | .scr _,h=>qH h
 | .ref _,h=>qH h
 | .tup ds,h=>by show sJ (D.pys ds)=true;exact O8 h
 | .lst ds,h=>by show sJ (D.pys ds)=true;exact O8 h
theorem O8:∀{ds:Gc D},D.Qd ds=true->sJ (D.pys ds)=true
 | [],_=>rfl
 |d::ds,h=>by
  have h':(D.lay d && D.Qd ds)=true:=h
  rw[nU]at h'
  show(PyData.canLay0 d.py && sJ (D.pys ds))=true
  rw[MM h'.1,O8 h'.2];rfl
end
section
variable{X:Cx}{pins:Gc (nI×Obj)}{σ:Sg}{H:Hp}{s:nE}{M:Ms}
theorem ME(I:Inv X pins σ H s){a:nI}{xs:Gc V}(h:Rd H a (.lst xs)):∃its:Gc Wp,Vals xs its/\∃o n,s.heap.get? a=Fk o/\o.cls=.type "list" /\o.data=.seq its.toArray n:=by
 obtain⟨z,its,n,r,e⟩:=h.ok I.hok
 exact⟨its,r,_,n,e,rfl,rfl⟩
mutual
theorem Dy.reads(I:Inv X pins σ H s):∀{v:V} {d:D} {u:Wp},Dy X.K M H v d->RelV v u->d.lay=true->∃as,Reads s.heap u d.py as
 |_,_,_,.non,r,_=>by cases r;exact⟨_,.none⟩
 |_,_,_,.bl b,r,_=>by cases r;exact⟨_,.bool b⟩
 |_,_,_,.int b,r,_=>by obtain⟨t,rfl⟩:=r;exact⟨_,.int b t⟩
 |_,_,_,.str b,r,_=>by obtain⟨t,rfl⟩:=r;exact⟨_,.str b t⟩
 |_,_,_,.ty _,_,h=>qH h
 |_,_,_,.dct _ _ _,_,h=>qH h
 |_,_,_,.ref _,_,h=>qH h
 |_,_,_,.scr _,_,h=>qH h
 |_,_,_,.tup h rs,r,hl=>by
  cases r
  obtain⟨its,rv,⟨o,e,hc,n,hd⟩,_⟩:=I.tuple h
  obtain⟨as,ra⟩:=Ah.reads I rs rv hl
  exact⟨as,.tuple e hc hd ra⟩
 |_,_,_,.lst h _ rs,r,hl=>by
  cases r
  obtain⟨its,rv,o,n,e,hc,hd⟩:=ME I (.inl h)
  obtain⟨as,ra⟩:=Ah.reads I rs rv hl
  exact⟨_,.list e hc hd ra⟩
theorem Ah.reads(I:Inv X pins σ H s):∀{vs:Gc V} {ds:Gc D} {us:Gc Wp},Ah X.K M H vs ds->Vals vs us->D.Qd ds=true->∃as,ReadsAll s.heap us (D.pys ds) as
 |_,_,_,.nil,r,_=>by cases r;exact⟨_,.nil⟩
 |_,_,_,.cons (d:=d) (ds:=ds) h t,r,hl=>by
  cases r with
  |cons r1 r2=>
   have hl':(D.lay d && D.Qd ds)=true:=hl
   rw[nU]at hl'
   obtain⟨as,ra⟩:=Dy.reads I h r1 hl'.1
   obtain⟨bs,rb⟩:=Ah.reads I t r2 hl'.2
   exact⟨_,.cons ra rb⟩
end
end
noncomputable def deq(a b:D):oQ:=PyData.eqv a.py b.py
noncomputable def Ej(a b:D):oQ:=a.lay && b.lay && decide (min a.py.depth b.py.depth<=60)
noncomputable def wEq:Op2:=λa b=>if Ej (fz a) (fz b)=true then Fk (.val (.bl (deq (fz a) (fz b))))else nD
noncomputable def wNe:Op2:=λa b=>if Ej (fz a) (fz b)=true then Fk (.val (.bl (!deq (fz a) (fz b))))else nD
section
variable{X:Cx}
theorem Sh.reads{pins:Gc (nI×Obj)}{σ:Sg}{H:Hp}{s:nE}{M:Ms}{v:V}{u:Wp}{w:Wv}(h:Sh X.K M H v w)(I:Inv X pins σ H s)(r:RelV v u)(hl:(fz w).lay=true):∃as,Reads s.heap u (fz w).py as:=by
 cases w with
 |val d=>exact Dy.reads I h r hl
 |own ds=>
  obtain⟨a,xs,rfl,h1,h2⟩:=h
  cases r
  obtain⟨its,rv,o,n,e,hc,hd⟩:=ME I (.inl h1)
  obtain⟨as,ra⟩:=Ah.reads I h2 rv hl
  exact⟨_,.list e hc hd ra⟩
theorem Bq(hu:X.A.units+100<cLine):OpR X (compareOp .Eq) (rOp X.K wEq):=by
 intro pins s σ H x y v u Q I rx ry h
 obtain⟨M,w1,w2,r,e,mo,s1,s2,q⟩:=h
 unfold wEq at e
 split at e
 .rename_i hk
  unfold Ej at hk
  rw[nU,nU]at hk
  cases e
  obtain⟨as,ra⟩:=s1.reads I rx hk.1.1
  obtain⟨bs,rb⟩:=s2.reads I ry hk.1.2
  have hd:=nV hk.2
  exact SeqAt.compareEq_reads ra rb (MM hk.1.1) (MM hk.1.2) (by omega) ⟨.bl _,H,I,rfl,q _ _ (.same mo (.bl _))⟩
 .cases e
theorem J3(hu:X.A.units+100<cLine):OpR X (compareOp .NotEq) (rOp X.K wNe):=by
 intro pins s σ H x y v u Q I rx ry h
 obtain⟨M,w1,w2,r,e,mo,s1,s2,q⟩:=h
 unfold wNe at e
 split at e
 .rename_i hk
  unfold Ej at hk
  rw[nU,nU]at hk
  cases e
  obtain⟨as,ra⟩:=s1.reads I rx hk.1.1
  obtain⟨bs,rb⟩:=s2.reads I ry hk.1.2
  have hd:=nV hk.2
  exact SeqAt.compareNe_reads ra rb (MM hk.1.1) (MM hk.1.2) (by omega) ⟨.bl _,H,I,rfl,q _ _ (.same mo (.bl _))⟩
 .cases e
noncomputable def wI2(f:Int->Int->nG D):Op2
 | .val (.int i),.val (.int j)=>(f i j).map .val
 |_,_=>nD
theorem Rm{g:Wp->Wp->Sem Wp}{C:Int->Int->Prop}{h:Int->Int->V}{f:Int->Int->nG D}(o:OpR X g (rI C h))(hf:∀i j d,f i j=Fk d->C i j/\∀K M H,Dy K M H (h i j) d):OpR X g (rOp X.K (wI2 f)):=by
 intro pins s σ H x y v u Q I rx ry hh
 obtain⟨M,w1,w2,r,e,mo,s1,s2,q⟩:=hh
 unfold wI2 at e
 split at e
 .cases s1
  cases s2
  rename_i i j
  cases e1:f i j with
  |none=>rw[e1]at e;cases e
  |some d=>
   rw[e1]at e
   cases e
   obtain⟨c,rd⟩:=hf i j d e1
   exact o pins s σ H _ _ v u Q I rx ry ⟨i,j,rfl,rfl,c,q _ _ (.same mo (rd _ _ _))⟩
 .cases e
theorem MZ{g:Wp->Wp->Sem Wp}{h:Int->Int->V}{f:Int->Int->nG D}(o:OpR X g (rI0 h))(hf:∀i j d,f i j=Fk d->∀K M H,Dy K M H (h i j) d):OpR X g (rOp X.K (wI2 f)):=by
 intro pins s σ H x y v u Q I rx ry hh
 obtain⟨M,w1,w2,r,e,mo,s1,s2,q⟩:=hh
 unfold wI2 at e
 split at e
 .cases s1
  cases s2
  rename_i i j
  cases e1:f i j with
  |none=>rw[e1]at e;cases e
  |some d=>
   rw[e1]at e
   cases e
   exact o pins s σ H _ _ v u Q I rx ry ⟨i,j,rfl,rfl,q _ _ (.same mo (hf i j d e1 _ _ _))⟩
 .cases e
noncomputable def QS:Op2:=wI2 λi j=>Fk (.int (i-j))
noncomputable def Yt:Nat:=2^60000
noncomputable def Gq:Nat:=2^8000
noncomputable def ED(i j:Int):oQ:=decide (i.natAbs<2^64)||(decide (j.natAbs<2^64)||(decide (i.natAbs<Yt) && decide (j.natAbs<Yt)))
theorem Zm:OpR X (binaryOp .Mult) (rI (λi j=>ED i j=true) λi j=>.int (i*j)):=by
 intro pins s σ H x y v u Q I rx ry h
 obtain⟨i,j,rfl,rfl,hk,q⟩:=h
 unfold ED at hk
 rw[pA,pA,nU]at hk
 rcases hk with hk|hk|hk
 .have:=nV hk
  exact Yn pins s σ H _ _ v u Q I rx ry ⟨i,j,rfl,rfl,.inl ⟨by omega,by omega⟩,q⟩
 .have:=nV hk
  exact Yn pins s σ H _ _ v u Q I rx ry ⟨i,j,rfl,rfl,.inr ⟨by omega,by omega⟩,q⟩
 .have h1:i.natAbs<2^60000:=nV hk.1
  have h2:j.natAbs<2^60000:=nV hk.2
  obtain⟨t1,rfl⟩:=rx
  obtain⟨t2,rfl⟩:=ry
  exact xp ⟨.int _,H,I.tok _,⟨_,rfl⟩,q⟩ (xg (m:=60000) (n:=60000) (vH.mpr h1) (vH.mpr h2) (by decide))
noncomputable def cF:Op2:=wI2 λi j=>if ED i j=true then Fk (.int (i*j))else nD
noncomputable def OX:Op2:=wI2 λi j=>if(decide (0<j) && decide (j.natAbs<Gq))=true then Fk (.int (i / j))else nD
noncomputable def Qc:Op2:=wI2 λi j=>if 0<j then Fk (.int (i % j))else nD
noncomputable def Xl:Op2:=wI2 λi j=>if(decide (0<=j) && decide (j<=1000) && decide (i.natAbs<2^64))=true then Fk (.int (i^j.toNat))else nD
noncomputable def wLt:Op2:=wI2 λi j=>Fk (.bl (decide (i<j)))
noncomputable def wLe:Op2:=wI2 λi j=>Fk (.bl (decide (i<=j)))
noncomputable def wGt:Op2:=wI2 λi j=>Fk (.bl (decide (j<i)))
noncomputable def wGe:Op2:=wI2 λi j=>Fk (.bl (decide (j<=i)))
theorem GF:OpR X (binaryOp .Sub) (rOp X.K QS):=MZ cE λi j d e K M H=>by cases e;exact .int _
theorem bI:OpR X (binaryOp .Mult) (rOp X.K cF):=Rm Zm λi j d e=>by
 split at e
 .rename_i hk
  cases e
  exact⟨hk,λ_ _ _=>.int _⟩
 .cases e
theorem Hh:OpR X (binaryOp .FloorDiv) (rOp X.K OX):=Rm St.Wq λi j d e=>by
 split at e
 .rename_i hk
  rw[nU]at hk
  cases e
  exact⟨⟨nV hk.1,nV hk.2⟩,λ_ _ _=>.int _⟩
 .cases e
theorem Gx:OpR X (binaryOp .Mod) (rOp X.K Qc):=Rm eS λi j d e=>by
 split at e
 .rename_i hk
  cases e
  exact⟨hk,λ_ _ _=>.int _⟩
 .cases e
theorem PB:OpR X (binaryOp .Pow) (rOp X.K Xl):=Rm c8 λi j d e=>by
 split at e
 .rename_i hk
  rw[nU,nU]at hk
  cases e
  have:=nV hk.1.2
  exact⟨⟨nV hk.1.1,by omega,nV hk.2⟩,λ_ _ _=>.int _⟩
 .cases e
theorem MB:OpR X (compareOp .Lt) (rOp X.K wLt):=MZ iI λi j d e K M H=>by cases e;exact .bl _
theorem eZ:OpR X (compareOp .LtE) (rOp X.K wLe):=MZ jg λi j d e K M H=>by cases e;exact .bl _
theorem Pd:OpR X (compareOp .Gt) (rOp X.K wGt):=MZ hJ λi j d e K M H=>by cases e;exact .bl _
theorem VE:OpR X (compareOp .GtE) (rOp X.K wGe):=MZ ik λi j d e K M H=>by cases e;exact .bl _
noncomputable def asL:Wv->nG (Gc D)
 | .own ds=>Fk ds
 | .val (.lst ds)=>Fk ds
 |_=>nD
noncomputable def asT:Wv->nG (Gc D)
 | .val (.tup ds)=>Fk ds
 |_=>nD
noncomputable def asC:Wv->nG (Gc D)
 | .val (.scr ns)=>Fk (ns.map .int)
 |_=>nD
noncomputable def asS(w:Wv):nG (Gc D):=(asL w).or ((asT w).or (asC w))
section
variable{K:KE}{M:Ms}{H:Hp}{v:V}{w:Wv}{ds:Gc D}
theorem Sh.l(h:Sh K M H v w)(e:asL w=Fk ds):∃a xs,v=.ref a/\H a=Fk (.lst xs)/\Ah K M H xs ds:=by
 cases w with
 |own es=>cases e;obtain⟨a,xs,rfl,h1,h2⟩:=h;exact⟨a,xs,rfl,h1,h2⟩
 |val d=>
  cases d<;>first|(cases e;done)|skip
  cases e
  cases h with
  |lst h n r=>exact⟨_,_,rfl,h,r⟩
theorem Sh.t(h:Sh K M H v w)(e:asT w=Fk ds):∃a xs,v=.ref a/\SqT K H a xs/\Ah K M H xs ds:=by
 cases w with
 |own es=>cases e
 |val d=>
  cases d<;>first|(cases e;done)|skip
  cases e
  cases h with
  |tup h r=>exact⟨_,_,rfl,h,r⟩
theorem Lm:∀{ns:Gc Int},Ah K M H (ns.map V.int) (ns.map D.int)
 | []=>.nil
 |n::ns=>.cons (.int n) Lm
theorem Sh.c(h:Sh K M H v w)(e:asC w=Fk ds):∃a xs,v=.ref a/\SqL K H a xs/\Ah K M H xs ds:=by
 cases w with
 |own es=>cases e
 |val d=>
  cases d<;>first|(cases e;done)|skip
  cases e
  cases h with
  |scr h=>
   refine⟨_,_,rfl,?_,Lm⟩
   rcases h with h|h
   .exact .inl h.1
   .exact .inr h
theorem Sh.s(h:Sh K M H v w)(e:asS w=Fk ds):∃a xs,v=.ref a/\(SqL K H a xs\/SqT K H a xs)/\Ah K M H xs ds:=by
 unfold asS at e
 cases e1:asL w with
 |some es=>
  rw[e1]at e
  cases e
  obtain⟨a,xs,h1,h2,h3⟩:=h.l e1
  exact⟨a,xs,h1,.inl (.of h2),h3⟩
 |none=>
  rw[e1]at e
  cases e2:asT w with
  |some es=>
   rw[e2]at e
   cases e
   obtain⟨a,xs,h1,h2,h3⟩:=h.t e2
   exact⟨a,xs,h1,.inr h2,h3⟩
  |none=>
   rw[e2]at e
   obtain⟨a,xs,h1,h2,h3⟩:=h.c e
   exact⟨a,xs,h1,.inl h2,h3⟩
end
noncomputable def Lf:Op1:=λw=>match w with
 | .val (.str z)=>if z.length<=sizeLine then Fk (.val (.int z.length))else nD
 |_=>(asS w).map λds=>.val (.int ds.length)
theorem C9:Ga X (.builtin "len") (rN X.K (o1 Lf)):=by
 intro pins s σ H xs us Q I r h
 obtain⟨M,ws,w,e,mo,sh,q⟩:=h
 cases sh with
 |nil=>cases e
 |cons h1 t=>
  cases t with
  |cons h2 t=>cases e
  |nil=>
   rename_i v w1
   have e':Lf w1=Fk w:=e
   unfold Lf at e'
   split at e'
   .split at e'
    .rename_i z hz
     cases e'
     cases h1
     exact Pp pins s σ H _ us Q I r ⟨z,rfl,hz,q _ _ (.same mo (.int _))⟩
    .cases e'
   .cases e1:asS w1 with
    |none=>rw[e1]at e';cases e'
    |some ds=>
     rw[e1]at e'
     cases e'
     obtain⟨a,ys,rfl,h3,h4⟩:=h1.s e1
     refine QF pins s σ H _ us Q I r ⟨a,ys,rfl,h3,q _ _ ?_⟩
     rw[h4.length]
     exact .same mo (.int _)
noncomputable def wIx:Op2:=λa b=>match a,b with
 |a,.val (.int i)=>(asS a).bind λds=>(atI ds i).map .val
 |_,_=>nD
theorem aG{K:KE}{M:Ms}{H:Hp}{xs:Gc V}{ds:Gc D}{i:Int}{d:D}(h:Ah K M H xs ds)(e:atI ds i=Fk d):∃x,atI xs i=Fk x/\Dy K M H x d:=by
 unfold atI at e⊢
 rw[h.length]
 cases e1:ixN ds.length i with
 |none=>rw[e1]at e;cases e
 |some j=>
  rw[e1]at e
  exact h.get e
theorem AW:IxR X (rOp X.K wIx):=by
 intro value slice pins s σ H x y v u Q I rx ry h hs
 obtain⟨M,w1,w2,r,e,mo,s1,s2,q⟩:=h
 unfold wIx at e
 split at e
 .rename_i i
  cases e1:asS w1 with
  |none=>rw[e1]at e;cases e
  |some ds=>
   rw[e1]at e
   simp only[sX]at e
   cases e2:atI ds i with
   |none=>rw[e2]at e;cases e
   |some d=>
    rw[e2]at e
    cases e
    cases s2
    obtain⟨a,ys,rfl,h3,h4⟩:=s1.s e1
    obtain⟨z,h5,h6⟩:=aG h4 e2
    rcases h3 with h3|h3
    .exact Zz value slice pins s σ H _ _ v u Q I rx ry ⟨a,ys,i,z,rfl,rfl,h3,h5,q _ _ (.same mo h6)⟩ hs
    .exact cy value slice pins s σ H _ _ v u Q I rx ry ⟨a,ys,i,z,rfl,rfl,h3,h5,q _ _ (.same mo h6)⟩ hs
 .cases e
end
section
variable{X:Cx}
noncomputable def EE:Op2:=λa b=>match a,b with
 | .val (.int i),.val (.int j)=>Fk (.val (.int (i+j)))
 | .val (.str x),.val (.str y)=>if x.length+y.length<=sizeLine then Fk (.val (.str (x++y)))else nD
 | .val (.tup xs),.val (.tup ys)=>if xs.length+ys.length<=sizeLine then Fk (.val (.tup (xs++ys)))else nD
 |a,b=>(asL a).bind λxs=>(asL b).bind λys=>if xs.length+ys.length<=sizeLine then Fk (.own (xs++ys))else nD
theorem Ag:OpR X (binaryOp .Add) (rOp X.K EE):=by
 intro pins s σ H x y v u Q I rx ry h
 obtain⟨M,w1,w2,r,e,mo,s1,s2,q⟩:=h
 unfold EE at e
 split at e
 .cases e
  cases s1;cases s2
  exact eF pins s σ H _ _ v u Q I rx ry ⟨_,_,rfl,rfl,q _ _ (.same mo (.int _))⟩
 .split at e
  .cases e
   cases s1;cases s2
   exact Sq pins s σ H _ _ v u Q I rx ry ⟨_,_,rfl,rfl,by assumption,q _ _ (.same mo (.str _))⟩
  .cases e
 .split at e
  .rename_i xs ys hz
   cases e
   cases s1 with
   |tup h1 r1=>
    cases s2 with
    |tup h2 r2=>
     rename_i a xs' b ys'
     have l1:=r1.length
     have l2:=r2.length
     by_cases hx:xs'=[]
     .subst hx
      cases r1
      refine St.bK pins s σ H _ _ v u Q I rx ry ⟨_,_,_,rfl,rfl,h1,h2,q _ _ (.same mo ?_)⟩
      exact .tup h2 r2
     .refine aZ pins s σ H _ _ v u Q I rx ry ⟨_,_,_,_,rfl,rfl,h1,h2,hx,by lia,λz=>?_,λ_ p hp=>q _ _ (.tup mo hp (r1.append r2))⟩
      subst z
      cases r2
      rw[qP]at q
      exact q _ _ (.same mo (.tup h1 r1))
  .cases e
 .cases e1:asL w1 with
  |none=>rw[e1]at e;cases e
  |some xs=>
   rw[e1]at e
   cases e2:asL w2 with
   |none=>rw[e2]at e;cases e
   |some ys=>
    rw[e2]at e
    simp only[sX]at e
    split at e
    .rename_i hz
     cases e
     obtain⟨a,xs',rfl,h1,r1⟩:=s1.l e1
     obtain⟨b,ys',rfl,h2,r2⟩:=s2.l e2
     have l1:=r1.length
     have l2:=r2.length
     exact dj pins s σ H _ _ v u Q I rx ry ⟨a,b,xs',ys',rfl,rfl,h1,h2,by lia,λp hp=>q _ _ (.lst mo hp (r1.append r2))⟩
    .cases e
noncomputable def gT:Op2:=λa b=>match a,b with
 | .val (.int i),.val (.int j)=>if ED i j=true then Fk (.val (.int (i*j)))else nD
 | .val (.tup xs),.val (.int k)=>if(!xs.isEmpty && decide (1<=k) && decide (xs.length*k.toNat<=sizeLine))=true then Fk (.val (.tup (nh k.toNat xs).flatten))else nD
 |a,.val (.int k)=>(asL a).bind λxs=>if(decide (k<2^63) && decide (-(2^63)<=k) && decide (xs.length*k.toNat<=sizeLine))=true then Fk (.own (nh k.toNat xs).flatten)else nD
 |_,_=>nD
theorem Ah.rep{K:KE}{M:Ms}{H:Hp}{xs:Gc V}{ds:Gc D}(h:Ah K M H xs ds):∀n:Nat,Ah K M H (nh n xs).flatten (nh n ds).flatten
 |0=>.nil
 |n+1=>by
  rw[qD,qD,qh,qh]
  exact h.append (Ah.rep h n)
theorem Ud:OpR X (binaryOp .Mult) (rOp X.K gT):=by
 intro pins s σ H x y v u Q I rx ry h
 obtain⟨M,w1,w2,r,e,mo,s1,s2,q⟩:=h
 unfold gT at e
 split at e
 .rename_i i j
  refine bI pins s σ H x y v u Q I rx ry ⟨M,_,_,r,?_,mo,s1,s2,q⟩
  unfold cF wI2
  show sY Wv.val (if ED i j=true then Fk (D.int (i*j))else nD)=Fk r
  split at e
  .rename_i hk
   rw[oP hk]
   exact e
  .cases e
 .rename_i xs k
  split at e
  .rename_i hk
   rw[nU,nU]at hk
   cases e
   cases s2
   cases s1 with
   | @tup a ys _ h1 r1=>
     have l1:=r1.length
     have z:=nV hk.2
     have hk1:=nV hk.1.2
     have hne:ys≠[]:=λzz=>by
      subst zz
      cases r1
      exact absurd hk.1.1 (by decide)
     refine Zo pins s σ H _ _ v u Q I rx ry ⟨a,ys,k,rfl,rfl,h1,hne,hk1,by rw[l1];exact z,λe1=>?_,λ_ p hp=>q _ _ (.tup mo hp (r1.rep _))⟩
     subst e1
     have:(nh (1:Int).toNat xs).flatten=xs:=by simp
     rw[this]at q
     exact q _ _ (.same mo (.tup h1 r1))
  .cases e
 .rename_i k hn hn2
  cases e1:asL w1 with
  |none=>rw[e1]at e;cases e
  |some xs=>
   rw[e1]at e
   simp only[sX]at e
   split at e
   .rename_i hk
    rw[nU,nU]at hk
    cases e
    cases s2
    obtain⟨a,xs',rfl,h1,r1⟩:=s1.l e1
    have l1:=r1.length
    have z:=nV hk.2
    exact eO pins s σ H _ _ v u Q I rx ry ⟨a,k,xs',rfl,rfl,h1,nV hk.1.2,nV hk.1.1,by rw[l1];exact z,λp hp=>q _ _ (.lst mo hp (r1.rep _))⟩
   .cases e
 .cases e
noncomputable def O6:Op1
 | .val (.int i)=>Fk (.val (.int (-i)))
 |_=>nD
theorem HY:UnR X (unaryOp .USub) (rUn X.K O6):=by
 intro pins s σ H x v Q I rx h
 obtain⟨M,w,r,e,mo,s1,q⟩:=h
 unfold O6 at e
 split at e
 .cases e
  cases s1
  exact dy pins s σ H _ v Q I rx ⟨_,rfl,q _ _ (.same mo (.int _))⟩
 .cases e
noncomputable def IT:D->oQ
 | .non=>true| .bl _=>true| .int _=>true| .str _=>true
 |_=>false
theorem Sh.flat{K:KE}{M:Ms}{H:Hp}{v:V}{w:Wv}(h:Sh K M H v w)(f:IT (fz w)=true):Dy K M H v (fz w):=by
 cases w with
 |val d=>exact h
 |own ds=>cases f
noncomputable def inD(x:D)(xs:Gc D):oQ:=xs.any λy=>deq y x
theorem Rv{K:KE}{M:Ms}{H:Hp}{v:V}{d:D}(h:Dy K M H v d)(f:IT d=true):NY v=true:=by
 cases h<;>first|rfl|cases f
theorem aE{K:KE}{M:Ms}{H:Hp}{v u:V}{d e:D}(h:Dy K M H v d)(g:Dy K M H u e)(f:IT d=true)(f':IT e=true):eqV v u=deq d e:=by
 cases h<;>first|(cases f;done)|skip
 all_goals (cases g<;>first|(cases f';done)|rfl)
theorem PZ{K:KE}{M:Ms}{H:Hp}:∀{vs:Gc V} {ds:Gc D},Ah K M H vs ds->ds.all IT=true->vs.all NY=true
 |_,_,.nil,_=>rfl
 |_,_,.cons h t,f=>by
  rw[se,nU]at f⊢
  exact⟨Rv h f.1,PZ t f.2⟩
theorem Vn{K:KE}{M:Ms}{H:Hp}{u:V}{e:D}(g:Dy K M H u e)(f':IT e=true):∀{vs:Gc V} {ds:Gc D},Ah K M H vs ds->ds.all IT=true->inV u vs=inD e ds
 |_,_,.nil,_=>rfl
 |_,_,.cons h t,f=>by
  rw[se,nU]at f
  have ih:=Vn g f' t f.2
  unfold inV inD at ih⊢
  rw[qU,qU,ih,aE h g f.1 f']
noncomputable def wIn(neg:oQ):Op2:=λa b=>(asS b).bind λds=>if(IT (fz a) && ds.all IT)=true then Fk (.val (.bl (if neg then !inD (fz a) ds else inD (fz a) ds)))else nD
theorem Y0{M:Ms}{H:Hp}{x y:V}{w1 w2 r:Wv}{neg:oQ}{Q:VK}(e:wIn neg w1 w2=Fk r)(mo:MOk M H)(s1:Sh X.K M H x w1)(s2:Sh X.K M H y w2)(q:∀v H',Nw X.K M H H' v r->Q v H'):rIn X.K neg x y H Q:=by
 unfold wIn at e
 cases e1:asS w2 with
 |none=>rw[e1]at e;cases e
 |some ds=>
  rw[e1]at e
  simp only[sX]at e
  split at e
  .rename_i hk
   rw[nU]at hk
   cases e
   obtain⟨a,xs,rfl,h3,h4⟩:=s2.s e1
   have g1:=s1.flat hk.1
   refine⟨a,xs,rfl,h3,Rv g1 hk.1,PZ h4 hk.2,?_⟩
   rw[Vn g1 hk.1 h4 hk.2]
   exact q _ _ (.same mo (.bl _))
  .cases e
theorem N2:OpR X (compareOp .In) (rOp X.K (wIn false)):=by
 intro pins s σ H x y v u Q I rx ry h
 obtain⟨M,w1,w2,r,e,mo,s1,s2,q⟩:=h
 exact Vg pins s σ H _ _ v u Q I rx ry (Y0 e mo s1 s2 q)
theorem Mc:OpR X (compareOp .NotIn) (rOp X.K (wIn true)):=by
 intro pins s σ H x y v u Q I rx ry h
 obtain⟨M,w1,w2,r,e,mo,s1,s2,q⟩:=h
 exact QU pins s σ H _ _ v u Q I rx ry (Y0 e mo s1 s2 q)
noncomputable def isN:Wv->oQ
 | .val .non=>true
 |_=>false
noncomputable def gZ(neg:oQ):Op2:=λa b=>match b with
 | .val .non=>Fk (.val (.bl (if neg then !isN a else isN a)))
 |_=>nD
theorem Zl{K:KE}{M:Ms}{H:Hp}{x:V}{w:Wv}(s:Sh K M H x w):decide (x=.non)=isN w:=by
 cases w with
 |own ds=>obtain⟨a,xs,rfl,_⟩:=s;rfl
 |val d=>cases s<;>rfl
theorem Xi:OpR X (compareOp .IsNot) (rOp X.K (gZ true)):=by
 intro pins s σ H x y v u Q I rx ry h
 obtain⟨M,w1,w2,r,e,mo,s1,s2,q⟩:=h
 unfold gZ at e
 split at e
 .cases e
  cases s2
  refine Zb pins s σ H _ _ v u Q I rx ry ⟨rfl,?_⟩
  rw[Zl s1]
  exact q _ _ (.same mo (.bl _))
 .cases e
theorem Kz{K:KE}{M:Ms}{H:Hp}{xs:Gc V}{ws:Gc Wv}{f:Op1}{r:Wv}(h:Shs K M H xs ws)(e:o1 f ws=Fk r):∃v w,xs=[v]/\ws=[w]/\Sh K M H v w/\f w=Fk r:=by
 cases h with
 |nil=>cases e
 |cons h1 t=>
  cases t with
  |cons h2 t=>cases e
  |nil=>exact⟨_,_,rfl,rfl,h1,e⟩
theorem UZ{K:KE}{M:Ms}{H:Hp}{xs:Gc V}{ws:Gc Wv}{f:Op2}{r:Wv}(h:Shs K M H xs ws)(e:o2 f ws=Fk r):∃v w v' w',xs=[v,v']/\ws=[w,w']/\Sh K M H v w/\Sh K M H v' w'/\f w w'=Fk r:=by
 cases h with
 |nil=>cases e
 |cons h1 t=>
  cases t with
  |nil=>cases e
  |cons h2 t=>
   cases t with
   |cons h3 t=>cases e
   |nil=>exact⟨_,_,_,_,rfl,rfl,h1,h2,e⟩
noncomputable def bU:Op1
 | .val (.int i)=>Fk (.val (.int (if i<0 then-i else i)))
 |_=>nD
theorem MW:Ga X (.builtin "abs") (rN X.K (o1 bU)):=by
 intro pins s σ H xs us Q I r h
 obtain⟨M,ws,w,e,mo,sh,q⟩:=h
 obtain⟨v,w1,rfl,rfl,s1,e1⟩:=Kz sh e
 unfold bU at e1
 split at e1
 .cases e1
  cases s1
  exact XM pins s σ H _ us Q I r ⟨_,rfl,q _ _ (.same mo (.int _))⟩
 .cases e1
noncomputable def fN:Op2:=wI2 λi j=>Fk (.int (if j<i then j else i))
theorem Xj{f:Int->Int->nG D}{a b r:Wv}(e:wI2 f a b=Fk r):∃i j d,a=.val (.int i)/\b=.val (.int j)/\f i j=Fk d/\r=.val d:=by
 unfold wI2 at e
 split at e
 .rename_i i j
  cases e1:f i j with
  |none=>rw[e1]at e;cases e
  |some d=>rw[e1]at e;cases e;exact⟨i,j,d,rfl,rfl,e1,rfl⟩
 .cases e
theorem Ul(hc:X.calm=true):Ga X (.builtin "min") (rN X.K (o2 fN)):=by
 intro pins s σ H xs us Q I r h
 obtain⟨M,ws,w,e,mo,sh,q⟩:=h
 obtain⟨v,w1,v',w2,rfl,rfl,s1,s2,e1⟩:=UZ sh e
 obtain⟨i,j,d,rfl,rfl,e2,rfl⟩:=Xj e1
 cases e2;cases s1;cases s2
 exact Uc hc pins s σ H _ us Q I r ⟨_,_,rfl,q _ _ (.same mo (.int _))⟩
noncomputable def D8:Op1:=λw=>(asS w).map λds=>.val (.tup ds)
theorem A7:Ga X (.type "tuple") (rN X.K (o1 D8)):=by
 intro pins s σ H xs us Q I r h
 obtain⟨M,ws,w,e,mo,sh,q⟩:=h
 obtain⟨v,w1,rfl,rfl,s1,e1⟩:=Kz sh e
 unfold D8 at e1
 cases e2:asS w1 with
 |none=>rw[e2]at e1;cases e1
 |some ds=>
  rw[e2]at e1
  cases e1
  obtain⟨a,ys,rfl,h3,h4⟩:=s1.s e2
  refine Om pins s σ H _ us Q I r ⟨a,ys,rfl,?_⟩
  rcases h3 with h3|h3
  .exact .inl ⟨h3,λl hl=>q _ _ (.tup mo hl h4)⟩
  .exact .inr ⟨h3,q _ _ (.same mo (.tup h3 h4))⟩
noncomputable def QZ:Op1:=λw=>(asS w).map λds=>.own ds
theorem Kn:Ga X (.type "list") (rN X.K (o1 QZ)):=by
 intro pins s σ H xs us Q I r h
 obtain⟨M,ws,w,e,mo,sh,q⟩:=h
 obtain⟨v,w1,rfl,rfl,s1,e1⟩:=Kz sh e
 unfold QZ at e1
 cases e2:asS w1 with
 |none=>rw[e2]at e1;cases e1
 |some ds=>
  rw[e2]at e1
  cases e1
  obtain⟨a,ys,rfl,h3,h4⟩:=s1.s e2
  exact QV pins s σ H _ us Q I r ⟨a,ys,rfl,h3,λl hl=>q _ _ (.lst mo hl h4)⟩
noncomputable def ZZ:Op1
 | .val (.int i)=>Fk (.val (.int i))
 | .val (.bl b)=>Fk (.val (.int (if b then 1 else 0)))
 |_=>nD
theorem Mx:Ga X (.type "int") (rN X.K (o1 ZZ)):=by
 intro pins s σ H xs us Q I r h
 obtain⟨M,ws,w,e,mo,sh,q⟩:=h
 obtain⟨v,w1,rfl,rfl,s1,e1⟩:=Kz sh e
 unfold ZZ at e1
 split at e1
 .cases e1;cases s1
  exact QL pins s σ H _ us Q I r (.inl ⟨_,rfl,q _ _ (.same mo (.int _))⟩)
 .cases e1;cases s1
  exact QL pins s σ H _ us Q I r (.inr ⟨_,rfl,q _ _ (.same mo (.int _))⟩)
 .cases e1
noncomputable def kdW:Wv->nG St.Kd
 | .own _=>Fk .lst
 | .val .non=>Fk .non| .val (.bl _)=>Fk .bl| .val (.int _)=>Fk .int| .val (.str _)=>Fk .str| .val (.lst _)=>Fk .lst| .val (.dct _)=>Fk .dct| .val (.tup _)=>Fk .tup
 | .val (.ty _)=>nD| .val (.scr _)=>nD| .val (.ref _)=>nD
end
section
variable{X:Cx}
theorem Xu{K:KE}(k:St.Kd):qV K (.type k.ty) (.type "list")=Fk (k.isA "list"):=by
 cases k<;>rfl
noncomputable def So(T:qo):oQ:=T== "int" ||T== "bool" ||T== "tuple" ||T== "str" ||T== "list"
theorem eP{K:KE}{T:qo}(h:So T=true)(k:St.Kd):qV K (.type k.ty) (.type T)=Fk (k.isA T):=by
 unfold So at h
 simp only[pA,vh]at h
 rcases h with(((rfl|rfl)|rfl)|rfl)|rfl
 .exact St.bP k
 .exact St.Wo k
 .exact St.kit_tuple k
 .exact St.aQ k
 .exact Xu k
noncomputable def X0:Op2:=λa t=>match t with
 | .val (.ty T)=>if So T=true then(kdW a).map λk=>.val (.bl (k.isA T))else nD
 |_=>nD
theorem KU:Ga X (.builtin "isinstance") (rN X.K (o2 X0)):=by
 intro pins s σ H xs us Q I r h
 obtain⟨M,ws,w,e,mo,sh,q⟩:=h
 obtain⟨v,w1,v',w2,rfl,rfl,s1,s2,e1⟩:=UZ sh e
 unfold X0 at e1
 split at e1
 .rename_i T
  split at e1
  .rename_i hT
   cases e2:kdW w1 with
   |none=>rw[e2]at e1;cases e1
   |some k=>
    rw[e2]at e1
    cases e1
    cases s2
    obtain⟨u1,u2,rfl,r1,r2⟩:=r.two
    cases (show u2=ua T from r2)
    have fin:∀tk,EP X pins σ Q (.bool (k.isA T)) {s with toks:=tk}:=λtk=>⟨.bl _,H,I.tok tk,rfl,q _ _ (.same mo (.bl _))⟩
    have kk:=eP (K:=X.K) hT k
    cases w1 with
    |own ds=>
     cases e2
     obtain⟨a,ys,rfl,h1,_⟩:=s1
     exact F7 I r1 (.lst h1) kk fin
    |val d=>
     have s1':Dy X.K M H v d:=s1
     cases s1' with
     |non=>cases e2;exact F7 I r1 .non kk fin
     |bl b=>cases e2;exact F7 I r1 (.bl b) kk fin
     |int b=>cases e2;exact F7 I r1 (.int b) kk fin
     |str b=>cases e2;exact F7 I r1 (.str b) kk fin
     |ty b=>cases e2
     |scr h=>cases e2
     |lst h n rr=>cases e2;exact F7 I r1 (.lst h) kk fin
     |dct h n rr=>cases e2;exact F7 I r1 (.dK h) kk fin
     |ref h=>cases e2
     |tup h rr=>
      cases e2
      rename_i a ys ds
      cases (show u1=pL a from r1)
      obtain⟨its,_,⟨o,h1,h2,_⟩,_⟩:=I.tuple h
      exact pK vd I.kIn ⟨o,h1,h2⟩ kk (λz=>nomatch z) fin
  .cases e1
 .cases e1
noncomputable def EM(fs:Gc Ev):Ev:=λE S=>(evs fs E S).bind λr=>if r.1.length<=sizeLine then Fk (.tup r.1,r.2)else nD
noncomputable def XB(c:oQ)(fs:Gc Ev):Ev:=λE S=>(evs fs E S).bind λr=>if r.1.length<=sizeLine then fin c (.own r.1) r.2 else nD
abbrev JJ:=XB false
abbrev NO:=XB true
theorem BZ{es:Gc oA}{fs:Gc Ev}{k:Nat}{pos:Pos}(h:DEs X es fs):DE X (.Tuple es k pos) (EM fs):=⟨Bz (bp h.pe) λσ H Q z=>by
 obtain⟨M,E,S,d,S',e,r,st,q⟩:=z
 obtain⟨⟨ds,S1⟩,e1,e⟩:=BA e
 dsimp only at e
 split at e
 .cases e
  refine ID e1 r st λvs H1 M1 g1 st1 d1=>⟨by rw[d1.length];assumption,λp hp=>?_⟩
  have n:=Nw.tup st1.mo hp d1
  exact q _ _ M1 (g1.trans (.grow st1.mo n.grow)) (st1.grow n.grow) n.rel
 .cases e⟩
theorem Bv{c:oQ}{es:Gc oA}{fs:Gc Ev}{pos:Pos}(h:DEs X es fs):DE X (.List es pos) (XB c fs):=⟨Bz (eY h.pe) λσ H Q z=>by
 obtain⟨M,E,S,d,S',e,r,st,q⟩:=z
 obtain⟨⟨ds,S1⟩,e1,e⟩:=BA e
 dsimp only at e
 split at e
 .refine ID e1 r st λvs H1 M1 g1 st1 d1=>⟨by rw[d1.length];assumption,λp hp=>?_⟩
  obtain⟨M2,g2,st2,d2⟩:=(Nw.lst st1.mo hp d1).fin st1 e
  exact q _ _ M2 (g1.trans g2) st2 d2
 .cases e⟩
noncomputable def Lu(f g:Ev):Ev:=λE S=>(f E S).bind λr=>match r.1 with
 | .bl true=>g E r.2
 | .bl false=>Fk (.bl false,r.2)
 |_=>nD
noncomputable def eOr(f g:Ev):Ev:=λE S=>(f E S).bind λr=>match r.1 with
 | .bl false=>g E r.2
 | .bl true=>Fk (.bl true,r.2)
 |_=>nD
noncomputable def Sl(f:Ev):Ev:=λE S=>(f E S).bind λr=>match r.1 with
 | .bl b=>Fk (.bl (!b),r.2)
 |_=>nD
noncomputable def eIf(c f g:Ev):Ev:=λE S=>(c E S).bind λr=>match r.1 with
 | .bl true=>f E r.2
 | .bl false=>g E r.2
 |_=>nD
theorem N7{K:KE}{M:Ms}{H:Hp}{v:V}{b:oQ}(h:Dy K M H v (.bl b)):v=.bl b:=by cases h;rfl
variable{a b c:oA}{rest:Gc oA}{f g h:Ev}{pos:Pos}
theorem KA{op:BoolOp}(h:DE X a f):DE X (.BoolOp op [a] pos) f:=⟨di h.pe⟩
theorem J6(ha:DE X a f)(hb:DE X (.BoolOp .And (b::rest) pos) g):DE X (.BoolOp .And (a::b::rest) pos) (Lu f g):=⟨Bz (dP ha.pe hb.pe) λσ H Q z=>by
 obtain⟨M,E,S,d,S',e,r,st,q⟩:=z
 obtain⟨⟨d1,S1⟩,e1,e⟩:=BA e
 dsimp only at e
 refine⟨M,E,S,d1,S1,e1,r,st,λv H1 M1 g1 st1 r1=>?_⟩
 split at e
 .cases N7 r1
  refine⟨_,rfl,?_⟩
  refine ZC ?_
  exact⟨M1,E,S1,d,S',e,r.step g1.st,st1,λv H2 M2 g2 st2 r2=>q _ _ M2 (g1.trans g2) st2 r2⟩
 .cases e
  cases N7 r1
  refine⟨_,rfl,?_⟩
  refine ZG ?_
  exact q _ _ M1 g1 st1 r1
 .cases e⟩
theorem dH(ha:DE X a f)(hb:DE X (.BoolOp .Or (b::rest) pos) g):DE X (.BoolOp .Or (a::b::rest) pos) (eOr f g):=⟨Bz (jA ha.pe hb.pe) λσ H Q z=>by
 obtain⟨M,E,S,d,S',e,r,st,q⟩:=z
 obtain⟨⟨d1,S1⟩,e1,e⟩:=BA e
 dsimp only at e
 refine⟨M,E,S,d1,S1,e1,r,st,λv H1 M1 g1 st1 r1=>?_⟩
 split at e
 .cases N7 r1
  refine⟨_,rfl,?_⟩
  refine ZG ?_
  exact⟨M1,E,S1,d,S',e,r.step g1.st,st1,λv H2 M2 g2 st2 r2=>q _ _ M2 (g1.trans g2) st2 r2⟩
 .cases e
  cases N7 r1
  refine⟨_,rfl,?_⟩
  refine ZC ?_
  exact q _ _ M1 g1 st1 r1
 .cases e⟩
theorem Yf(ha:DE X a f):DE X (.UnaryOp .Not a pos) (Sl f):=⟨Bz (c9 ha.pe) λσ H Q z=>by
 obtain⟨M,E,S,d,S',e,r,st,q⟩:=z
 obtain⟨⟨d1,S1⟩,e1,e⟩:=BA e
 dsimp only at e
 split at e
 .cases e
  refine⟨M,E,S,_,_,e1,r,st,λv H1 M1 g1 st1 r1=>?_⟩
  cases N7 r1
  exact⟨_,rfl,q _ _ M1 g1 st1 (.bl _)⟩
 .cases e⟩
noncomputable def tDT(K:KE)(f:Ev):TT:=λσ H Q=>∃M E S b S',f E S=Fk (.bl b,S')/\EnR K M E σ H/\StR K M S H/\∀H' M',Gr M H M' H'->StR K M' S' H'->Q b H'
structure DT(X:Cx)(e:oA)(f:Ev):Prop where
 pe:PT X e (tDT X.K f)
structure DW(X:Cx)(e:oA)(f:Ev):Prop where
 pe:PW X e (tDT X.K f)
theorem DW.dt(h:DW X a f):DT X a f:=⟨PW.pt h.pe⟩
theorem Zc{t:TE}(h:PT X a (bZ t))(m:∀σ H Q,tD X.K f σ H Q->t σ H Q):DT X a f:=⟨UC h λσ H Q z=>by
 obtain⟨M,E,S,b,S',e,r,st,q⟩:=z
 refine m _ _ _ ⟨M,E,S,_,S',e,r,st,λv H1 M1 g1 st1 r1=>?_⟩
 cases N7 r1
 exact⟨_,rfl,q _ M1 g1 st1⟩⟩
theorem R3(h:DE X a f)(he:∀whole,isTrue a X.env whole=(do let v<-whole;standAt a.pos;holding [v] (truthy v)):=by intro _;rfl):DT X a f:=Zc (t:=tD X.K f) (cw h.pe he) λ_ _ _ z=>z
theorem Aj{fa fb:Ev}{op:CmpOp}{f:Op2}(ho:OpR X (compareOp op) (rOp X.K f))(ha:DE X a fa)(hb:DE X b fb)(hm:behindInMarks op b=false:=by rfl):DT X (.Compare a [op] [b] pos) (eOp (o2 f) [fa,fb]):=
 Zc (ay ho ha.pe hb.pe hm) λ_ _ _ h=>Ra h
theorem SF(ha:DT X a f):DT X (.UnaryOp .Not a pos) (Sl f):=⟨UC (cI ha.pe) λσ H Q z=>by
 obtain⟨M,E,S,b,S',e,r,st,q⟩:=z
 obtain⟨⟨w1,S1⟩,e1,e⟩:=BA e
 dsimp only at e
 split at e
 .cases e
  exact⟨M,E,S,_,_,e1,r,st,q⟩
 .cases e⟩
theorem MV(ha:DT X a f):DW X (.BoolOp .And [a] pos) f:=⟨aL ha.pe⟩
theorem UY(ha:DT X a f):DW X (.BoolOp .Or [a] pos) f:=⟨cb ha.pe⟩
theorem To{e:oA}{t t':TT}(h:PW X e t)(m:∀σ H Q,t' σ H Q->t σ H Q):PW X e t':=λwh pins s σ H Q I q=>h wh pins s σ H Q I (m _ _ _ q)
theorem Px(ha:DT X a f)(hb:DW X (.BoolOp .And (b::rest) pos) g):DW X (.BoolOp .And (a::b::rest) pos) (Lu f g):=⟨To (eg ha.pe hb.pe) λσ H Q z=>by
 obtain⟨M,E,S,k,S',e,r,st,q⟩:=z
 obtain⟨⟨w1,S1⟩,e1,e⟩:=BA e
 dsimp only at e
 split at e
 .refine⟨M,E,S,_,S1,e1,r,st,λH1 M1 g1 st1=>?_⟩
  refine ZC ?_
  exact⟨M1,E,S1,k,S',e,r.step g1.st,st1,λH2 M2 g2 st2=>q _ M2 (g1.trans g2) st2⟩
 .cases e
  refine⟨M,E,S,_,_,e1,r,st,λH1 M1 g1 st1=>?_⟩
  refine ZG ?_
  exact q _ M1 g1 st1
 .cases e⟩
theorem ZU(ha:DT X a f)(hb:DW X (.BoolOp .Or (b::rest) pos) g):DW X (.BoolOp .Or (a::b::rest) pos) (eOr f g):=⟨To (hO ha.pe hb.pe) λσ H Q z=>by
 obtain⟨M,E,S,k,S',e,r,st,q⟩:=z
 obtain⟨⟨w1,S1⟩,e1,e⟩:=BA e
 dsimp only at e
 split at e
 .refine⟨M,E,S,_,S1,e1,r,st,λH1 M1 g1 st1=>?_⟩
  refine ZG ?_
  exact⟨M1,E,S1,k,S',e,r.step g1.st,st1,λH2 M2 g2 st2=>q _ M2 (g1.trans g2) st2⟩
 .cases e
  refine⟨M,E,S,_,_,e1,r,st,λH1 M1 g1 st1=>?_⟩
  refine ZC ?_
  exact q _ M1 g1 st1
 .cases e⟩
theorem ie(hc:DT X c f)(ha:DE X a g)(hb:DE X b h):DE X (.IfExp c a b pos) (eIf f g h):=⟨Bz (Wu hc.pe ha.pe hb.pe) λσ H Q z=>by
 obtain⟨M,E,S,d,S',e,r,st,q⟩:=z
 obtain⟨⟨w1,S1⟩,e1,e⟩:=BA e
 dsimp only at e
 split at e
 .refine⟨M,E,S,_,S1,e1,r,st,λH1 M1 g1 st1=>?_⟩
  refine ZC ?_
  exact⟨M1,E,S1,d,S',e,r.step g1.st,st1,λv H2 M2 g2 st2 r2=>q _ _ M2 (g1.trans g2) st2 r2⟩
 .refine⟨M,E,S,_,S1,e1,r,st,λH1 M1 g1 st1=>?_⟩
  refine ZG ?_
  exact⟨M1,E,S1,d,S',e,r.step g1.st,st1,λv H2 M2 g2 st2 r2=>q _ _ M2 (g1.trans g2) st2 r2⟩
 .cases e⟩
end
inductive Fl where
 |nx
 |ret (d:D)
abbrev Ex:=En->Sto->nG (Fl×En×Sto)
def End(K:KE)(M:Ms)(H:Hp)(Dn:Ends)(E':En)(S':Sto):Fl->Prop
 | .nx=>∀σ' H' M',Gr M H M' H'->EnR K M' E' σ' H'->StR K M' S' H'->Dn.nx σ' H'
 | .ret d=>∀v H' M',Gr M H M' H'->StR K M' S' H'->Dy K M' H' v d->Dn.rt v H'
noncomputable def tX(K:KE)(f:Ex):TS:=λDn σ H=>∃M E S fl E' S',f E S=Fk (fl,E',S')/\EnR K M E σ H/\StR K M S H/\End K M H Dn E' S' fl
structure DS(X:Cx)(st:oK)(f:Ex):Prop where
 pe:PS X st (tX X.K f)
structure DSs(X:Cx)(st:Gc oK)(f:Ex):Prop where
 pe:PSs X st (tX X.K f)
theorem Gw{X:Cx}{e:oK}{t t':TS}(h:PS X e t)(m:∀Dn σ H,t' Dn σ H->t Dn σ H):PS X e t':=λpins s σ H Dn I q=>h pins s σ H Dn I (m _ _ _ q)
theorem Rp{X:Cx}{e:Gc oK}{t t':TS}(h:PSs X e t)(m:∀Dn σ H,t' Dn σ H->t Dn σ H):PSs X e t':=λpins s σ H Dn I q=>h pins s σ H Dn I (m _ _ _ q)
theorem End.later{K:KE}{M M1:Ms}{H H1:Hp}{Dn:Ends}{E':En}{S':Sto}{fl:Fl}(q:End K M H Dn E' S' fl)(g:Gr M H M1 H1):End K M1 H1 Dn E' S' fl:=by
 cases fl with
 |nx=>exact λσ' H' M' g' r st=>q σ' H' M' (g.trans g') r st
 |ret d=>exact λv H' M' g' st r=>q v H' M' (g.trans g') st r
noncomputable def Ae(f g:Ex):Ex:=λE S=>(f E S).bind λr=>match r.1 with
 | .nx=>g r.2.1 r.2.2
 | .ret w=>Fk (.ret w,r.2)
noncomputable def Et:Ex:=λE S=>Fk (.nx,E,S)
section
variable{X:Cx}{st:oK}{rest a b:Gc oK}{f g h:Ex}{c e:oA}{k:Ev}{pos:Pos}
theorem Av:DSs X [] Et:=⟨Rp aa λDn σ H z=>by
 obtain⟨M,E,S,fl,E',S',e,r,st,q⟩:=z
 cases e
 exact q _ _ M (.refl st.mo) r st⟩
theorem AH(h1:DS X st f)(h2:DSs X rest g):DSs X (st::rest) (Ae f g):=⟨Rp (Rg h1.pe h2.pe) λDn σ H z=>by
 obtain⟨M,E,S,fl,E',S',e,r,st,q⟩:=z
 obtain⟨⟨f1,E1,S1⟩,e1,e⟩:=BA e
 dsimp only at e
 split at e
 .exact⟨M,E,S,.nx,E1,S1,e1,r,st,λσ1 H1 M1 g1 r1 st1=>⟨M1,E1,S1,fl,E',S',e,r1,st1,q.later g1⟩⟩
 .cases e
  exact⟨M,E,S,.ret _,_,_,e1,r,st,q⟩⟩
theorem AI(h1:DS X st f):DSs X [st] f:=⟨RI h1.pe⟩
noncomputable def xIf(c:Ev)(f g:Ex):Ex:=λE S=>(c E S).bind λr=>match r.1 with
 | .bl true=>f E r.2
 | .bl false=>g E r.2
 |_=>nD
theorem CG(hc:DT X c k)(ha:DSs X a f)(hb:DSs X b g):DS X (.If c a b pos) (xIf k f g):=⟨Gw (jr hc.pe ha.pe hb.pe) λDn σ H z=>by
 obtain⟨M,E,S,fl,E',S',e,r,st,q⟩:=z
 obtain⟨⟨w1,S1⟩,e1,e⟩:=BA e
 dsimp only at e
 split at e
 .refine⟨M,E,S,_,S1,e1,r,st,λH1 M1 g1 st1=>?_⟩
  refine ZC ?_
  exact⟨M1,E,S1,fl,E',S',e,r.step g1.st,st1,q.later g1⟩
 .refine⟨M,E,S,_,S1,e1,r,st,λH1 M1 g1 st1=>?_⟩
  refine ZG ?_
  exact⟨M1,E,S1,fl,E',S',e,r.step g1.st,st1,q.later g1⟩
 .cases e⟩
noncomputable def BQ(k:Ev):Ex:=λE S=>(k E S).map λr=>(.ret r.1,E,r.2)
theorem AQ(h:DE X e k):DS X (.Return (Fk e) pos) (BQ k):=⟨Gw (dW h.pe) λDn σ H z=>by
 obtain⟨M,E,S,fl,E',S',e,r,st,q⟩:=z
 obtain⟨⟨d,S1⟩,e1,e⟩:=Ky e
 cases e
 exact⟨M,E,S,d,S1,e1,r,st,λv H1 M1 g1 st1 r1=>q _ _ M1 g1 st1 r1⟩⟩
end
section
variable{K:KE}{M:Ms}{E:En}{σ:Sg}{H:Hp}{i:Nat}{d:D}{v:V}
theorem EnR.put(r:EnR K M E σ H)(rd:Dy K M H v d):EnR K M (E.set i (Fk d)) (σ.set i (Fk v)) H:=by
 refine⟨by rw[qR,qR];exact r.len,λj e ej=>?_⟩
 by_cases h:i=j
 .subst h
  by_cases hi:i<E.length
  .rw[nZ hi]at ej
   cases ej
   exact⟨v,nZ (by rw[<-r.len];exact hi),rd⟩
  .rw[List.getElem?_eq_none_iff.mpr (by rw[qR];lia)]at ej;cases ej
 .rw[nN h]at ej
  obtain⟨v',h1,h2⟩:=r.val j e ej
  exact⟨v',by rw[nN h];exact h1,h2⟩
end
noncomputable def CA(i:Nat)(k:Ev):Ex:=λE S=>(k E S).map λr=>(.nx,E.set i (Fk r.1),r.2)
theorem Ap{X:Cx}{e:oA}{k:Ev}{pos pos':Pos}(i:Nat){x:Str}(h:DE X e k)(hN:X.N.Nodup)(hi:X.N[i]?=Fk x:=by rfl)(hx:Loc X.env.scope x:=by first|exact xZ rfl|exact xf rfl)(hs:swapsWith e (Fk (.Name x pos')) pos.line X.env=pure false:=by rfl)(hf:X.fn x=true\/X.env.scope.names.lookup x=Fk .local:=by first|exact .inl rfl|exact .inr rfl):DS X (.Assign [.Name x pos'] e pos) (CA i k):=⟨
 Gw (ck hN hi hx h.pe hs hf) λDn σ H z=>by
  obtain⟨M,E,S,fl,E',S',e,r,st,q⟩:=z
  obtain⟨⟨d,S1⟩,e1,e⟩:=Ky e
  cases e
  exact⟨M,E,S,d,S1,e1,r,st,λv H1 M1 g1 st1 r1=>q _ _ M1 g1 ((r.step g1.st).put r1) st1⟩⟩
noncomputable def EV(k:Ev):Ex:=λE S=>(k E S).map λr=>(.nx,E,r.2)
theorem Ct{X:Cx}{e:oA}{k:Ev}{pos:Pos}(h:DE X e k)(hs:swapsWith e nD pos.line X.env=pure false:=by rfl):DS X (.Expr e pos) (EV k):=⟨Gw (Tv h.pe hs) λDn σ H z=>by
 obtain⟨M,E,S,fl,E',S',e,r,st,q⟩:=z
 obtain⟨⟨d,S1⟩,e1,e⟩:=Ky e
 cases e
 exact⟨M,E,S,d,S1,e1,r,st,λv H1 M1 g1 st1 r1=>q _ _ M1 g1 (r.step g1.st) st1⟩⟩
noncomputable def Fo(S:Sto)(n:Nat):nG (Gc D):=match S[n]? with
 |some (.lst ds)=>Fk ds
 |_=>nD
theorem Fy{S:Sto}{n:Nat}{ds:Gc D}(h:Fo S n=Fk ds):S[n]?=Fk (.lst ds):=by
 unfold Fo at h
 split at h
 .rename_i e
  cases h
  exact e
 .cases h
abbrev Mo:=Sto->Gc D->Gc D->nG (D×Gc D)
noncomputable def Qg(op:Mo)(f:Ev)(fs:Gc Ev):Ev:=λE S=>(f E S).bind λr=>match r.1 with
 | .ref n=>(Fo r.2 n).bind λ_=>(evs fs E r.2).bind λp=>(Fo p.2 n).bind λds=>(op p.2 ds p.1).map λq=>(q.1,p.2.set n (.lst q.2))
 |_=>nD
def fE(K:KE)(op:Mo):V->Gc V->Hp->VK->Prop:=λx vs H Q=>∃M S n a ds args d ds',x=.ref a/\M.cel[n]?=Fk a/\S[n]?=Fk (.lst ds)/\op S ds args=Fk (d,ds')/\StR K M S H/\Ah K M H vs args/\∀v H',StR K M (S.set n (.lst ds')) H'->Gr M H M H'->Dy K M H' v d->Q v H'
section
variable{X:Cx}
theorem de{op:Mo}{f:Ev}{fs:Gc Ev}{σ:Sg}{H:Hp}{Q:VK}(h:tD X.K (Qg op f fs) σ H Q):tBM X.K "list" (fE X.K op) (tD X.K f) (tDs X.K fs) σ H Q:=by
 obtain⟨M,E,S,d,S',e,r,st,q⟩:=h
 obtain⟨⟨d1,S1⟩,e1,e⟩:=BA e
 dsimp only at e
 split at e
 .rename_i n
  obtain⟨ds0,e2,e⟩:=BA e
  obtain⟨⟨args,S2⟩,e3,e⟩:=BA e
  obtain⟨ds,e4,e⟩:=BA e
  obtain⟨⟨dd,ds'⟩,e5,e⟩:=Ky e
  cases e
  refine⟨M,E,S,_,S1,e1,r,st,λv H1 M1 g1 st1 r1=>?_⟩
  cases r1 with
  |ref hc=>
   rename_i a
   obtain⟨xs,h1,h2⟩:=st1.cell n a _ hc (Fy e2)
   refine⟨.inl ⟨rfl,xs,.of h1⟩,?_⟩
   refine ID e3 (r.step g1.st) st1 λvs H2 M2 g2 st2 r2=>?_
   exact⟨M2,S2,n,a,ds,args,dd,ds',rfl,OJ g2.pre hc,Fy e4,e5,st2,r2,λv H3 st3 g3 r3=>q _ _ M2 ((g1.trans g2).trans g3) st3 r3⟩
 .cases e
theorem LO{id:qo}{name:Str}{o e:oA}{es:Gc oA}{op:Mo}{f:Ev}{fs:Gc Ev}{apos cpos:Pos}(slot:Slot "list" name id)(hty:typeOf (.builtin id)=pure (.type "method_descriptor"))(hm:MtR X id (fE X.K op))(ho:DE X o f)(ha:DEs X (e::es) fs)(hbase:attributeBase o name X.env (eval o X.env)=eval o X.env:=by rfl)(hfew:((backTo cpos (nk (e::es) X.env)).all (λx=> !x.1) && (backToKw cpos (keywordEach [] X.env)).all (λx=>x.1.isSome) && decide ((e::es).length+([]:Gc uA).length+(if([]:Gc uA).isEmpty then 0 else 1)<30))=true:=by rfl)(hline:(apos.endLine==cpos.line)=true:=by rfl)(hs:nk (e::es) X.env=(false,eval e X.env)::nk es X.env:=by rfl)(hplain:(backTo cpos (nk es X.env)).any (·.1)=false:=by rfl):DE X (.Call (.Attribute o name apos) (e::es) [] cpos) (Qg op f fs):=⟨Bz (jc PySem.F.plainAttrs_list slot hty hm ho.pe ha.pe hbase hfew hline hs hplain) λσ H Q z=>de z⟩
noncomputable def Qy:Mo
 |_,ds,[x]=>if ds.length<sizeLine then Fk (.non,ds++[x])else nD
 |_,_,_=>nD
theorem Rr{K:KE}{M:Ms}{H:Hp}{vs:Gc V}{d:D}(h:Ah K M H vs [d]):∃v,vs=[v]/\Dy K M H v d:=by
 cases h with
 |cons h t=>cases t;exact⟨_,rfl,h⟩
theorem Ja:MtR X "list.append" (fE X.K Qy):=by
 intro pins s σ H x vs v us Q I rx rv h
 obtain⟨M,S,n,a,ds,args,d,ds',rfl,hc,hn,e,st,ra,q⟩:=h
 unfold Qy at e
 split at e
 .split at e
  .rename_i hz
   cases e
   obtain⟨xs,h1,h2⟩:=st.cell n a _ hc hn
   obtain⟨y,rfl,ry⟩:=Rr ra
   obtain⟨st2,g2⟩:=st.chg hc hn (h2.append (.cons ry .nil))
   exact Qa pins s σ H _ _ v us Q I rx rv ⟨a,xs,y,rfl,rfl,h1,by rw[h2.length];exact hz,q _ _ st2 g2 .non⟩
  .cases e
 .cases e
end
noncomputable def NI(k f o:Ev):Ex:=λE S=>(k E S).bind λr=>(f E r.2).bind λb=>(o E b.2).bind λi=>match b.1,i.1 with
 | .ref n,.int j=>(Fo i.2 n).bind λds=>(ixN ds.length j).map λm=>(.nx,E,i.2.set n (.lst (ds.set m r.1)))
 |_,_=>nD
theorem B7 {X : Cx} {e t bs : oA} {k f o : Ev} {ps pos : Pos} (h : DE X e k) (hb : DE X bs f) (ht : DE X t o) (ha : ∀ v, assign (.Subscript bs t ps) X.env v = (do
      let ov ← holding [v] (eval bs X.env)
      let iv ← holding [v, ov] (eval t X.env)
      standAt ps
      holding [v, ov, iv] (setItem ov iv v)
      release [v, ov, iv] []) := by intro _; rfl)
    (hs : swapsWithSole [.Subscript bs t ps] e pos.line X.env = pure false := by rfl) (hw : swappedStores [.Subscript bs t ps] e X.env = pure none := by rfl)
    (h1 : (assignEach [.Subscript bs t ps] X.env).map (·.2) = [assign (.Subscript bs t ps) X.env] := by rfl) :
    DS X (.Assign [.Subscript bs t ps] e pos) (NI k f o) := ⟨
  Gw (ZN h.pe (cJ hb.pe ht.pe set_list ha) hs hw h1) fun Dn σ H z => by
    obtain ⟨M, E, S, fl, E', S', e, r, st, q⟩ := z
    obtain ⟨⟨d, S1⟩, e1, e⟩ := BA e
    obtain ⟨⟨b, S2⟩, e2, e⟩ := BA e
    obtain ⟨⟨i, S3⟩, e3, e⟩ := BA e
    dsimp only at e e1 e2 e3
    split at e
    · rename_i n j _
      obtain ⟨ds, e4, e⟩ := BA e
      obtain ⟨m, e5, e⟩ := Ky e
      cases e
      refine ⟨M, E, S, d, S1, e1, r, st, fun v H1 M1 g1 st1 r1 => ?_⟩
      refine ⟨M1, E, S1, _, S2, e2, r.step g1.st, st1, fun bv H2 M2 g2 st2 r2 => ?_⟩
      refine ⟨M2, E, S2, _, S3, e3, (r.step g1.st).step g2.st, st2, fun iv H3 M3 g3 st3 r3 => ?_⟩
      cases r3
      cases r2 with
      | ref hc =>
        rename_i a
        have hc3 := OJ g3.pre hc
        obtain ⟨xs, h1, h2⟩ := st3.cell n a _ hc3 (Fy e4)
        obtain ⟨st4, g4⟩ := st3.chg hc3 (Fy e4) (h2.set ((r1.step g2.st).step g3.st) m)
        have g := ((g1.trans g2).trans g3).trans g4
        exact ⟨a, xs, j, m, rfl, rfl, h1, by rw [h2.length]; exact e5, q _ _ M3 g (r.step g.st) st4⟩
    · cases e⟩
abbrev Fn:=Gc D->Sto->nG (D×Sto)
noncomputable def flD:Fl->D
 | .nx=>.non
 | .ret d=>d
noncomputable def A1(N:Nat)(body:Ex):Fn:=λds S=>(body (ds.map Fk++nh (N-ds.length) nD) S).map λr=>(flD r.1,r.2.2)
def Aq{α:Type}(a:α):α:=Classical.choose (⟨a,rfl⟩:∃x,x=a)
theorem Jh{α:Type}(a:α):Aq a=a:=zL (⟨a,rfl⟩:∃x,x=a)
noncomputable def spD(K:KE)(np:Nat)(f:Fn):Sp:=λvs H Q _=>∃M ds S d S',ds.length=np/\f ds S=Fk (d,S')/\Ah K M H vs ds/\StR K M S H/\∀v H' M',Gr M H M' H'->StR K M' S' H'->Dy K M' H' v d->Q v H'
theorem QX{α:Type}{xs:Gc α}{i:Nat}{x:α}(h:(xs.map Fk)[i]?=Fk (Fk x)):xs[i]?=Fk x:=by
 rw[nY]at h
 cases e:xs[i]? with
 |none=>rw[e]at h;cases h
 |some y=>rw[e]at h;cases h;rfl
theorem Tz{α:Type}{xs:Gc (nG α)}{k i:Nat}{x:α}(h:(xs++nh k nD)[i]?=Fk (Fk x)):xs[i]?=Fk (Fk x):=by
 by_cases hi:i<xs.length
 .rw[nJ hi]at h;exact h
 .rw[oI (by lia),uR]at h
  split at h<;>cases h
theorem aI{α:Type}{xs:Gc (nG α)}{k i:Nat}{x:nG α}(h:xs[i]?=Fk x):(xs++nh k nD)[i]?=Fk x:=by
 rw[nJ (nP.mp h).1];exact h
theorem EnR.args{K:KE}{M:Ms}{H:Hp}{vs:Gc V}{ds:Gc D}(r:Ah K M H vs ds)(k:Nat):EnR K M (ds.map Fk++nh k nD) (vs.map Fk++nh k nD) H:=by
 refine⟨by simp[r.length],λi d e=>?_⟩
 obtain⟨v,h1,h2⟩:=r.get (QX (Tz e))
 exact⟨v,aI (by rw[nY,h1];rfl),h2⟩
section
variable{P:nv}{w:oM}{K:KE}{mg:Str->nG Wp}{base:oE}
theorem iF{x:Str}{st:oK}{f:nI}{fd:qE}{N ps:Gc Str}{k np:Nat}{b:Ex}(Fu:Fun K x x st f fd)(S:AO N ps (AG st))(hp:ps.length=np)(hb:∀(cdv:Wp) (A:oN) (outer:Gc p9) (s:nE) (H:Hp) (E:XK),Gz k (A.deeper (ox x (AG st) s.heap.objs.size f cdv))->DSs (Ln CX0 P w K mg base N x (AG st) f cdv A outer s H E).nox (DK st) b):Rq P w K mg base CX0 (k+1) f fd ps (spD K np (Aq (A1 N.length b))):=by
 rw[Jh]
 refine Fu.ok S (λvs H Q E h=>?_) (λcdv A outer s H vs Q E hr h=>?_)
 .obtain⟨M,ds,S0,d,S',hl,_,r,_⟩:=h
  have:=r.length
  lia
 .obtain⟨M,ds,S0,d,S',hl,e,r,st,q⟩:=h
  have hlen:=r.length
  refine⟨_,(hb cdv A outer s H E hr).pe,?_⟩
  obtain⟨⟨fl,E',S1⟩,e1,e⟩:=Ky e
  cases e
  refine⟨M,_,S0,fl,E',S1,e1,?_,st,?_⟩
  .rw[show L2.start N vs=vs.map Fk++nh (N.length-ds.length) nD from by unfold L2.start;rw[hlen]]
   exact .args r _
  .cases fl with
   |nx=>exact λσ' H' M' g _ st'=>q _ _ M' g st' .non
   |ret d=>exact λv H' M' g st' r'=>q _ _ M' g st' r'
theorem bY{x:Str}{st:oK}{N ps:Gc Str}{k np:Nat}{b:Ex}(S:St.Src K mg x st)(sc:AO N ps (AG st))(hp:ps.length=np)(hbi:∀f fd,Fun K x x st f fd->Binds K fd ps [])(hb:∀(f:nI) (cdv:Wp) (A:oN) (outer:Gc p9) (s:nE) (H:Hp) (E:XK),Gz k (A.deeper (ox x (AG st) s.heap.objs.size f cdv))->DSs (Ln CX0 P w K mg base N x (AG st) f cdv A outer s H E).nox (DK st) b):St.Dfn P w K mg base x (k+1) ps (spD K np (Aq (A1 N.length b))):=by
 obtain⟨f,fd,Fu,hm⟩:=S.ex
 exact⟨f,fd,hm,Fu.kp,hbi f fd Fu,iF Fu sc hp λcdv A outer s H E hr=>hb f cdv A outer s H E hr⟩
end
noncomputable def AJ(f:Fn)(fs:Gc Ev):Ev:=λE S=>(evs fs E S).bind λr=>f r.1 r.2
theorem Zh{K:KE}{np:Nat}{f:Fn}{fs:Gc Ev}{σ:Sg}{H:Hp}{Q:VK}(hn:fs.length=np)(h:tD K (AJ f fs) σ H Q):aj (spD K np f) [] E0 (tDs K fs) σ H Q:=by
 obtain⟨M,E,S,d,S',e,r,st,q⟩:=h
 obtain⟨⟨ds,S1⟩,e1,e⟩:=BA e
 refine ID e1 r st λvs H1 M1 g1 st1 r1=>?_
 rw[qP]
 exact⟨M1,ds,S1,d,S',by rw[ML e1];exact hn,e,r1,st1,λv H2 M2 g2 st2 r2=>q _ _ M2 (g1.trans g2) st2 r2⟩
theorem a9{X:Cx}{k np:Nat}{x:Str}{ps:Gc Str}{f:Fn}{e:oA}{es:Gc oA}{fs:Gc Ev}{p pos:Pos}(d:St.Dfn X.prog X.w X.K X.mg X.base x k ps (spD X.K np f))(hr:Gz k X.A)(hg:Gl X x)(ha:DEs X (e::es) fs)(hn:fs.length=np:=by rfl)(hdb:(x==("__debug__":Str))=false:=by decide)(he:nk (e::es) X.env=(false,eval e X.env)::nk es X.env:=by rfl)(hpl:(backTo pos (nk es X.env)).any (·.1)=false:=by rfl):DE X (.Call (.Name x p) (e::es) [] pos) (AJ f fs):=⟨Bz (St.iG d hr hg ha.pe hdb he hpl) λσ H Q z=>Zh hn z⟩
abbrev Tf:=D->En->Sto->nG En
noncomputable def tG(K:KE)(t:Tf):TG:=λv σ H Q=>∃M d E E' S,t d E S=Fk E'/\EnR K M E σ H/\StR K M S H/\Dy K M H v d/\∀σ',EnR K M E' σ' H->Q σ' H
structure DG(X:Cx)(tg:oA)(t:Tf):Prop where
 pe:PG X tg (tG X.K t)
noncomputable def tNm(i:Nat):Tf:=λd E _=>Fk (E.set i (Fk d))
theorem VU{X:Cx}{e:oA}{t t':TG}(h:PG X e t)(m:∀v σ H Q,t' v σ H Q->t v σ H Q):PG X e t':=λpins s σ H v u Q I r q=>h pins s σ H v u Q I r (m _ _ _ _ q)
theorem Ad{X:Cx}{pos:Pos}(i:Nat){x:Str}(hN:X.N.Nodup)(hi:X.N[i]?=Fk x:=by rfl)(hx:Loc X.env.scope x:=by first|exact xZ rfl|exact xf rfl)(hf:X.fn x=true\/X.env.scope.names.lookup x=Fk .local:=by first|exact .inl rfl|exact .inr rfl):DG X (.Name x pos) (tNm i):=⟨VU (Zw hN hi hx hf) λv σ H Q z=>by
 obtain⟨M,d,E,E',S,e,r,st,rd,q⟩:=z
 cases e
 exact q _ (r.put rd)⟩
noncomputable def tMs:Gc Tf->Gc D->En->Sto->nG En
 | [],[],E,_=>Fk E
 |t::ts,d::ds,E,S=>(t d E S).bind λE1=>tMs ts ds E1 S
 |_,_,_,_=>nD
noncomputable def tTp(ts:Gc Tf):Tf:=λd E S=>match d with
 | .tup ds=>tMs ts ds E S
 | .lst ds=>tMs ts ds E S
 | .ref n=>(Fo S n).bind λds=>tMs ts ds E S
 |_=>nD
noncomputable def tGs(K:KE):Gc Tf->TGs
 | []=>kU
 |t::ts=>cD (tG K t) (tGs K ts)
theorem SI{K:KE}{M:Ms}{H:Hp}{S:Sto}(st:StR K M S H):∀{ts:Gc Tf} {ds:Gc D} {vs:Gc V} {E E':En} {σ:Sg} {Q:Sg->Hp->Prop},tMs ts ds E S=Fk E'->EnR K M E σ H->Ah K M H vs ds->(∀σ',EnR K M E' σ' H->Q σ' H)->tGs K ts vs σ H Q
 | [],[],_,E,E',σ,Q,e,r,rd,q=>by
   cases e
   cases rd
   exact⟨rfl,q _ r⟩
 |t::ts,d::ds,_,E,E',σ,Q,e,r,rd,q=>by
  obtain⟨E1,e1,e⟩:=BA e
  cases rd with
  |cons h1 h2=>exact⟨_,_,rfl,M,d,E,E1,S,e1,r,st,h1,λσ1 r1=>SI st e r1 h2 q⟩
 | [],_::_,_,E,E',σ,Q,e,r,rd,q=>by cases e
 |_::_,[],_,E,E',σ,Q,e,r,rd,q=>by cases e
theorem OS:∀{ts:Gc Tf} {ds:Gc D} {E E':En} {S:Sto},tMs ts ds E S=Fk E'->ds.length=ts.length
 | [],[],_,_,_,_=>rfl
 |t::ts,d::ds,E,E',S,e=>by
  obtain⟨E1,e1,e⟩:=BA e
  simp[OS e]
 | [],_::_,_,_,_,e=>by cases e
 |_::_,[],_,_,_,e=>by cases e
structure DGs(X:Cx)(es:Gc oA)(ts:Gc Tf):Prop where
 pe:PGs X es (tGs X.K ts)
theorem BX{X:Cx}:DGs X [] []:=⟨bL⟩
theorem AN{X:Cx}{e:oA}{es:Gc oA}{t:Tf}{ts:Gc Tf}(h:DG X e t)(g:DGs X es ts)(hs:(assignEach (e::es) X.env).map (·.2)=assign e X.env::(assignEach es X.env).map (·.2):=by rfl):DGs X (e::es) (t::ts):=⟨YG h.pe g.pe hs⟩
theorem E9{X:Cx}{k:Nat}{es:Gc oA}{ts:Gc Tf}{pos:Pos}(hc:X.calm=true)(h:DGs X es ts)(hn:(assignEach es X.env).length=ts.length:=by rfl)(hst:(assignEach es X.env).findIdx? (·.1)=none:=by rfl):DG X (.Tuple es k pos) (tTp ts):=⟨
 VU (c7 hc h.pe hn hst) λv σ H Q z=>by
  obtain⟨M,d,E,E',S,e,r,st,rd,q⟩:=z
  unfold tTp at e
  split at e
  .cases rd with
   |tup h1 h2=>exact⟨_,_,rfl,.inl h1,by rw[h2.length];exact OS e,SI st e r h2 q⟩
  .cases rd with
   |lst h1 n h2=>exact⟨_,_,rfl,.inr h1,by rw[h2.length];exact OS e,SI st e r h2 q⟩
  .obtain⟨ds,e1,e⟩:=BA e
   cases rd with
   |ref hc=>
    obtain⟨xs,h1,h2⟩:=st.cell _ _ _ hc (Fy e1)
    exact⟨_,_,rfl,.inr h1,by rw[h2.length];exact OS e,SI st e r h2 q⟩
  .cases e⟩
noncomputable def PV(t:Tf)(k:Ev):Ex:=λE S=>(k E S).bind λr=>(t r.1 E r.2).map λE'=>(.nx,E',r.2)
theorem GD{X:Cx}{tg e:oA}{t:Tf}{k:Ev}{pos:Pos}(h:DE X e k)(hg:DG X tg t)(hs:swapsWithSole [tg] e pos.line X.env=pure false:=by rfl)(hw:swappedStores [tg] e X.env=pure none:=by rfl)(h1:(assignEach [tg] X.env).map (·.2)=[assign tg X.env]:=by rfl):DS X (.Assign [tg] e pos) (PV t k):=⟨Gw (ZN h.pe hg.pe hs hw h1) λDn σ H z=>by
 obtain⟨M,E,S,fl,E',S',e,r,st,q⟩:=z
 obtain⟨⟨d,S1⟩,e1,e⟩:=BA e
 obtain⟨E2,e2,e⟩:=Ky e
 cases e
 exact⟨M,E,S,d,S1,e1,r,st,λv H1 M1 g1 st1 r1=>⟨M1,d,E,_,S1,e2,r.step g1.st,st1,r1,λσ' r2=>q _ _ M1 g1 r2 st1⟩⟩⟩
noncomputable def Sn(i j:Nat)(f g:Ev):Ex:=λE S=>(evs [f,g] E S).bind λr=>match r.1 with
 | [d,d']=>Fk (.nx,(E.set i (Fk d)).set j (Fk d'),r.2)
 |_=>nD
theorem LN{X:Cx}{i j:Nat}{x y:Str}{a b:oA}{f g:Ev}{px py pt:Pos}{kt k2:Nat}{pt2 pos:Pos}(hc:X.calm=true)(hN:X.N.Nodup)(hi:X.N[i]?=Fk x)(hj:X.N[j]?=Fk y)(hij:i≠j)(hx:X.env.scope.names.lookup x=Fk .local)(hy:X.env.scope.names.lookup y=Fk .local)(ha:DE X a f)(hb:DE X b g)(hw:swappedStores [.Tuple [.Name x px,.Name y py] kt pt] (.Tuple [a,b] k2 pt2) X.env=pure (Fk [x,y]):=by rfl)(hsa:nk [a,b] X.env=(false,eval a X.env)::nk [b] X.env:=by rfl)(hsb:nk [b] X.env=(false,eval b X.env)::nk [] X.env:=by rfl)(hs:swapsWithSole [.Tuple [.Name x px,.Name y py] kt pt] (.Tuple [a,b] k2 pt2) pos.line X.env=pure false:=by rfl):DS X (.Assign [.Tuple [.Name x px,.Name y py] kt pt] (.Tuple [a,b] k2 pt2) pos) (Sn i j f g):=⟨by
 refine Gw (eE hc hN hi hj hij hx hy (O1 ha.pe (O1 hb.pe U8 hsb) hsa) hw hs) λDn σ H z=>?_
 obtain⟨M,E,S,fl,E',S',e,r,st,q⟩:=z
 obtain⟨⟨ds,S1⟩,e1,e⟩:=BA e
 refine ID (K:=X.K) (fs:=[f,g]) e1 r st λvs H1 M1 g1 st1 r1=>?_
 dsimp only at e
 split at e
 .rename_i d d'
  cases e
  cases r1 with
  |cons h1 t=>
   cases t with
   |cons h2 t=>
    cases t
    exact⟨_,_,rfl,q _ _ M1 g1 (((r.step g1.st).put h1).put h2) st1⟩
 .cases e⟩
noncomputable def QC:Ex:=λ_ _=>nD
theorem Rz{X:Cx}{st:oK}:DS X st QC:=⟨λ_ _ _ _ _ _ z=>by
 obtain⟨M,E,S,fl,E',S',e,_⟩:=z
 cases e⟩
abbrev Gd:=Gc (Nat×Gc D)
def gOk(gs:Gd)(S:Sto):Prop:=∀g∈gs,Fo S g.1=Fk g.2
abbrev Sr:=En->Sto->nG ((Gc D×Gd)×Sto)
structure bq(K:KE)(M:Ms)(H:Hp)(gs:Gd)(ds:Gc D)(J:It):Prop where
 go:∀(i:Nat) (H2:Hp) (M2:Ms) (S2:Sto),Sp1 M H M2 H2->StR K M2 S2 H2->gOk gs S2->i<ds.length->J.go i H2
 stop:∀(i:Nat) (H2:Hp) (M2:Ms) (S2:Sto),Sp1 M H M2 H2->StR K M2 S2 H2->gOk gs S2->ds.length<=i->J.stop i H2
 yld:∀(i:Nat) (H2:Hp) (M2:Ms) (S2:Sto) (x:V) (H3:Hp) (d:D),Sp1 M H M2 H2->StR K M2 S2 H2->gOk gs S2->ds[i]?=Fk d->J.yld i H2 x H3->(∀a o,H2 a=Fk o->H3 a=Fk o)/\Dy K M2 H3 x d
noncomputable def tI(K:KE)(s:Sr):TI:=λσ H R=>∃M E S ds gs S',s E S=Fk ((ds,gs),S')/\EnR K M E σ H/\StR K M S H/\∀J H' M',Gr M H M' H'->StR K M' S' H'->bq K M' H' gs ds J->R J H'
structure DI(X:Cx)(tg iter:oA)(s:Sr):Prop where
 pe:PI X tg iter (tI X.K s)
theorem O9{X:Cx}{tg e:oA}{t t':TI}(h:PI X tg e t)(m:∀σ H R,t' σ H R->t σ H R):PI X tg e t':=λpins s σ H R I q=>h pins s σ H R I (m _ _ _ q)
noncomputable def mW(K:KE)(tl:TE):TI:=λσ H R=>tl σ H λx H1=>∃a,x=.ref a/\(((∃xs,SqL K H1 a xs)/\R (Itl K a) H1)\/((∃xs,SqT K H1 a xs)/\R (Itt K a) H1))
theorem cX{X:Cx}{tg l:oA}{tl:TE}(hl:PE X l tl):PI X tg l (mW X.K tl):=by
 intro pins s σ H R I h
 refine thn (hl pins s σ H _ I h) λv s1 ⟨x,H1,I1,r1,q1⟩=>?_
 obtain⟨a,e,q1⟩:=q1
 subst e
 cases r1
 rcases q1 with⟨⟨xs,hq⟩,q⟩|⟨⟨xs,hq⟩,q⟩
 .obtain⟨its,rv,p,hz⟩:=I1.list hq
  refine qO p.isList ?_
  refine⟨s1.heap.objs.size,[s1.heap.objs.size],_,_,H1,rfl,I1.kept (t':=s1.toks) λb o e=>W1 _ e,Uo a _,⟨_,nq _ rfl,rfl,rfl⟩,λb hb=>?_,q⟩
  have e:b=s1.heap.objs.size:=by simpa using hb
  subst e
  exact I1.ZV (nS _) (I1.hok.fresh (nS _))
 .obtain⟨its,rv,p,hz⟩:=I1.tuple hq
  refine qG (show s1.heap.IsTuple a its.toArray from p) ?_
  refine⟨s1.heap.objs.size,[s1.heap.objs.size],_,_,H1,rfl,I1.kept (t':=s1.toks) λb o e=>W1 _ e,Te a _,⟨_,nq _ rfl,rfl,rfl⟩,λb hb=>?_,q⟩
  have e:b=s1.heap.objs.size:=by simpa using hb
  subst e
  exact I1.ZV (nS _) (I1.hok.fresh (nS _))
theorem Ah.get'{K:KE}{M:Ms}{H:Hp}{vs:Gc V}{ds:Gc D}{i:Nat}(h:Ah K M H vs ds)(hi:i<ds.length):∃x,vs[i]?=Fk x:=by
 have:=h.length
 exact⟨vs[i],nM (by omega)⟩
structure SqF(K:KE)(M:Ms)(H:Hp)(gs:Gd)(k:oQ)(a:nI)(ds:Gc D):Prop where
 keep:∀(H2:Hp) (M2:Ms) (S2:Sto),Sp1 M H M2 H2->StR K M2 S2 H2->gOk gs S2->∃xs,(if k=true then SqT K H2 a xs else SqL K H2 a xs)/\Ah K M2 H2 xs ds
noncomputable def sqD(S:Sto):D->nG (Gc D×Gd)
 | .tup ds=>Fk (ds,[])
 | .lst ds=>Fk (ds,[])
 | .ref n=>(Fo S n).map λds=>(ds,[(n,ds)])
 | .scr ns=>Fk (ns.map .int,[])
 |_=>nD
theorem RX{K:KE}{M:Ms}{H:Hp}{S:Sto}{v:V}{d:D}{ds:Gc D}{gs:Gd}(st:StR K M S H)(h:Dy K M H v d)(e:sqD S d=Fk (ds,gs)):∃k a,v=.ref a/\SqF K M H gs k a ds:=by
 cases h with
 |tup h r=>cases e;exact⟨true,_,rfl,⟨λH2 M2 S2 g _ _=>⟨_,g.sqT h,r.step g⟩⟩⟩
 |lst h n r=>cases e;exact⟨false,_,rfl,⟨λH2 M2 S2 g _ _=>⟨_,SqL.of (g.keep _ _ h n),r.step g⟩⟩⟩
 |scr h=>
  cases e
  refine⟨false,_,rfl,⟨λH2 M2 S2 g _ _=>⟨_,?_,Lm⟩⟩⟩
  rcases h with⟨h,n⟩|h
  .rcases h with h|⟨o,h⟩
   .exact .inl (.inl (g.keep _ _ h n))
   .exact .inl (.inr ⟨o,g.keep _ _ h n⟩)
  .exact .inr h
 |ref h=>
  obtain⟨es,e1,e⟩:=Ky e
  cases e
  refine⟨false,_,rfl,⟨λH2 M2 S2 g st2 ok=>?_⟩⟩
  obtain⟨xs,h1,h2⟩:=st2.cell _ _ _ (OJ g.pre h) (Fy (ok _ (oJ.mpr rfl)))
  exact⟨xs,SqL.of h1,h2⟩
 |non=>cases e
 |bl b=>cases e
 |int b=>cases e
 |str b=>cases e
 |ty b=>cases e
 |dct h n r=>cases e
theorem iw{K:KE}{M:Ms}{H:Hp}{gs:Gd}{k:oQ}{a:nI}{ds:Gc D}(h:SqF K M H gs k a ds):bq K M H gs ds (if k=true then Itt K a else Itl K a):=by
 cases k with
 |true=>
  exact{
   go:=λi H2 M2 S2 g st ok hi=>let⟨xs,h1,h2⟩:=h.keep H2 M2 S2 g st ok;let⟨x,hx⟩:=h2.get' hi;⟨xs,x,h1,hx⟩
   stop:=λi H2 M2 S2 g st ok hi=>let⟨xs,h1,h2⟩:=h.keep H2 M2 S2 g st ok;⟨xs,h1,by have:=h2.length;omega⟩
   yld:=λi H2 M2 S2 x H3 d g st ok hd hy=>by
    obtain⟨xs,h1,h2⟩:=h.keep H2 M2 S2 g st ok
    obtain⟨rfl,hy⟩:=hy
    refine⟨λ_ _ e=>e,?_⟩
    have hx:=hy xs h1
    obtain⟨x',h3,h4⟩:=h2.get hd
    rw[hx]at h3;cases h3
    exact h4}
 |false=>
  exact{
   go:=λi H2 M2 S2 g st ok hi=>let⟨xs,h1,h2⟩:=h.keep H2 M2 S2 g st ok;let⟨x,hx⟩:=h2.get' hi;⟨xs,x,h1,hx⟩
   stop:=λi H2 M2 S2 g st ok hi=>let⟨xs,h1,h2⟩:=h.keep H2 M2 S2 g st ok;⟨xs,h1,by have:=h2.length;omega⟩
   yld:=λi H2 M2 S2 x H3 d g st ok hd hy=>by
    obtain⟨xs,h1,h2⟩:=h.keep H2 M2 S2 g st ok
    obtain⟨rfl,hy⟩:=hy
    refine⟨λ_ _ e=>e,?_⟩
    have hx:=hy xs h1
    obtain⟨x',h3,h4⟩:=h2.get hd
    rw[hx]at h3;cases h3
    exact h4}
noncomputable def Lx(f:Ev):Sr:=λE S=>(f E S).bind λr=>(sqD r.2 r.1).map λp=>(p,r.2)
theorem Ox{S:Sto}{d:D}{ds:Gc D}{gs:Gd}(e:sqD S d=Fk (ds,gs)):gOk gs S:=by
 cases d<;>first|(cases e;done)|skip
 all_goals first
  |(cases e;intro g hg;cases hg;done)
  |(obtain⟨es,e1,e⟩:=Ky e
    cases e
    intro g hg
    rw[oJ.mp hg]
    exact e1)
theorem Fs{X:Cx}{tg e:oA}{f:Ev}(h:DE X e f):DI X tg e (Lx f):=⟨O9 (cX h.pe) λσ H R z=>by
 obtain⟨M,E,S,ds,gs,S',e,r,st,q⟩:=z
 obtain⟨⟨d,S1⟩,e1,e⟩:=BA e
 obtain⟨⟨ds',gs'⟩,e2,e⟩:=Ky e
 cases e
 refine⟨M,E,S,d,S1,e1,r,st,λv H1 M1 g1 st1 r1=>?_⟩
 obtain⟨k,a,rfl,sq⟩:=RX st1 r1 e2
 obtain⟨xs,hs,_⟩:=sq.keep H1 M1 S1 (Gr.refl st1.mo).st st1 (Ox e2)
 have it:=iw sq
 refine⟨a,rfl,?_⟩
 cases k with
 |true=>exact .inr ⟨⟨xs,hs⟩,q _ _ M1 g1 st1 it⟩
 |false=>exact .inl ⟨⟨xs,hs⟩,q _ _ M1 g1 st1 it⟩⟩
noncomputable def Jr(lo:Int)(n:Nat):Gc D:=(oF n).map λ(i:Nat)=>.int (lo+(i:Int))
theorem dD{K:KE}{M:Ms}{H:Hp}{lo:Int}{n:Nat}:bq K M H [] (Jr lo n) (Itr lo n) where
 go:=λi H2 M2 S2 g st ok hi=>by
  have:i<n:=by unfold Jr at hi;simpa using hi
  exact this
 stop:=λi H2 M2 S2 g st ok hi=>by
  have:n<=i:=by unfold Jr at hi;simpa using hi
  exact this
 yld:=λi H2 M2 S2 x H3 d g st ok hd hy=>by
  obtain⟨rfl,rfl⟩:=hy
  refine⟨λ_ _ e=>e,?_⟩
  unfold Jr at hd
  rw[nY]at hd
  cases e:(oF n)[i]? with
  |none=>rw[e]at hd;cases hd
  |some j=>
   rw[e]at hd
   cases hd
   have:j=i:=by
    obtain⟨h1,h2⟩:=nP.mp e
    simpa using h2.symm
   subst this
   exact .int _
noncomputable def Qe(fs:Gc Ev):Sr:=λE S=>(evs fs E S).bind λr=>match r.1 with
 | [.int j]=>if(decide (-(2^62)<=j) && decide (j<2^62))=true then Fk ((Jr 0 j.toNat,[]),r.2)else nD
 | [.int i,.int j]=>if(decide (-(2^62)<=i) && decide (i<2^62) && decide (-(2^62)<=j) && decide (j<2^62))=true then Fk ((Jr i (j-i).toNat,[]),r.2)else nD
 |_=>nD
theorem RV{K:KE}{M:Ms}{H:Hp}{vs:Gc V}{j:Int}(h:Ah K M H vs [.int j]):vs=[.int j]:=by
 cases h with
 |cons h t=>cases t;cases h;rfl
theorem G3{X:Cx}{tg a:oA}{o:Ev}{p pos:Pos}(hg:Gl X "range")(hm:X.mg "range"=nD)(ha:DEs X [a] [o])(hs:nk [a] X.env=[(false,eval a X.env)]:=by rfl):DI X tg (.Call (.Name "range" p) [a] [] pos) (Qe [o]):=⟨
 O9 (Uw hg hm ha.pe hs) λσ H R z=>by
  obtain⟨M,E,S,ds,gs,S',e,r,st,q⟩:=z
  obtain⟨⟨ws,S1⟩,e1,e⟩:=BA e
  have hl:=ML e1
  refine ID e1 r st λvs H1 M1 g1 st1 r1=>?_
  dsimp only at e
  split at e
  .split at e
   .rename_i j hk
    rw[nU]at hk
    cases e
    exact⟨j,RV r1,nV hk.1,nV hk.2,q _ _ M1 g1 st1 dD⟩
   .cases e
  .simp at hl
  .cases e⟩
open Classical in
def NT(gs:Gd)(t:Tf)(body:Ex):Gc D->En->Sto->nG (Fl×En×Sto)
 | [],E,S=>if gOk gs S then Fk (.nx,E,S)else nD
 |d::ds,E,S=>if gOk gs S then(t d E S).bind λE1=>(body E1 S).bind λr=>match r.1 with
  | .nx=>NT gs t body ds r.2.1 r.2.2
  | .ret w=>Fk (.ret w,r.2)
  else nD
def RF(s:Sr)(t:Tf)(body:Ex):Ex:=λE S=>(s E S).bind λr=>NT r.1.2 t body r.1.1 E r.2
theorem QQ{α:Type}{xs:Gc α}{i:Nat}{x:α}{r:Gc α}(h:xs.drop i=x::r):xs[i]?=Fk x/\xs.drop (i+1)=r/\i<xs.length:=by
 have hi:i<xs.length:=by
  by_cases hi:i<xs.length
  .exact hi
  .rw[qS (by omega)]at h;cases h
 rw[pH hi]at h
 cases h
 exact⟨nM hi,rfl,hi⟩
theorem Ik{X:Cx}{tg iter:oA}{body:Gc oK}{s:Sr}{t:Tf}{b:Ex}{pos:Pos}(hp:wU (model X.prog X.w) X.A X.env X.xe)(hc:X.calm=true)(hi:DI X tg iter s)(hg:DG X tg t)(hb:DSs X body b)(hs:∀x,foldedSetIterable iter X.env x=pure x:=by intro _;rfl):DS X (.For tg iter body [] pos) (RF s t b):=⟨Gw (b9 hp hc hi.pe hg.pe hb.pe hs) λDn σ H z=>by
 obtain⟨M,E,S,fl,E',S',e,r,st,q⟩:=z
 obtain⟨⟨⟨ds,gs⟩,S1⟩,e1,e⟩:=BA e
 dsimp only at e
 refine⟨M,E,S,ds,gs,S1,e1,r,st,λJ H1 M1 g1 st1 it=>?_⟩
 refine⟨λi m σ' H'=>m=ds.length-i/\∃E2 S2 M2,NT gs t b (ds.drop i) E2 S2=Fk (fl,E',S')/\Gr M1 H1 M2 H'/\EnR X.K M2 E2 σ' H'/\StR X.K M2 S2 H',⟨_,rfl,E,S1,M1,e,.refl st1.mo,r.step g1.st,st1⟩,λi m σ2 H2 hW=>?_⟩
 obtain⟨rfl,E2,S2,M2,e2,g2,r2,st2⟩:=hW
 cases ed:ds.drop i with
 |nil=>
  rw[ed]at e2
  unfold NT at e2
  split at e2
  .rename_i ok
   cases e2
   left
   exact⟨it.stop i H2 M2 _ g2.st st2 ok (vI.mp ed),q _ _ M2 (g1.trans g2) r2 st2⟩
  .cases e2
 |cons d rest=>
  obtain⟨d1,d2,d3⟩:=QQ ed
  rw[ed]at e2
  unfold NT at e2
  split at e2
  .rename_i ok
   obtain⟨E3,e3,e2⟩:=BA e2
   obtain⟨⟨f4,E4,S4⟩,e4,e2⟩:=BA e2
   dsimp only at e2
   right
   refine⟨it.go i H2 M2 S2 g2.st st2 ok d3,λσ' H'=>∃m',m'<ds.length-i/\(m'=ds.length-(i+1)/\∃E2 S2 M2,NT gs t b (ds.drop (i+1)) E2 S2=Fk (fl,E',S')/\Gr M1 H1 M2 H'/\EnR X.K M2 E2 σ' H'/\StR X.K M2 S2 H'),λσ' H' z=>z,λx H3 hy=>?_⟩
   obtain⟨k3,rx⟩:=it.yld i H2 M2 S2 x H3 d g2.st st2 ok d1 hy
   have g3:Gr M2 H2 M2 H3:=.grow st2.mo k3
   refine⟨M2,d,E2,E3,S2,e3,r2.step g3.st,st2.grow k3,rx,λσ4 r4=>?_⟩
   refine⟨M2,E3,S2,f4,E4,S4,e4,r4,st2.grow k3,?_⟩
   split at e2
   .exact λσ6 H6 M6 g6 r6 st6=>⟨_,by omega,rfl,E4,S4,M6,by rw[d2];exact e2,(g2.trans g3).trans g6,r6,st6⟩
   .cases e2
    exact λv H6 M6 g6 st6 r6=>q _ _ M6 (((g1.trans g2).trans g3).trans g6) st6 r6
  .cases e2⟩
noncomputable def Im(c:Ev)(b:Ex):Nat->En->Sto->nG (Fl×En×Sto)
 |0,_,_=>nD
 |k+1,E,S=>(c E S).bind λr=>match r.1 with
  | .bl true=>(b E r.2).bind λp=>match p.1 with
    | .nx=>Im c b k p.2.1 p.2.2
    | .ret w=>Fk (.ret w,p.2)
  | .bl false=>Fk (.nx,E,r.2)
  |_=>nD
noncomputable def QR(fuel:En->Nat)(c:Ev)(b:Ex):Ex:=λE S=>Im c b (fuel E) E S
theorem Rj{X:Cx}{c:oA}{body:Gc oK}{k:Ev}{b:Ex}{pos:Pos}(fuel:En->Nat)(hp:wU (model X.prog X.w) X.A X.env X.xe)(hc:DT X c k)(hb:DSs X body b):DS X (.While c body [] pos) (QR fuel k b):=⟨
 Gw (YF hp hc.pe hb.pe) λDn σ H z=>by
  obtain⟨M,E,S,fl,E',S',e,r,st,q⟩:=z
  refine⟨λm σ' H'=>∃E2 S2 M2,Im k b m E2 S2=Fk (fl,E',S')/\Gr M H M2 H'/\EnR X.K M2 E2 σ' H'/\StR X.K M2 S2 H',⟨fuel E,E,S,M,e,.refl st.mo,r,st⟩,λm σ2 H2 hW=>?_⟩
  obtain⟨E2,S2,M2,e2,g2,r2,st2⟩:=hW
  cases m with
  |zero=>cases e2
  |succ m=>
   obtain⟨⟨w3,S3⟩,e3,e2⟩:=BA e2
   dsimp only at e2
   split at e2
   .obtain⟨⟨f4,E4,S4⟩,e4,e2⟩:=BA e2
    refine⟨M2,E2,S2,true,S3,e3,r2,st2,λH3 M3 g3 st3=>?_⟩
    refine ZC ⟨λσ' H'=>∃m',m'<m+1/\∃E2 S2 M2,Im k b m' E2 S2=Fk (fl,E',S')/\Gr M H M2 H'/\EnR X.K M2 E2 σ' H'/\StR X.K M2 S2 H',λσ' H' z=>z,?_⟩
    refine⟨M3,E2,S3,f4,E4,S4,e4,r2.step g3.st,st3,?_⟩
    dsimp only at e2
    split at e2
    .exact λσ5 H5 M5 g5 r5 st5=>⟨m,by omega,E4,S4,M5,e2,(g2.trans g3).trans g5,r5,st5⟩
    .cases e2
     exact λv H5 M5 g5 st5 r5=>q _ _ M5 ((g2.trans g3).trans g5) st5 r5
   .cases e2
    refine⟨M2,_,S2,false,_,e3,r2,st2,λH3 M3 g3 st3=>?_⟩
    refine ZG ?_
    exact q _ _ M3 (g2.trans g3) (r2.step g3.st) st3
   .cases e2⟩
noncomputable def TK(i:Nat):En->Nat:=λE=>match at? E i with
 |some (.int j)=>j.natAbs+2
 |_=>0
section
variable{K:KE}{M M' M2:Ms}{H H' H2:Hp}{S:Sto}
structure GrX(M:Ms)(H:Hp)(M':Ms)(H':Hp):Prop where
 pre:M.cel <+: M'.cel
 fresh:∀a,a∈M'.cel->a∈M.cel\/H a=nD
 keep:∀a o,H a=Fk o->a∉M.cel->H' a=Fk o
 some:∀a,H a≠nD->H' a≠nD
theorem GrX.none(g:GrX M H M' H'){a:nI}(h:H' a=nD):H a=none:=by
 cases e:H a with
 |none=>rfl
 |some o=>exact absurd h (g.some a (by rw[e];intro z;cases z))
theorem Gr.x(g:Gr M H M' H'):GrX M H M' H':=⟨g.pre,g.fresh,g.keep,g.some⟩
theorem GrX.trans(h:GrX M H M' H')(g:GrX M' H' M2 H2):GrX M H M2 H2:=
 ⟨h.pre.trans g.pre,λa z=>(g.fresh a z).elim (h.fresh a) λz=>.inr (h.none z),λa o e n=>g.keep a o (h.keep a o e n) (λz=>by
   rcases h.fresh a z with z|z
   .exact n z
   .rw[e]at z;cases z),λa e=>g.some a (h.some a e)⟩
theorem StR.cG(r:StR K M S H){a:nI}(e:H a=nD):StR K ⟨M.cel,a::M.tmp⟩ S (upd H a (.lst []))/\GrX M H ⟨M.cel,a::M.tmp⟩ (upd H a (.lst []))/\Sp1 M H ⟨M.cel,a::M.tmp⟩ (upd H a (.lst [])):=by
 have k:∀b o,H b=Fk o->upd H a (.lst []) b=Fk o:=Hs e
 have na:¬M.mem a:=λz=>r.mo.some z e
 have s1:Sp1 M H ⟨M.cel,a::M.tmp⟩ (upd H a (.lst [])):=⟨r.mo,pB,λb z=>by
  rcases z with z|z
  .exact .inl (.inl z)
  .rcases nO.mp z with z|z
   .subst z;exact .inr e
   .exact .inl (.inr z),λb o eb _=>k b o eb⟩
 refine⟨⟨λb z=>?_,r.nd,λb hb z=>?_,r.len,λn b c h1 h2=>?_⟩,⟨pB,λb z=>.inl z,λb o eb _=>k b o eb,λb eb z=>?_⟩,s1⟩
 .by_cases h:b=a
  .subst h;exact .inl ⟨[],BL⟩
  .rw[Ab h]
   refine r.mo b ?_
   rcases z with z|z
   .exact .inl z
   .rcases nO.mp z with z|z
    .exact absurd z h
    .exact .inr z
 .rcases nO.mp hb with hb|hb
  .subst hb;exact na (.inl z)
  .exact r.nt b hb z
 .have q:=r.cell n b c h1 h2
  cases c with
  |lst ds=>obtain⟨xs,e,rr⟩:=q;exact⟨xs,k _ _ e,rr.step s1⟩
  |dct ds=>obtain⟨xs,e,rr⟩:=q;exact⟨xs,k _ _ e,rr.step s1⟩
  |tab ds=>obtain⟨xs,e,rr⟩:=q;exact⟨xs,k _ _ e,rr.step s1⟩
 .cases h:H b with
  |none=>exact eb h
  |some o=>rw[k b o h]at z;cases z
theorem StR.aM(r:StR K M S H){a:nI}{ys:Gc V}(ha:a∈M.tmp):StR K M S (upd H a (.lst ys))/\Sp1 M H M (upd H a (.lst ys)):=by
 have s1:Sp1 M H M (upd H a (.lst ys)):=⟨r.mo,pB,λb z=>.inl z,λb o eb nb=>by rw[Ab (λz=>nb (by rw[z];exact .inr ha))];exact eb⟩
 refine⟨⟨λb z=>?_,r.nd,r.nt,r.len,λn b c h1 h2=>?_⟩,s1⟩
 .by_cases h:b=a
  .subst h;exact .inl ⟨ys,BL⟩
  .rw[Ab h];exact r.mo b z
 .have hb:b≠a:=λz=>r.nt a ha (by rw[<-z];exact ni h1)
  have q:=r.cell n b c h1 h2
  cases c with
  |lst ds=>obtain⟨xs,e,rr⟩:=q;exact⟨xs,by rw[Ab hb];exact e,rr.step s1⟩
  |dct ds=>obtain⟨xs,e,rr⟩:=q;exact⟨xs,by rw[Ab hb];exact e,rr.step s1⟩
  |tab ds=>obtain⟨xs,e,rr⟩:=q;exact⟨xs,by rw[Ab hb];exact e,rr.step s1⟩
theorem StR.aC{c:Gc nI}{t:Gc nI}{a:nI}{xs:Gc V}{ds:Gc D}{cf:oQ}{d:D}{S':Sto}(r:StR K ⟨c,a::t⟩ S H)(nt:a∉t)(e:H a=Fk (.lst xs))(rr:Ah K ⟨c,a::t⟩ H xs ds)(ef:fin cf (.own ds) S=Fk (d,S')):∃c',StR K ⟨c',t⟩ S' H/\Dy K ⟨c',t⟩ H (.ref a) d/\c <+: c'/\(∀b∈c',b∈c\/b=a):=by
 have nc:a∉c:=r.nt a nT
 cases cf with
 |false=>
  cases ef
  have s1:Sp1 ⟨c,a::t⟩ H ⟨c,t⟩ H:=⟨r.mo,pB,λb z=>.inl (z.imp id (nK _)),λ_ _ e _=>e⟩
  refine⟨c,⟨λb z=>r.mo b (z.imp id (nK _)),r.nd,λb hb=>r.nt b (nK _ hb),r.len,λn b cl h1 h2=>?_⟩,.lst e (λz=>z.elim nc nt) (rr.step s1),pB,λb z=>.inl z⟩
  have q:=r.cell n b cl h1 h2
  cases cl with
  |lst ds=>obtain⟨xs,e,rr⟩:=q;exact⟨xs,e,rr.step s1⟩
  |dct ds=>obtain⟨xs,e,rr⟩:=q;exact⟨xs,e,rr.step s1⟩
  |tab ds=>obtain⟨xs,e,rr⟩:=q;exact⟨xs,e,rr.step s1⟩
 |true=>
  cases ef
  have s1:Sp1 ⟨c,a::t⟩ H ⟨c++[a],t⟩ H:=⟨r.mo,qy _ _,λb z=>by
   rcases z with z|z
   .rcases oD.mp z with z|z
    .exact .inl (.inl z)
    .exact .inl (.inr (by rw[oJ.mp z];exact nT))
   .exact .inl (.inr (nK _ z)),λ_ _ e _=>e⟩
  have hl:c.length=S.length:=r.len
  refine⟨c++[a],⟨λb z=>?_,?_,λb hb z=>?_,by simp[hl],λn b cl h1 h2=>?_⟩,.ref ?_,qy _ _,λb z=>?_⟩
  .refine r.mo b ?_
   rcases z with z|z
   .rcases oD.mp z with z|z
    .exact .inl z
    .exact .inr (by rw[oJ.mp z];exact nT)
   .exact .inr (nK _ z)
  .rw[sI]
   refine⟨r.nd,by simp,λx hx y hy z=>?_⟩
   simp at hy;subst hy
   exact nc (by rw[<-z];exact hx)
  .rcases oD.mp z with z|z
   .exact r.nt b (nK _ hb) z
   .rw[oJ.mp z]at hb;exact nt hb
  .by_cases h:n<S.length
   .rw[nJ (by rw[hl];exact h)]at h1
    rw[nJ h]at h2
    have q:=r.cell n b cl h1 h2
    cases cl with
    |lst ds=>obtain⟨xs,e,rr⟩:=q;exact⟨xs,e,rr.step s1⟩
    |dct ds=>obtain⟨xs,e,rr⟩:=q;exact⟨xs,e,rr.step s1⟩
    |tab ds=>obtain⟨xs,e,rr⟩:=q;exact⟨xs,e,rr.step s1⟩
   .have hm:n=S.length:=by
     have:=(nP.mp h2).1
     simp at this;omega
    subst hm
    rw[oI (by rw[hl];exact nS _)]at h1
    rw[oI (nS _)]at h2
    rw[hl]at h1
    simp at h1 h2
    subst h1 h2
    exact⟨xs,e,rr.step s1⟩
  .rw[<-hl];exact oC
  .rcases oD.mp z with z|z
   .exact .inl z
   .exact .inr (oJ.mp z)
end
open Classical in
def Cb(gs:Gd)(t:Tf)(c:Ev)(f:Ev):Gc D->Gc D->En->Sto->nG (Gc D×Sto)
 | [],acc,_,S=>if gOk gs S then Fk (acc,S)else nD
 |d::ds,acc,E,S=>if gOk gs S then(if acc.length<sizeLine then(t d E S).bind λE1=>(c E1 S).bind λr=>match r.1 with
   | .bl true=>(f E1 r.2).bind λp=>Cb gs t c f ds (acc++[p.1]) E1 p.2
   | .bl false=>Cb gs t c f ds acc E1 r.2
   |_=>nD
  else nD)else nD
noncomputable def De:Ev:=λ_ S=>Fk (.bl true,S)
noncomputable def Qv(cap:Gc Nat)(m:Nat)(E:En):En:=cap.map (at? E)++nh m nD
def OH(cf:oQ)(cap:Gc Nat)(m:Nat)(s:Sr)(t:Tf)(c:Ev)(f:Ev):Ev:=λE S=>(s E S).bind λr=>(Cb r.1.2 t c f r.1.1 [] (Qv cap m E) r.2).bind λq=>fin cf (.own q.1) q.2
noncomputable abbrev EF:=OH false
noncomputable abbrev Yy:=OH true
noncomputable def ixC(cap:Gc Nat)(m:Nat):Gc (nG Nat):=cap.map Fk++nh m nD
theorem EnR.cap{K:KE}{M:Ms}{E:En}{σ:Sg}{H:Hp}(r:EnR K M E σ H)(cap:Gc Nat)(m:Nat):EnR K M (Qv cap m E) (sig (ixC cap m) σ) H:=by
 unfold Qv sig ixC
 refine⟨by simp,λi d e=>?_⟩
 have h1:=Tz e
 rw[nY]at h1
 cases e1:cap[i]? with
 |none=>rw[e1]at h1;cases h1
 |some j=>
  rw[e1]at h1
  have h2:at? E j=Fk d:=by simpa using h1
  obtain⟨v,hv,rd⟩:=r.val j d (at?_some h2)
  refine⟨v,?_,rd⟩
  have hi:i<cap.length:=(nP.mp e1).1
  rw[pU,nJ (by simpa using hi),nY,nY,e1]
  show Fk ((σ[j]?).join)=Fk (Fk v)
  rw[hv]
  rfl
theorem VR{K:KE}{cf:oQ}{cap:Gc Nat}{m:Nat}{s:Sr}{t:Tf}{c f:Ev}{σ:Sg}{H:Hp}{Q:VK}(h:tD K (OH cf cap m s t c f) σ H Q):Zj (ixC cap m) (tI K s) (tG K t) (tDT K c) (tD K f) σ H Q:=by
 obtain⟨M,E,S,d,S',e,r,st,q⟩:=h
 obtain⟨⟨⟨ds,gs⟩,S1⟩,e1,e⟩:=BA e
 obtain⟨⟨accf,Sf⟩,e3,e⟩:=BA e
 dsimp only at e e3
 refine⟨M,E,S,ds,gs,S1,e1,r,st,λJ H1 M1 g1 st1 it A0 hD=>?_⟩
 obtain⟨st0,gx0,s0⟩:=st1.cG hD
 have nt:A0∉M1.tmp:=λz=>st1.mo.some (.inr z) hD
 refine⟨λi mm σ' H' ys=>mm=ds.length-i/\∃Ei Si Mi acc,Cb gs t c f (ds.drop i) acc Ei Si=Fk (accf,Sf)/\GrX M1 H1 Mi H'/\Mi.tmp=A0::M1.tmp/\EnR K Mi Ei σ' H'/\StR K Mi Si H'/\H' A0=Fk (.lst ys)/\Ah K Mi H' ys acc,
  ⟨_,rfl,_,S1,_,[],e3,gx0,rfl,((r.step g1.st).step s0).cap cap m,st0,BL,.nil⟩,λi mm σ2 H2 ys hW=>?_⟩
 obtain⟨rfl,Ei,Si,Mi,acc,ec,gx,ht,r2,st2,hy,ry⟩:=hW
 have sp:Sp1 M1 H1 Mi H2:=⟨st1.mo,gx.pre,λa z=>by
  rcases z with z|z
  .exact(gx.fresh a z).imp .inl id
  .rw[ht]at z
   rcases nO.mp z with z|z
   .subst z;exact .inr hD
   .exact .inl (.inr z),λa o eo no=>gx.keep a o eo λz=>no (.inl z)⟩
 refine⟨hy,?_⟩
 cases ed:ds.drop i with
 |nil=>
  rw[ed]at ec
  unfold Cb at ec
  split at ec
  .rename_i ok
   cases ec
   left
   obtain⟨ci,ti⟩:=Mi
   have ht':ti=A0::M1.tmp:=ht
   subst ht'
   obtain⟨c',st',rd',pr',sub'⟩:=st2.aC nt hy ry e
   refine⟨it.stop i H2 _ _ sp st2 ok (vI.mp ed),q _ _ ⟨c',M1.tmp⟩ (g1.trans ⟨st1.mo,gx.pre.trans pr',rfl,λa z=>?_,gx.keep,gx.some⟩) st' rd'⟩
   rcases sub' a z with z|z
   .exact gx.fresh a z
   .subst z;exact .inr hD
  .cases ec
 |cons d rest=>
  obtain⟨d1,d2,d3⟩:=QQ ed
  rw[ed]at ec
  unfold Cb at ec
  split at ec
  .rename_i ok
   split at ec
   .rename_i hz
    obtain⟨E3,e4,ec⟩:=BA ec
    obtain⟨⟨w5,S5⟩,e5,ec⟩:=BA ec
    right
    refine⟨it.go i H2 Mi Si sp st2 ok d3,by rw[ry.length];exact hz,λx H3 hyl=>?_⟩
    obtain⟨k3,rx⟩:=it.yld i H2 Mi Si x H3 d sp st2 ok d1 hyl
    have g3:Gr Mi H2 Mi H3:=.grow st2.mo k3
    have st3:=st2.grow k3
    refine⟨Mi,d,Ei,E3,Si,e4,r2.step g3.st,st3,rx,λσ4 r4=>?_⟩
    have hA:A0∈Mi.tmp:=by rw[ht];exact nT
    have hy3:H3 A0=Fk (.lst ys):=k3 _ _ hy
    have ry3:Ah K Mi H3 ys acc:=ry.step g3.st
    have fin:∀{E6:En} {S6:Sto} {M6:Ms} {H6:Hp} {zs:Gc V} {acc6:Gc D},Cb gs t c f rest acc6 E6 S6=Fk (accf,Sf)->GrX M1 H1 M6 H6->M6.tmp=A0::M1.tmp->EnR K M6 E6 σ4 H6->StR K M6 S6 H6->H6 A0=Fk (.lst zs)->Ah K M6 H6 zs acc6->
      ∃m',m'<ds.length-i/\(m'=ds.length-(i+1)/\∃Ei Si Mi acc,Cb gs t c f (ds.drop (i+1)) acc Ei Si=Fk (accf,Sf)/\GrX M1 H1 Mi H6/\Mi.tmp=A0::M1.tmp/\EnR K Mi Ei σ4 H6/\StR K Mi Si H6/\H6 A0=Fk (.lst zs)/\Ah K Mi H6 zs acc):=
     λ{E6 S6 M6 H6 zs acc6} ec g6 t6 r6 st6 h6 y6=>⟨_,by omega,rfl,E6,S6,M6,acc6,by rw[d2];exact ec,g6,t6,r6,st6,h6,y6⟩
    dsimp only at ec
    split at ec
    .obtain⟨⟨w7,S7⟩,e7,ec⟩:=BA ec
     refine⟨Mi,E3,Si,true,S5,e5,r4,st3,λH5 M5 g5 st5=>?_⟩
     refine ZC ?_
     refine⟨M5,E3,S5,w7,S7,e7,r4.step g5.st,st5,λy H7 M7 g7 st7 d7=>?_⟩
     have nA:∀{M6:Ms} {H6:Hp} {S6:Sto},StR K M6 S6 H6->A0∈M6.tmp->A0∉M6.cel:=λr6 h6=>r6.nt A0 h6
     have hA5:A0∈M5.tmp:=by rw[g5.tmp];exact hA
     have hA7:A0∈M7.tmp:=by rw[g7.tmp];exact hA5
     have hy5:H5 A0=Fk (.lst ys):=g5.keep _ _ hy3 (nA st3 hA)
     have hy7:H7 A0=Fk (.lst ys):=g7.keep _ _ hy5 (nA st5 hA5)
     have ry7:Ah K M7 H7 ys acc:=(ry3.step g5.st).step g7.st
     refine⟨hy7,?_⟩
     obtain⟨st8,s8⟩:=st7.aM (ys:=ys++[y]) hA7
     have gx7:GrX M1 H1 M7 H7:=((gx.trans g3.x).trans g5.x).trans g7.x
     have gx8:GrX M1 H1 M7 (upd H7 A0 (.lst (ys++[y]))):=⟨gx7.pre,gx7.fresh,λa o eo no=>by
      rw[Ab (λz=>by subst z;rw[hD]at eo;cases eo)]
      exact gx7.keep a o eo no,λa ea=>by
      by_cases h:a=A0
      .subst h;rw[BL];intro z;cases z
      .rw[Ab h];exact gx7.some a ea⟩
     exact fin ec gx8 (by rw[g7.tmp,g5.tmp];exact ht) (((r4.step g5.st).step g7.st).step s8) st8 BL ((ry7.append (.cons d7 .nil)).step s8)
    .refine⟨Mi,E3,Si,false,S5,e5,r4,st3,λH5 M5 g5 st5=>?_⟩
     refine ZG ?_
     exact fin ec ((gx.trans g3.x).trans g5.x) (by rw[g5.tmp];exact ht) (r4.step g5.st) st5 (g5.keep _ _ hy3 (st3.nt A0 hA)) (ry3.step g5.st)
    .cases ec
   .cases ec
  .cases ec
structure DTs(X:Cx)(ifs:Gc oA)(c:Ev):Prop where
 pe:PTs X ifs (tDT X.K c)
theorem YM{X:Cx}{e:Gc oA}{t t':TT}(h:PTs X e t)(m:∀σ H Q,t' σ H Q->t σ H Q):PTs X e t':=λpins s σ H Q I q=>h pins s σ H Q I (m _ _ _ q)
theorem C8{X:Cx}:DTs X [] De:=⟨YM bB λσ H Q z=>by
 obtain⟨M,E,S,b,S',e,r,st,q⟩:=z
 cases e
 exact q _ M (.refl st.mo) st⟩
theorem Jk{X:Cx}{c:oA}{f:Ev}(h:DT X c f):DTs X [c] f:=⟨Z1 h.pe⟩
section
variable{X:Cx}{N':Gc Str}{cf:oQ}{cap:Gc Nat}{m:Nat}{scope:pJ}{elt tg iter:oA}{ifs:Gc oA}{pos:Pos}{s:Sr}{t:Tf}{c f:Ev}
def Blk(X:Cx)(N':Gc Str)(scope:pJ)(tg:oA)(ifs:Gc oA)(elt:oA)(t:Tf)(c f:Ev):Prop:=
 ∀(s:nE) (H:Hp) (fp:Gc nI),DG (Iv X N' scope s H fp) tg t/\DTs (Iv X N' scope s H fp) ifs c/\DE (Iv X N' scope s H fp) elt f
theorem C3(cap:Gc Nat)(m:Nat)(N':Gc Str)(hc:X.calm=true)(S:Aa X.N X.env.scope N' (ixC cap m) scope)(hi:DI X tg iter s)(hb:Blk X N' scope tg ifs elt t c f)(hs:∀x,foldedSetIterable iter X.env x=pure x:=by intro _;rfl):DE X (.ListComp elt [⟨tg,iter,ifs,0⟩] scope pos) (OH cf cap m s t c f):=⟨
 Bz (bO (g:=tG X.K t) (tc:=tDT X.K c) (te:=tD X.K f) hc S hi.pe (λs H fp=>⟨(hb s H fp).1.pe,(hb s H fp).2.1.pe,(hb s H fp).2.2.pe⟩) hs) λ_ _ _ h=>VR h⟩
theorem El{i:Nat}{y:Str}{py spos:Pos}(cap:Gc Nat)(m:Nat)(N':Gc Str)(hc:X.calm=true)(hN:X.N.Nodup)(hi':X.N[i]?=Fk y)(hx:X.env.scope.names.lookup y=Fk .local)(S:Aa X.N X.env.scope N' (ixC cap m) scope)(hi:DI X tg iter s)(hb:Blk X N' scope tg ifs elt t c f)(hsw:swapsWith (.ListComp elt [⟨tg,iter,ifs,0⟩] scope pos) (Fk (.Name y py)) spos.line X.env=pure true:=by rfl)(hs:∀x,foldedSetIterable iter X.env x=pure x:=by intro _;rfl):DS X (.Assign [.Name y py] (.ListComp elt [⟨tg,iter,ifs,0⟩] scope pos) spos) (CA i (OH cf cap m s t c f)):=⟨
 Gw (TZ (g:=tG X.K t) (tc:=tDT X.K c) (te:=tD X.K f) hc hN hi' hx S hi.pe (λs H fp=>⟨(hb s H fp).1.pe,(hb s H fp).2.1.pe,(hb s H fp).2.2.pe⟩) hsw hs) λDn σ H z=>by
  obtain⟨M,E,S,fl,E',S',e,r,st,q⟩:=z
  obtain⟨⟨d,S1⟩,e1,e⟩:=Ky e
  cases e
  exact VR ⟨M,E,S,d,S1,e1,r,st,λv H1 M1 g1 st1 r1=>q _ _ M1 g1 ((r.step g1.st).put r1) st1⟩⟩
end
noncomputable def Mg{α:Type}(xs:Gc α)(lo hi:nG Int):Gc α:=(xs.drop (HT.sIx xs.length 0 lo)).take (HT.sIx xs.length xs.length hi-HT.sIx xs.length 0 lo)
theorem U5{K:KE}{M:Ms}{H:Hp}{xs:Gc V}{ds:Gc D}(h:Ah K M H xs ds)(lo hi:nG Int):Ah K M H (ZE xs lo hi) (Mg ds lo hi):=by
 unfold ZE Mg
 rw[h.length]
 exact(h.drop _).take _
theorem UO{α:Type}{xs:Gc α}{lo hi:nG Int}(h1:HT.sIx xs.length 0 lo=0)(h2:HT.sIx xs.length xs.length hi=xs.length):Mg xs lo hi=xs:=by
 unfold Mg
 rw[h1,h2]
 simp
noncomputable def wSl(lo hi:nG Int):Op1:=λw=>match w with
 | .val (.tup ds)=>Fk (.val (.tup (Mg ds lo hi)))
 | .val (.str z)=>if z.length<=sizeLine then Fk (.val (.str (yW z lo hi)))else nD
 |w=>(asL w).map λds=>.own (Mg ds lo hi)
def lB(K:KE):V->nG Int->nG Int->Hp->VK->Prop:=λx lo hi H Q=>∃M w r,wSl lo hi w=Fk r/\MOk M H/\Sh K M H x w/\∀v H',Nw K M H H' v r->Q v H'
theorem cK{X:Cx}:SlR X (λx lo hi H Q=>∃z,x=.str z/\z.length<=sizeLine/\Q (.str (yW z lo hi)) H):=by
 intro pins s σ H x v vl vu lo hi sl Q I rx hs pl pu h
 obtain⟨z,rfl,hz,q⟩:=h
 obtain⟨t,rfl⟩:=rx
 have fin:∀t' k,EP X pins σ Q (.str (yW z lo hi) t') {s with toks:=k}:=λt' k=>⟨.str _,H,I.tok k,⟨t',rfl⟩,q⟩
 cases pl with
 |none=>
  cases pu with
  |none=>exact⟨"str",_,qm.lookup,uh _ _ _,qq (l:=nD) (u:=nD) (st:=nD) hs rfl (sv ⟨nR (uj z _ _) hz,fin⟩)⟩
  |int j u=>exact⟨"str",_,qm.lookup,uh _ _ _,qq (l:=nD) (u:=Fk (j,u)) (st:=nD) hs rfl (sv ⟨nR (uj z _ _) hz,fin⟩)⟩
 |int i u'=>
  cases pu with
  |none=>exact⟨"str",_,qm.lookup,uh _ _ _,qq (l:=Fk (i,u')) (u:=nD) (st:=nD) hs rfl (sv ⟨nR (uj z _ _) hz,fin⟩)⟩
  |int j u=>exact⟨"str",_,qm.lookup,uh _ _ _,qq (l:=Fk (i,u')) (u:=Fk (j,u)) (st:=nD) hs rfl (sv ⟨nR (uj z _ _) hz,fin⟩)⟩
theorem je{X:Cx}:SlR X (lB X.K):=by
 intro pins s σ H x v vl vu lo hi sl Q I rx hs pl pu h
 obtain⟨M,w,r,e,mo,sh,q⟩:=h
 unfold wSl at e
 split at e
 .rename_i ds
  cases e
  cases sh with
  |tup hx rr=>
   rename_i a xs
   have hl:=rr.length
   by_cases hw:HT.sIx xs.length 0 lo=0/\HT.sIx xs.length xs.length hi=xs.length
   .refine St.cn pins s σ H _ v vl vu lo hi sl Q I rx hs pl pu ⟨a,xs,rfl,hx,hw.1,hw.2,?_⟩
    have ew:Mg ds lo hi=ds:=UO (by rw[<-hl];exact hw.1) (by rw[<-hl];exact hw.2)
    rw[ew]at q
    exact q _ _ (.same mo (.tup hx rr))
   .exact dz pins s σ H _ v vl vu lo hi sl Q I rx hs pl pu ⟨a,xs,rfl,hx,hw,λp hp=>q _ _ (.tup mo hp (U5 rr lo hi))⟩
 .split at e
  .cases e
   cases sh
   exact cK pins s σ H _ v vl vu lo hi sl Q I rx hs pl pu ⟨_,rfl,by assumption,q _ _ (.same mo (.str _))⟩
  .cases e
 .cases e1:asL w with
  |none=>rw[e1]at e;cases e
  |some ds=>
   rw[e1]at e
   cases e
   obtain⟨a,xs,rfl,h1,rr⟩:=sh.l e1
   exact aV pins s σ H _ v vl vu lo hi sl Q I rx hs pl pu ⟨a,xs,rfl,.of h1,λp hp=>q _ _ (.lst mo hp (U5 rr lo hi))⟩
noncomputable def bV:Wv->nG Int
 | .val (.int i)=>Fk i
 |_=>nD
noncomputable def NK(l h:oQ):OpN:=λws=>match l,h,ws with
 |false,false,[a]=>wSl nD nD a
 |true,false,[a,b]=>(bV b).bind λi=>wSl (Fk i) nD a
 |false,true,[a,b]=>(bV b).bind λi=>wSl nD (Fk i) a
 |true,true,[a,b,c]=>(bV b).bind λi=>(bV c).bind λj=>wSl (Fk i) (Fk j) a
 |_,_,_=>nD
theorem VW{K:KE}{M:Ms}{H:Hp}{v:V}{w:Wv}{i:Int}(s:Sh K M H v w)(e:bV w=Fk i):v=.int i:=by
 cases w with
 |own ds=>cases e
 |val d=>
  cases d<;>first|(cases e;done)|skip
  cases e;cases s;rfl
section
variable{X:Cx}{e lo hi:oA}{oe ol oh:Ev}{c:oQ}{pos p2:Pos}
theorem Ke(h:DE X e oe)(hl:DE X lo ol):DE X (.Subscript e (.Slice (Fk lo) nD nD p2) pos) (PU c (NK true false) [oe,ol]):=⟨Bz (O3 je h.pe (Ow hl.pe) Vc) λσ H Q z=>by
 obtain⟨M0,E,S0,w,S1,e,r,st,q⟩:=z
 have z:tD X.K oe σ H λx H1=>tD X.K ol σ H1 λy H2=>rN X.K (NK true false) [x,y] H2 Q:=N1 (Q:=Q) e r st q
 refine Jl z λx H1 z1=>Jl z1 λy H2 z2=>?_
 obtain⟨M,ws,w',e1,mo,sh,q1⟩:=z2
 cases sh with
 |cons h1 t=>
  cases t with
  |cons h2 t=>
   cases t
   obtain⟨i,ei,e1⟩:=BA e1
   exact⟨i,VW h2 ei,M,_,w',e1,mo,h1,q1⟩⟩
theorem MX(h:DE X e oe)(hh:DE X hi oh):DE X (.Subscript e (.Slice nD (Fk hi) nD p2) pos) (PU c (NK false true) [oe,oh]):=⟨Bz (O3 je h.pe Vc (Ow hh.pe)) λσ H Q z=>by
 obtain⟨M0,E,S0,w,S1,e,r,st,q⟩:=z
 have z:tD X.K oe σ H λx H1=>tD X.K oh σ H1 λy H2=>rN X.K (NK false true) [x,y] H2 Q:=N1 (Q:=Q) e r st q
 refine Jl z λx H1 z1=>Jl z1 λy H2 z2=>?_
 obtain⟨M,ws,w',e1,mo,sh,q1⟩:=z2
 cases sh with
 |cons h1 t=>
  cases t with
  |cons h2 t=>
   cases t
   obtain⟨i,ei,e1⟩:=BA e1
   exact⟨i,VW h2 ei,M,_,w',e1,mo,h1,q1⟩⟩
theorem VH{K:KE}{M:Ms}{H:Hp}{S:Sto}{v:V}{d:D}{i:Int}(r:Dy K M H v d)(e:bV (dr S d)=Fk i):v=.int i:=by
 cases r<;>first|(cases e;done)|skip
 .cases e;rfl
 .rename_i n h
  unfold dr at e
  dsimp only at e
  split at e<;>cases e
theorem aF(h:DE X e oe)(hl:DE X lo ol)(hh:DE X hi oh):DE X (.Subscript e (.Slice (Fk lo) (Fk hi) nD p2) pos) (PU c (NK true true) [oe,ol,oh]):=⟨Bz (O3 je h.pe (Ow hl.pe) (Ow hh.pe)) λσ H Q z=>by
 obtain⟨M0,E,S0,w,S1,e,r,st,q⟩:=z
 obtain⟨⟨ds,S2⟩,e1,e⟩:=BA e
 obtain⟨w2,e2,e⟩:=BA e
 obtain⟨⟨d1,Sa⟩,ea,e1⟩:=BA e1
 obtain⟨⟨ds1,Sb⟩,eb,e1⟩:=Ky e1
 cases e1
 obtain⟨⟨d2,Sc⟩,ec,eb⟩:=BA eb
 obtain⟨⟨ds2,Sd⟩,ed,eb⟩:=Ky eb
 cases eb
 obtain⟨⟨d3,Se⟩,ee,ed⟩:=BA ed
 obtain⟨⟨ds3,Sf⟩,ef,ed⟩:=Ky ed
 cases ed
 cases ef
 obtain⟨i,ei,e2⟩:=BA e2
 obtain⟨j,ej,e2⟩:=BA e2
 refine⟨M0,E,S0,d1,Sa,ea,r,st,λx H1 M1 g1 st1 r1=>?_⟩
 refine⟨M1,E,Sa,d2,Sc,ec,r.step g1.st,st1,λy H2 M2 g2 st2 r2=>⟨i,?_,?_⟩⟩
 .exact VH r2 ei
 refine⟨M2,E,Sc,d3,Se,ee,(r.step g1.st).step g2.st,st2,λu H3 M3 g3 st3 r3=>⟨j,?_,?_⟩⟩
 .exact VH r3 ej
 refine⟨M3,_,w2,e2,st3.mo,bD st3 ((r1.step g2.st).step g3.st),λv H4 n=>?_⟩
 obtain⟨M4,g4,st4,d4⟩:=n.fin st3 e
 exact q v H4 M4 (((g1.trans g2).trans g3).trans g4) st4 d4⟩
structure Tj(K:KE)(mg:Str->nG Wp)(x:Str)(d:D):Prop where
 ex:∃v u,mg x=Fk u/\RelV v u/\∀M H,Dy K M H v d
theorem PH{x:Str}{d:D}(c:Tj X.K X.mg x d)(hg:Gl X x)(hd:(x==("__debug__":Str))=false:=by decide):DE X (.Name x pos) (eC d):=⟨by
 obtain⟨v,u,h1,h2,h3⟩:=c.ex
 exact Bz (aU hg h1 h2 hd) λσ H Q z=>by
  obtain⟨M0,E,S0,w,S1,e,rr,st,q⟩:=z
  cases e
  exact q _ _ M0 (.refl st.mo) st (h3 _ _)⟩
theorem Xh{x:Str}{T:qo}(hg:Gl X x)(hm:X.mg x=nD)(hv:bootBuiltins x=Fk (.type T))(hn:x≠ "__name__":=by decide)(hd:(x==("__debug__":Str))=false:=by decide):DE X (.Name x pos) (eC (.ty T)):=
 QK (Z8 (v:=.ty T) hg hm hv rfl hn hd) λ_ _ _=>.ty T
structure m8(K:KE)(w:oM)(mg:Str->nG Wp)(x:Str)(tbl:Gc (Str×D)):Prop where
 ex:∃a kvs,mg x=Fk (.ref a)/\TopD K w a kvs/\∀k,(tbl.lookup k=nD->kvs.lookup k=nD)/\∀d,tbl.lookup k=Fk d->∃v,kvs.lookup k=Fk v/\∀M H,Dy K M H v d
end
noncomputable def Qh:Nat->Gc D->Gc D
 |_,[]=>[]
 |k,d::ds=>.tup [.int k,d]::Qh (k+1) ds
theorem Ll:∀{ds:Gc D} {k i:Nat},(Qh k ds)[i]?=(ds[i]?).map λd=>.tup [.int ((k+i:Nat):Int),d]
 | [],k,i=>by simp[Qh]
 |d::ds,k,0=>by simp[Qh]
 |d::ds,k,i+1=>by
  simp only[Qh,List.getElem?_cons_succ]
  rw[Ll,show k+1+i=k+(i+1) by lia]
theorem OK:∀{ds:Gc D} {k:Nat},(Qh k ds).length=ds.length
 | [],k=>rfl
 |d::ds,k=>by simp[Qh,OK (ds:=ds)]
theorem SqF.sqB{K:KE}{M:Ms}{H:Hp}{gs:Gd}{k:oQ}{a:nI}{ds:Gc D}(h:SqF K M H gs k a ds){H2:Hp}{M2:Ms}{S2:Sto}(g:Sp1 M H M2 H2)(st:StR K M2 S2 H2)(ok:gOk gs S2):∃xs,SqB K H2 k a xs/\Ah K M2 H2 xs ds:=by
 obtain⟨xs,h1,h2⟩:=h.keep H2 M2 S2 g st ok
 refine⟨xs,?_,h2⟩
 cases k with
 |true=>exact h1
 |false=>exact h1
theorem dJ{K:KE}{M:Ms}{H:Hp}{gs:Gd}{k:oQ}{a:nI}{ds:Gc D}(h:SqF K M H gs k a ds):bq K M H gs (Qh 0 ds) (ItE K k a) where
 go:=λi H2 M2 S2 g st ok hi=>by
  rw[OK]at hi
  obtain⟨xs,h1,h2⟩:=h.sqB g st ok
  obtain⟨x,hx⟩:=h2.get' hi
  exact⟨xs,x,h1,hx⟩
 stop:=λi H2 M2 S2 g st ok hi=>by
  rw[OK]at hi
  obtain⟨xs,h1,h2⟩:=h.sqB g st ok
  exact⟨xs,h1,by have:=h2.length;lia⟩
 yld:=λi H2 M2 S2 x H3 d g st ok hd hy=>by
  obtain⟨xs,h1,h2⟩:=h.sqB g st ok
  obtain⟨p,y,hp,rfl,hy,rfl⟩:=hy
  have hx:=hy xs h1
  rw[Ll]at hd
  obtain⟨d0,e,hd⟩:=Ky hd
  subst hd
  obtain⟨x',h3,h4⟩:=h2.get e
  rw[hx]at h3;cases h3
  have k3:=Hs (o:=.tup [.int i,y]) hp
  refine⟨k3,.tup (.of BL) (.cons ?_ (.cons (h4.step (Gr.grow st.mo k3).st) .nil))⟩
  rw[wI]
  exact .int _
noncomputable def bW(f:Ev):Sr:=λE S=>(f E S).bind λr=>(sqD r.2 r.1).map λp=>((Qh 0 p.1,p.2),r.2)
theorem UU{X:Cx}{a:oA}{f:Ev}{p pos tp:Pos}{elts:Gc oA}{k:Nat}(hg:Gl X "enumerate")(hm:X.mg "enumerate"=nD)(ha:DE X a f)(hs:nk [a] X.env=[(false,eval a X.env)]:=by rfl):DI X (.Tuple elts k tp) (.Call (.Name "enumerate" p) [a] [] pos) (bW f):=⟨
 O9 (YV hg hm (O1 ha.pe U8 (by rw[hs];rfl)) hs) λσ H R z=>by
  obtain⟨M,E,S,ds,gs,S',e,r,st,q⟩:=z
  obtain⟨⟨d,S1⟩,e1,e⟩:=BA e
  obtain⟨⟨ds',gs'⟩,e2,e⟩:=Ky e
  cases e
  refine⟨M,E,S,d,S1,e1,r,st,λv H1 M1 g1 st1 r1=>?_⟩
  obtain⟨k,a,rfl,sq⟩:=RX st1 r1 e2
  obtain⟨xs,hs,_⟩:=sq.sqB (Gr.refl st1.mo).st st1 (Ox e2)
  exact⟨k,a,rfl,⟨xs,hs⟩,q _ _ M1 g1 st1 (dJ sq)⟩⟩
noncomputable def NF(ds es:Gc D):Gc D:=(ds.zip es).map λp=>.tup [p.1,p.2]
theorem Wn{ds es:Gc D}{i:Nat}{d:D}(h:(NF ds es)[i]?=Fk d):∃x y,ds[i]?=Fk x/\es[i]?=Fk y/\d=.tup [x,y]:=by
 unfold NF at h
 simp only[nY,Option.map_eq_some_iff]at h
 obtain⟨⟨x,y⟩,h1,h2⟩:=h
 rw[rM]at h1
 exact⟨x,y,h1.1,h1.2,h2.symm⟩
theorem Lo{ds es:Gc D}:(NF ds es).length=min ds.length es.length:=by simp[NF]
theorem SqF.more{K:KE}{M:Ms}{H:Hp}{gs gs':Gd}{k:oQ}{a:nI}{ds:Gc D}(h:SqF K M H gs k a ds)(s:∀g∈gs,g∈gs'):SqF K M H gs' k a ds:=⟨λH2 M2 S2 g st ok=>h.keep H2 M2 S2 g st λx hx=>ok x (s x hx)⟩
theorem cT{K:KE}{M:Ms}{H:Hp}{gs:Gd}{k m:oQ}{a b:nI}{ds es:Gc D}(h:SqF K M H gs k a ds)(h':SqF K M H gs m b es):bq K M H gs (NF ds es) (Itz K k a m b) where
 go:=λi H2 M2 S2 g st ok hi=>by
  rw[Lo]at hi
  obtain⟨xs,h1,r⟩:=h.sqB g st ok
  obtain⟨ys,h2,r'⟩:=h'.sqB g st ok
  obtain⟨x,hx⟩:=r.get' (show i<ds.length by lia)
  obtain⟨y,hy⟩:=r'.get' (show i<es.length by lia)
  exact⟨xs,ys,x,y,h1,h2,hx,hy⟩
 stop:=λi H2 M2 S2 g st ok hi=>by
  rw[Lo]at hi
  obtain⟨xs,h1,r⟩:=h.sqB g st ok
  obtain⟨ys,h2,r'⟩:=h'.sqB g st ok
  have:=r.length
  have:=r'.length
  exact⟨xs,ys,h1,h2,by lia⟩
 yld:=λi H2 M2 S2 x H3 d g st ok hd hy=>by
  obtain⟨xs,h1,r⟩:=h.sqB g st ok
  obtain⟨ys,h2,r'⟩:=h'.sqB g st ok
  obtain⟨p,x1,y1,hp,rfl,q1,q2,rfl⟩:=hy
  obtain⟨d1,d2,e1,e2,rfl⟩:=Wn hd
  have hx:=q1 xs h1
  have hy:=q2 ys h2
  obtain⟨x',h3,h4⟩:=r.get e1
  obtain⟨y',h5,h6⟩:=r'.get e2
  rw[hx]at h3;cases h3
  rw[hy]at h5;cases h5
  have k3:=Hs (o:=.tup [x1,y1]) hp
  exact⟨k3,.tup (.of BL) (.cons (h4.step (Gr.grow st.mo k3).st) (.cons (h6.step (Gr.grow st.mo k3).st) .nil))⟩
noncomputable def XY(f g:Ev):Sr:=λE S=>(evs [f,g] E S).bind λr=>match r.1 with
 | [d,e]=>(sqD r.2 d).bind λp=>(sqD r.2 e).map λq=>((NF p.1 q.1,p.2++q.2),r.2)
 |_=>nD
theorem Nt{X:Cx}{a b:oA}{f g:Ev}{p pos tp:Pos}{elts:Gc oA}{k:Nat}(hg:Gl X "zip")(hm:X.mg "zip"=nD)(ha:DE X a f)(hb:DE X b g)(hs:nk [a,b] X.env=[(false,eval a X.env),(false,eval b X.env)]:=by rfl)(hs2:nk [b] X.env=[(false,eval b X.env)]:=by rfl):DI X (.Tuple elts k tp) (.Call (.Name "zip" p) [a,b] [] pos) (XY f g):=⟨
 O9 (dF hg hm (AA ha (AA hb AD hs2) (by rw[hs,hs2])).pe hs hs2) λσ H R z=>by
  obtain⟨M,E,S,ds,gs,S',e,r,st,q⟩:=z
  obtain⟨⟨ws,S1⟩,e1,e⟩:=BA e
  refine ID (fs:=[f,g]) e1 r st λvs H1 M1 g1 st1 r1=>?_
  dsimp only at e
  split at e
  .obtain⟨⟨ds1,gs1⟩,eu,e⟩:=BA e
   obtain⟨⟨ds2,gs2⟩,ee,e⟩:=Ky e
   cases e
   cases r1 with
   |cons h1 t=>
    cases t with
    |cons h2 t=>
     cases t
     obtain⟨k1,a1,rfl,s1⟩:=RX st1 h1 eu
     obtain⟨k2,a2,rfl,s2⟩:=RX st1 h2 ee
     obtain⟨xs,hxs,_⟩:=s1.sqB (Gr.refl st1.mo).st st1 (Ox eu)
     obtain⟨ys,hys,_⟩:=s2.sqB (Gr.refl st1.mo).st st1 (Ox ee)
     exact⟨_,_,_,_,rfl,⟨_,hxs⟩,⟨_,hys⟩,q _ _ M1 g1 st1 (cT (s1.more λx hx=>sf _ hx) (s2.more λx hx=>oW _ hx))⟩
  .cases e⟩
noncomputable def intD:D->nG Int
 | .int i=>Fk i
 |_=>nD
noncomputable def Lc(ds:Gc D):nG (Gc Int):=ds.mapM intD
theorem Mp{K:KE}{M:Ms}{H:Hp}:∀{vs:Gc V} {ds:Gc D} {ns:Gc Int},Ah K M H vs ds->Lc ds=Fk ns->vs=ns.map V.int
 |_,_,ns,.nil,e=>by cases e;rfl
 |_,_,ns,.cons (d:=d) (ds:=ds) h t,e=>by
  unfold Lc at e
  rw[xh]at e
  cases e1:intD d with
  |none=>rw[e1]at e;cases e
  |some b=>
   rw[e1]at e
   cases e2:ds.mapM intD with
   |none=>rw[e2]at e;cases e
   |some cs=>
    rw[e2]at e
    cases e
    have hd:d=.int b:=by
     cases d<;>first|(cases e1;done)|skip
     cases e1;rfl
    subst hd
    cases h
    rw[oG,<-Mp t e2]
theorem UI{X:Cx}(hc:X.calm=true):Ga X (.builtin "sum") (λxs H Q=>∃(p:nI) (ns:Gc Int),xs=[.ref p]/\SqL X.K H p (ns.map V.int)/\Q (.int ns.sum) H):=by
 intro pins s σ H xs us Q I r h
 obtain⟨p,ns,rfl,hp,q⟩:=h
 obtain⟨u,rfl,ru⟩:=r.one
 cases (show u=pL p from ru)
 obtain⟨its,rv,pl,hz⟩:=I.list hp
 have hd:X.A.in1.handled=none:=I.ok.hd hc
 refine call_sum_walkG (qO pl.isList ?_)
 have hlen:ns.length=its.length:=by have:=rv.length;simpa using this
 have hpl:=pl.isList
 have hlt:p<s.heap.objs.size:=by
  obtain⟨o,ho,_⟩:=hpl
  exact nj ho
 refine⟨s.heap.objs.size,_,_,its.length,_,_,λi=>ns.getD i 0,rfl,St.Sw (vs:=its) hd (oH hlt),⟨⟨_,nq _ rfl,rfl,rfl⟩,?_⟩,?_,?_,?_⟩
 .obtain⟨o,ho,r⟩:=hpl
  exact⟨o,W1 _ ho,r⟩
 .intro b hb
  rw[pR]
  simp at hb
  rcases hb with h|h
  .rw[h];exact Nat.lt_succ_self _
  .rw[h];exact Nat.lt_succ_of_lt hlt
 .intro i v hv
  have hi:i<its.length:=(nP.mp hv).1
  have hb:(ns.map V.int)[i]?=Fk (.int (ns.getD i 0)):=by
   rw[nY,nM (by lia)]
   simp[nW,nM (show i<ns.length by lia)]
  obtain⟨u,hu,ru⟩:=rv.get hb
  rw[hv]at hu
  cases hu
  exact ru
 .intro h' tk t' hk
  have e:preSum (λi=>ns.getD i 0) its.length=ns.sum:=by
   rw[<-hlen,St.NH (nS _),sG (nS _)]
  rw[e]
  exact⟨.int _,H,I.kept (t':=tk) λb o eb=>hk b o (by simp;exact oH (nj eb)) (W1 _ eb),⟨_,rfl⟩,q⟩
noncomputable def Wa:Op1:=λw=>(asL w).bind λds=>(Lc ds).map λns=>.val (.int ns.sum)
theorem J2{X:Cx}(hc:X.calm=true):Ga X (.builtin "sum") (rN X.K (o1 Wa)):=by
 intro pins s σ H xs us Q I r h
 obtain⟨M,ws,w,e,mo,sh,q⟩:=h
 obtain⟨v,w1,rfl,rfl,s1,e1⟩:=Kz sh e
 obtain⟨ds,e2,e1⟩:=BA e1
 obtain⟨ns,e3,e1⟩:=Ky e1
 cases e1
 obtain⟨a,ys,rfl,h3,h4⟩:=s1.l e2
 exact UI hc pins s σ H _ us Q I r ⟨a,ns,rfl,by rw[<-Mp h4 e3];exact .of h3,q _ _ (.same mo (.int _))⟩
noncomputable def NX(ns:Gc Int):Gc Int:=ns.mergeSort (λa b=>decide (a<=b))
theorem OG(ns:Gc Int):(NX ns).Perm ns:=List.mergeSort_perm _ _
theorem Td(ns:Gc Int):(NX ns).Pairwise (· <= ·):=by
 have:=List.pairwise_mergeSort (le:=λ(a b:Int)=>decide (a<=b)) (λa b c h1 h2=>by simp at *; lia) (λa b=>by simp;lia) ns
 unfold NX
 exact this.imp λh=>nV h
theorem TN{ns ms:Gc Int}(p:ms.Perm ns)(s:ms.Pairwise (· <= ·)):ms=NX ns:=PySem.W.ksm_same (p.trans (OG ns).symm) s (Td ns)
theorem intsAre_of:∀{ns:Gc Int} {its:Gc Wp},Vals (ns.map V.int) its->rS its ns
 | [],_,.nil=>.nil
 |n::ns,_,.cons h t=>by
  obtain⟨tk,rfl⟩:=h
  exact .cons n tk (intsAre_of t)
theorem LU:∀{ns:Gc Int} {its:Gc Wp},rS its ns->Vals (ns.map V.int) its
 |_,_,.nil=>.nil
 |_,_,.cons n tk t=>.cons ⟨tk,rfl⟩ (LU t)
theorem P2{X:Cx}:Ga X (.builtin "sorted") (λxs H Q=>∃(p:nI) (ns:Gc Int),xs=[.ref p]/\SqL X.K H p (ns.map V.int)/\ns.length<64/\∀q,H q=nD->Q (.ref q) (upd H q (.lst ((NX ns).map V.int)))):=by
 intro pins s σ H xs us Q I r h
 obtain⟨p,ns,rfl,hp,h64,q⟩:=h
 obtain⟨u,rfl,ru⟩:=r.one
 cases (show u=pL p from ru)
 obtain⟨its,rv,pl,hz⟩:=I.list hp
 have hlen:ns.length=its.length:=by have:=rv.length;simpa using this
 refine yJ pl.isList (intsAre_of rv) (by lia) λout ns' a1 a2 a3=>?_
 obtain⟨e,he⟩:=xv s.heap its out
 have hn:H (s.heap.objs.size+1)=none:=I.hok.fresh (xB _)
 have hs:=TN a2 a3
 subst hs
 refine⟨.ref _,_,I.laid (a:=s.heap.objs.size+1) (o:=.lst ((NX ns).map V.int)) (t':=s.toks) (λ_ _=>xi) (xB _) ?_,rfl,q _ hn⟩
 refine⟨?_,out.toList,e,LU a1,?_⟩
 .rw[oa,(OG ns).length_eq]
  have:(64:Nat)<=sizeLine:=by decide
  lia
 .rw[Array.toArray_toList];exact he
noncomputable def PD:Op1:=λw=>(asL w).bind λds=>(Lc ds).bind λns=>if ns.length<64 then Fk (.own ((NX ns).map D.int))else nD
theorem QI{X:Cx}:Ga X (.builtin "sorted") (rN X.K (o1 PD)):=by
 intro pins s σ H xs us Q I r h
 obtain⟨M,ws,w,e,mo,sh,q⟩:=h
 obtain⟨v,w1,rfl,rfl,s1,e1⟩:=Kz sh e
 obtain⟨ds,e2,e1⟩:=BA e1
 obtain⟨ns,e3,e1⟩:=BA e1
 split at e1
 .cases e1
  obtain⟨a,ys,rfl,h3,h4⟩:=s1.l e2
  exact P2 pins s σ H _ us Q I r ⟨a,ns,rfl,by rw[<-Mp h4 e3];exact .of h3,by assumption,λp hp=>q _ _ (.lst mo hp Lm)⟩
 .cases e1
theorem Oz(l:nI)(items:pE Wp)(n:Nat)(b:nI)(items2:pE Wp)(n2:Nat)(dd:nG nI)(sl:pE (nG Wp))(hs0:¬(!items.isEmpty && pY (items.size+items2.size))=true)(hs1:items.size<=sizeLine)(hs2:items.size+items2.size<=sizeLine+1):Meets (tK.«list.extend» ⟨[.ref l,.ref b],[]⟩) (λ_ R s=>s.heap.get? l=Fk {cls:=.type "list",dict:=nD,data:=.seq items n,slots:= #[]}/\s.heap.get? b=Fk {cls:=.type "tuple",dict:=dd,data:=.seq items2 n2,slots:=sl}/\R (.ok (.ret pN)) {s with heap:=s.heap.update l (tW λx=>x++items2),toks:=s.toks}):=
 .of_wp λprog w A R s h=>by
  obtain⟨hp,g,d,tk,os⟩:=s;obtain⟨hl,hb,h⟩:=h;have f1:=AutoSeq1.idx_int;have f2:=yK;have f3:=y3;have f4:=yZ;have f5:=ya
  have hz':(items++items2).size<=sizeLine+1:=by rw[Array.size_append];exact hs2
  wp_walk using(wpAny_updateSeq hl rfl (hz:=hs1) (_hz':=hz')),ny hl,ny hb;exact⟨_,rfl,h⟩
def Xy(K:KE):V->Gc V->Hp->VK->Prop:=λx vs H Q=>∃l b xs zs,x=.ref l/\vs=[.ref b]/\H l=Fk (.lst xs)/\SqT K H b zs/\xs.length+zs.length<=sizeLine/\Q .non (upd H l (.lst (xs++zs)))
theorem TJ{X:Cx}:MtM X "list.extend" (Xy X.K):=by
 intro pins s σ H x vs v us Q I rx rv h
 obtain⟨l,b,xs,zs,rfl,rfl,hH,hB,hz,q⟩:=h
 cases rx
 obtain⟨u,rfl,ru⟩:=rv.one
 cases ru
 obtain⟨z,its,n,r,hl,e⟩:=I.Yh hH
 obtain⟨its2,r2,⟨⟨c,dd,dt,sl⟩,e2,hc,n2,hd⟩,z2⟩:=I.tuple hB
 simp only at hc hd
 subst hc hd
 have hl2:=r2.length
 have hsz:its.toArray.size+its2.toArray.size<=sizeLine:=by rw[nX,nX];lia
 have hlong:¬(!its.toArray.isEmpty && pY (its.toArray.size+its2.toArray.size))=true:=by
  rw[Ov hsz,xS]
  exact oX
 refine sV sg ⟨_,e,rfl⟩ vT (vC _ _)
  (Oz l its.toArray n b its2.toArray n2 dd sl hlong (by rw[nX];lia) (by lia)) ⟨e,e2,?_⟩
 refine⟨.non,_,I.iV (its':=its++its2) hH e (by simp) (r.append r2) ?_,rfl,q⟩
 rw[pI]
 lia
noncomputable def gE:Mo
 |S,ds,[x]=>match dr S x with
  | .val (.tup zs)=>if ds.length+zs.length<=sizeLine then Fk (.non,ds++zs)else nD
  |w=>(asL w).bind λzs=>if ds.length+zs.length<=sizeLine then Fk (.non,ds++zs)else nD
 |_,_,_=>nD
theorem Z6{X:Cx}:MtR X "list.extend" (fE X.K gE):=by
 intro pins s σ H x vs v us Q I rx rv h
 obtain⟨M,S,n,a,ds,args,d,ds',rfl,hc,hn,e,st,ra,q⟩:=h
 unfold gE at e
 split at e
 .obtain⟨xs,h1,h2⟩:=st.cell n a _ hc hn
  obtain⟨y,rfl,ry⟩:=Rr ra
  have sy:=bD st ry
  split at e
  .rename_i ed
   rw[ed]at sy
   split at e
   .rename_i hz
    cases e
    cases sy with
    |tup hx rr=>
     obtain⟨st2,g2⟩:=st.chg hc hn (h2.append rr)
     exact TJ pins s σ H _ _ v us Q I rx rv ⟨a,_,xs,_,rfl,rfl,h1,hx,by rw[h2.length,rr.length];exact hz,q _ _ st2 g2 .non⟩
   .cases e
  .obtain⟨zs,e1,e⟩:=BA e
   split at e
   .rename_i hz
    cases e
    obtain⟨b,ys,rfl,h3,h4⟩:=sy.l e1
    obtain⟨st2,g2⟩:=st.chg hc hn (h2.append h4)
    exact Tq pins s σ H _ _ v us Q I rx rv ⟨a,b,xs,ys,rfl,rfl,h1,h3,by rw[h2.length,h4.length];exact hz,q _ _ st2 g2 .non⟩
   .cases e
 .cases e
theorem WO{X:Cx}:OpR X (binaryOp .Mult) (λx y H Q=>∃a xs k,x=.ref a/\y=.int k/\SqT X.K H a xs/\xs≠[]/\k<=0/\ -(2^63)<=k/\∀p,H p=nD->Q (.ref p) (upd H p (.tup []))):=by
 intro pins s σ H x y v u Q I rx ry h
 obtain⟨a,xs,k,rfl,rfl,hx,hne,hk,hk2,q2⟩:=h
 cases rx
 obtain⟨t,rfl⟩:=ry
 obtain⟨its,r,⟨⟨c,dd,data,sl⟩,ho,hc,n,hd⟩,hzz⟩:=I.tuple hx
 simp only at hc hd
 subst hc hd
 have hl:=r.length
 have hpos:0<xs.length:=vV.mpr hne
 refine rL (T:="tuple") (U:="int") (by decide) ⟨_,ho,rfl⟩ (λs'=>sU s' k t) IH ur q8 K5 uU.lookup
  (sV q8 (sU s k t) uV (uC _ _) (JW k t a its.toArray n dd sl) ⟨ho,rfl,⟨_,ho,rfl⟩,?_⟩)
 refine qF sW ⟨_,ho,rfl⟩ wH ?_ (vj _ _)
 unfold tK.«tuple.__mul__»
 wp_walk using ny ho
 rw[oU (show¬(decide (k< -2^63)||decide (k≥2^63))=true by
  rw[pA]
  rintro (z|z)
  .have:=nV z;lia
  .have:=nV z;lia)]
 wp_walk using ny ho
 have hemp:its.toArray.isEmpty=false:=by
  cases its with
  |nil=>rw[rX]at hl;lia
  |cons b bs=>rfl
 rw[oU (show¬(its.toArray.isEmpty||k==1)=true by
  rw[hemp,Bool.false_or]
  intro z
  have:=eq_of_beq z
  lia)]
 wp_walk using ny ho
 all_goals first
  |exact⟨_,rfl,.ref _,_,I.laid (o:=.tup []) (t':=s.toks) (λb ob q=>W1 _ q) (nS _) ⟨qv _,[],.nil,rO _ _⟩,rfl,q2 _ (I.hok.fresh (nS _))⟩
  |(exfalso
    rename_i hh
    exact hh (by rw[pA];exact .inl (qW hk)))
noncomputable def CY:Op2:=λa b=>match a,b with
 | .val (.tup xs),.val (.int k)=>if(!xs.isEmpty && decide (k<=0) && decide (-(2^63)<=k))=true then Fk (.val (.tup []))else gT (.val (.tup xs)) (.val (.int k))
 |a,b=>gT a b
theorem An{X:Cx}:OpR X (binaryOp .Mult) (rOp X.K CY):=by
 intro pins s σ H x y v u Q I rx ry h
 obtain⟨M,w1,w2,r,e,mo,s1,s2,q⟩:=h
 unfold CY at e
 split at e
 .split at e
  .rename_i xs k hk
   rw[nU,nU]at hk
   cases e
   cases s2
   cases s1 with
   | @tup a ys _ h1 r1=>
     have hne:ys≠[]:=λzz=>by
      subst zz
      cases r1
      exact absurd hk.1.1 (by decide)
     exact WO pins s σ H _ _ v u Q I rx ry ⟨a,ys,k,rfl,rfl,h1,hne,nV hk.1.2,nV hk.2,λp hp=>q _ _ (.tup mo hp .nil)⟩
  .exact Ud pins s σ H x y v u Q I rx ry ⟨M,_,_,r,e,mo,s1,s2,q⟩
 .exact Ud pins s σ H x y v u Q I rx ry ⟨M,_,_,r,e,mo,s1,s2,q⟩
theorem MJ{A:oN}{k:Nat}(hr:Gz k A):A.units+100<cLine:=by have:=hr.un;lia
section
variable{P:nv}{w:oM}{K:KE}{mg:Str->nG Wp}{base:oE}
theorem XA{x:Str}{st:oK}{k np:Nat}{ps:Gc Str}(S:St.Src K mg x st)(hbi:∀f fd,Fun K x x st f fd->Binds K fd ps []):St.Dfn P w K mg base x k ps (spD K np λ_ _=>nD):=by
 obtain⟨f,fd,Fu,hm⟩:=S.ex
 refine⟨f,fd,hm,Fu.kp,hbi f fd Fu,⟨λvs H Q E h=>?_,λA outer s H args us vs Q E hr h0 hb hv h=>?_⟩⟩
 .obtain⟨_,_,_,_,_,_,e,_⟩:=h;cases e
 .obtain⟨_,_,_,_,_,_,e,_⟩:=h;cases e
end
noncomputable def scE:Nat->oA->Gc pJ
 |0,_=>[]
 |n+1,.ListComp e gs s _=>s::(gs.flatMap λg=>scE n g.iter)++scE n e++(gs.flatMap λg=>g.ifs.flatMap (scE n))
 |n+1,.BoolOp _ vs _=>vs.flatMap (scE n)
 |n+1,.Call f as _ _=>scE n f++as.flatMap (scE n)
 |n+1,.BinOp a _ b _=>scE n a++scE n b
 |n+1,.UnaryOp _ a _=>scE n a
 |n+1,.Compare a _ cs _=>scE n a++cs.flatMap (scE n)
 |n+1,.Subscript a b _=>scE n a++scE n b
 |n+1,.Tuple es _ _=>es.flatMap (scE n)
 |n+1,.List es _=>es.flatMap (scE n)
 |n+1,.IfExp c a b _=>scE n c++scE n a++scE n b
 |n+1,.Dict _ vs _=>vs.flatMap (scE n)
 |n+1,.Slice a b c _=>(a.toList++b.toList++c.toList).flatMap (scE n)
 |n+1,.Attribute v _ _=>scE n v
 |_,_=>[]
noncomputable def scS:Nat->oK->Gc pJ
 |0,_=>[]
 |n+1,.Return (Fk e) _=>scE 30 e
 |n+1,.Assign ts e _=>ts.flatMap (scE 30)++scE 30 e
 |n+1,.AugAssign t _ e _=>scE 30 t++scE 30 e
 |n+1,.Expr e _=>scE 30 e
 |n+1,.If t a b _=>scE 30 t++a.flatMap (scS n)++b.flatMap (scS n)
 |n+1,.For _ it a b _=>scE 30 it++a.flatMap (scS n)++b.flatMap (scS n)
 |n+1,.While t a b _=>scE 30 t++a.flatMap (scS n)++b.flatMap (scS n)
 |_,_=>[]
noncomputable def LY(st:oK)(k:Nat):pJ:=((DK st).flatMap (scS 20)).getD k (AG st)
structure m9(P:nv)(w:oM)(K:KE)(mg:Str->nG Wp)(base:oE)(x:Str)(k np:Nat)(tbl:Gc (Str×Fn)):Prop where
 ex:∃a kvs,mg x=Fk (.ref a)/\TopD K w a kvs/\∀p G,tbl.lookup p=Fk G->∃f fd ps,kvs.lookup p=Fk (.ref f)/\Rq P w K mg base CX0 k f fd ps (spD K np G)/\qM K (.ref f)=true/\Binds K fd ps []
section
variable{P:nv}{w:oM}{K:KE}{mg:Str->nG Wp}{base h:oE}
theorem dY{x:Str}{st:oK}{f:nI}{oc:Wp}{od an:nG nI}{osl:pE (nG Wp)}{kV doc pm cdv ct:Wp}(X:K.In h)(G:h.Ns mainGlobals mg)(a:qC K mainGlobals x=Fk (Fk (.ref f)))(l:K.lookup f=Fk ⟨oc,od,.func (rH x x (NA st) (DK st) (AG st) .none kV doc pm an cdv ct),osl⟩)(c:tS K cdv x=true)(k:qM K (.ref f)=true):St.Src K mg x st:=
 ⟨f,_,da l c k,rT X G a⟩
def IsD(K:KE)(u:Wp)(d:D):Prop:=∃v,RelV v u/\∀M H,Dy K M H v d
theorem PN{i:Int}{t:Tok}:IsD K (.int i t) (.int i):=⟨.int i,⟨t,rfl⟩,λ_ _=>.int i⟩
theorem OM{x:Str}{t:Tok}:IsD K (.str x t) (.str x):=⟨.str x,⟨t,rfl⟩,λ_ _=>.str x⟩
theorem SQ:∀{us:Gc Wp} {ds:Gc D},Paired (λd u=>IsD K u d) ds us->∃xs,Vals xs us/\∀M H,Ah K M H xs ds
 |_,_,.nil=>⟨[],.nil,λ_ _=>.nil⟩
 |_,_,.cons h t=>by
  obtain⟨v,h1,h2⟩:=h
  obtain⟨xs,h3,h4⟩:=SQ t
  exact⟨v::xs,.cons h1 h3,λM H=>.cons (h2 M H) (h4 M H)⟩
theorem Qk{a:nI}{od:nG nI}{osl:pE (nG Wp)}{its:Gc Wp}{n:Nat}{ds:Gc D}(l:K.lookup a=Fk ⟨.type "tuple",od,.seq its.toArray n,osl⟩)(hz:its.length<=sizeLine)(r:Paired (λd u=>IsD K u d) ds its):IsD K (.ref a) (.tup ds):=by
 obtain⟨xs,h1,h2⟩:=SQ r
 exact⟨.ref a,rfl,λM H=>.tup (.inr ⟨_,its.toArray,n,l,rfl,rfl,by simpa using hz,by simpa using h1⟩) (h2 M H)⟩
theorem Tu{x:Str}{u:Wp}{d:D}(X:K.In h)(G:h.Ns mainGlobals mg)(e:qC K mainGlobals x=Fk (Fk u))(r:IsD K u d):Tj K mg x d:=by
 obtain⟨v,h1,h2⟩:=r
 exact⟨v,u,rT X G e,h1,h2⟩
structure mh(w:oM)(K:KE)(mg:Str->nG Wp)(x:Str)(ns:Gc (Str×Str)):Prop where
 ex:∃a kvs,mg x=Fk (.ref a)/\TopD K w a kvs/\Paired (λ(n:Str×Str) (q:Str×V)=>n.1=q.1/\∃f,q.2=.ref f/\mg n.2=Fk (.ref f)) ns kvs
end
section
variable{X:Cx}{pos:Pos}
end
theorem SJ:∀{ys:Gc V} {us:Gc Wp},ys.length=us.length->(∀(j:Nat) (y:V) (u:Wp),ys[j]?=Fk y->us[j]?=Fk u->RelV y u)->Vals ys us
 | [],[],_,_=>.nil
 |y::ys,u::us,hl,h=>.cons (h 0 y u rfl rfl) (SJ (by simpa using hl) λj y u a b=>h (j+1) y u a b)
 | [],_::_,hl,_=>by simp at hl
 |_::_,[],hl,_=>by simp at hl
noncomputable def tLR(ta:TA):TE:=λσ H Q=>ta σ H λvs H1=>∃j:Int,vs=[.int j]/\0<=j/\j<=1000/\∀l,H1 l=nD->Q (.ref l) (upd H1 l (.lst ((oF j.toNat).map λ(i:Nat)=>V.int i)))
theorem jC{X:Cx}{a:oA}{ta:TA}{p p' pos pos':Pos}(hc:X.calm=true)(hgl:Gl X "list")(hml:X.mg "list"=nD)(hg:Gl X "range")(hm:X.mg "range"=nD)(ha:PA X [a] ta)(hs:nk [a] X.env=[(false,eval a X.env)]:=by rfl)(hs2:nk [Expr.Call (.Name "range" p) [a] [] pos] X.env=[(false,eval (.Call (.Name "range" p) [a] [] pos) X.env)]:=by rfl):PE X (.Call (.Name "list" p') [.Call (.Name "range" p) [a] [] pos] [] pos') (tLR ta):=by
 intro pins s σ H Q I h
 refine pQ (LF I hgl hml uZ ?_ (by decide) (by decide))
 refine qA ?_ hs2 rfl
 rw[hs2]
 show wpAny _ _ (spliced ((false,eval (.Call (.Name "range" p) [a] [] pos) X.env)::backTo pos' [])) _ _ s
 refine sA ?_
 refine pQ (LF I hg hm wQ ?_ (by decide) (by decide))
 refine qA (thn (ha pos pins s σ H _ I h) λus s1 ⟨vs,H1,I1,r1,q1⟩=>?_) hs rfl
 obtain⟨j,e,j0,j1,q⟩:=q1
 subst e
 cases r1 with
 |cons r rr=>
  cases rr
  obtain⟨t,rfl⟩:=r
  refine yj (sR ?_)
  have hz:j.toNat<=2^24:=by lia
  refine call_list_range (n:=j.toNat) (I1.ok.hd hc) (za ..) (small_one (by lia) (by lia) (by lia) (by lia)) (by rw[x9];split<;>lia) hz λh' tk acc' c' hk hS' hacc=>?_
  have kp:∀b o,s1.heap.get? b=Fk o->h'.get? b=Fk o:=λb o e=>hk b o (W1 _ e)
  have le:s1.heap.objs.size<=(s1.heap.push {cls:=.type "range",data:=.fields #[.int 0 s1.toks,.int j t,.int 1 (s1.toks+1)]}).objs.size:=by rw[pR];exact xB _
  have rv:Vals ((oF j.toNat).map λ(i:Nat)=>V.int i) acc'.toList:=SJ (by simp[hacc.1]) λi y u hy hu=>by
   have hi:i<j.toNat:=by
    have:=(nP.mp hy).1
    simpa using this
   rw[nY,tF hi]at hy
   cases hy
   obtain⟨tk',rfl⟩:=hacc.2 i u (by simpa using hu)
   exact⟨tk',by simp⟩
  refine⟨.ref _,_,I1.laid (t':=tk) (o:=.lst ((oF j.toNat).map λ(i:Nat)=>V.int i)) kp le ⟨by rw[oa,List.length_range];exact hz,acc'.toList,c',rv,by simpa using hS'⟩,rfl,q _ (I1.hok.fresh le)⟩
noncomputable def lrK(cf:oQ)(r:D×Sto):nG (D×Sto):=match r.1 with
 | .int j=>if(decide (0<=j) && decide (j<=1000))=true then fin cf (.own (Jr 0 j.toNat)) r.2 else nD
 |_=>nD
noncomputable def jL(cf:oQ)(o:Ev):Ev:=λE S=>(o E S).bind (lrK cf)
abbrev eLR:=jL false
theorem js{X:Cx}{a:oA}{o:Ev}{cf:oQ}{p p' pos pos':Pos}(hc:X.calm=true)(hgl:Gl X "list")(hml:X.mg "list"=nD)(hg:Gl X "range")(hm:X.mg "range"=nD)(ha:DEs X [a] [o])(hs:nk [a] X.env=[(false,eval a X.env)]:=by rfl)(hs2:nk [Expr.Call (.Name "range" p) [a] [] pos] X.env=[(false,eval (.Call (.Name "range" p) [a] [] pos) X.env)]:=by rfl):DE X (.Call (.Name "list" p') [.Call (.Name "range" p) [a] [] pos] [] pos') (jL cf o):=⟨
 Bz (jC hc hgl hml hg hm ha.pe hs hs2) λσ H Q z=>by
  obtain⟨M,E,S,d,S',e,r,st,q⟩:=z
  obtain⟨⟨w,S1⟩,e1,e⟩:=BA e
  have e1':evs [o] E S=Fk ([w],S1):=by
   show(o E S).bind (λr=>(evs [] E r.2).map λq=>(r.1::q.1,q.2))=_
   rw[e1];rfl
  refine ID e1' r st λvs H1 M1 g1 st1 r1=>?_
  unfold lrK at e
  split at e
  .rename_i j he
   have he:w=.int j:=he
   subst he
   split at e
   .rename_i hk
    rw[nU]at hk
    refine⟨j,RV r1,nV hk.1,nV hk.2,λl hl=>?_⟩
    have rd:Ah X.K M1 H1 ((oF j.toNat).map λ(i:Nat)=>V.int i) (Jr 0 j.toNat):=by
     have er:Jr 0 j.toNat=(oF j.toNat).map λ(i:Nat)=>D.int i:=by simp[Jr]
     rw[er]
     generalize oF j.toNat=xs
     induction xs with
     |nil=>exact .nil
     |cons x xs ih=>exact .cons (.int x) ih
    obtain⟨M2,g2,st2,d2⟩:=(Nw.lst st1.mo hl rd).fin st1 e
    exact q _ _ M2 (g1.trans g2) st2 d2
   .cases e
  .cases e⟩
noncomputable def putD(kvs:Gc (Key×D))(k:Key)(v:D):Gc (Key×D):=
 if(kvs.any λkv=>decide (kv.1=k))=true then kvs.map (λkv=>if kv.1=k then(kv.1,v)else kv)else kvs++[(k,v)]
noncomputable def Ni(kvs more:Gc (Key×D)):Gc (Key×D):=more.foldl (λacc kv=>putD acc kv.1 kv.2) kvs
noncomputable def gi:D->nG Key
 | .int i=>Fk (.inl i)
 | .str x=>Fk (.inr x)
 |_=>nD
noncomputable def YE:oQ->Gc (Key×D)->Sto->D×Sto
 |false,es,S=>(.dct es,S)
 |true,es,S=>(.ref S.length,S++[.dct es])
section
variable{K:KE}{M M':Ms}{H:Hp}{S:Sto}{E:En}{σ:Sg}
theorem DA.any(k:Key):∀{kvs:Gc (Key×V)} {es:Gc (Key×D)},DA K M H kvs es->(kvs.any λkv=>decide (kv.1=k))=es.any λkv=>decide (kv.1=k)
 |_,_,.nil=>rfl
 |_,_,.cons h t=>by rw[qU,qU,DA.any k t]
theorem DA.app:∀{kvs kvs':Gc (Key×V)} {es es':Gc (Key×D)},DA K M H kvs es->DA K M H kvs' es'->DA K M H (kvs++kvs') (es++es')
 |_,_,_,_,.nil,s=>s
 |_,_,_,_,.cons h t,s=>.cons h (DA.app t s)
theorem DA.eM{k:Key}{v:V}{d:D}(r:Dy K M H v d):∀{kvs:Gc (Key×V)} {es:Gc (Key×D)},DA K M H kvs es->DA K M H (kvs.map λkv=>if kv.1=k then(kv.1,v)else kv) (es.map λkv=>if kv.1=k then(kv.1,d)else kv)
 |_,_,.nil=>.nil
 |_,_,.cons (k:=k') h t=>by
  rw[oG,oG]
  by_cases e:k'=k
  .rw[oP e,oP e];exact .cons r (DA.eM r t)
  .rw[oU e,oU e];exact .cons h (DA.eM r t)
theorem DA.put{k:Key}{v:V}{d:D}{kvs:Gc (Key×V)}{es:Gc (Key×D)}(r:Dy K M H v d)(h:DA K M H kvs es):DA K M H (putK kvs k v) (putD es k d):=by
 unfold putK putD
 rw[h.any k]
 split
 .exact h.eM r
 .exact h.app (.cons r .nil)
theorem DA.merge:∀{more:Gc (Key×V)} {more':Gc (Key×D)} {kvs:Gc (Key×V)} {es:Gc (Key×D)},DA K M H more more'->DA K M H kvs es->DA K M H (MY kvs more) (Ni es more')
 |_,_,_,_,.nil,h=>h
 |_,_,kvs,es,.cons (k:=k) (v:=v) (d:=d) (vs:=vs) (ds:=ds) r t,h=>show DA K M H (MY (putK kvs k v) vs) (Ni (putD es k d) ds)from DA.merge t (h.put r)
theorem eA{v:V}{d:D}{k:Key}(r:Dy K M H v d)(e:gi d=Fk k):v=kV k:=by
 cases r<;>cases e<;>rfl
theorem StR.dn(r:StR K M S H){a:nI}(e:H a=nD):StR K ⟨M.cel,a::M.tmp⟩ S (upd H a (.dK []))/\Sp1 M H ⟨M.cel,a::M.tmp⟩ (upd H a (.dK [])):=by
 have k:∀b o,H b=Fk o->upd H a (.dK []) b=Fk o:=Hs e
 have na:¬M.mem a:=λz=>r.mo.some z e
 have s1:Sp1 M H ⟨M.cel,a::M.tmp⟩ (upd H a (.dK [])):=⟨r.mo,pB,λb z=>by
  rcases z with z|z
  .exact .inl (.inl z)
  .rcases nO.mp z with z|z
   .subst z;exact .inr e
   .exact .inl (.inr z),λb o eb _=>k b o eb⟩
 refine⟨⟨λb z=>?_,r.nd,λb hb z=>?_,r.len,λn b c h1 h2=>?_⟩,s1⟩
 .by_cases h:b=a
  .subst h;exact .inr (.inl ⟨[],BL⟩)
  .rw[Ab h]
   refine r.mo b ?_
   rcases z with z|z
   .exact .inl z
   .rcases nO.mp z with z|z
    .exact absurd z h
    .exact .inr z
 .rcases nO.mp hb with hb|hb
  .subst hb;exact na (.inl z)
  .exact r.nt b hb z
 .have q:=r.cell n b c h1 h2
  cases c with
  |lst ds=>obtain⟨xs,e,rr⟩:=q;exact⟨xs,k _ _ e,rr.step s1⟩
  |dct ds=>obtain⟨xs,e,rr⟩:=q;exact⟨xs,k _ _ e,rr.step s1⟩
  |tab ds=>obtain⟨xs,e,rr⟩:=q;exact⟨xs,k _ _ e,rr.step s1⟩
theorem StR.lg{c t:Gc nI}{a:nI}{kvs:Gc (Key×V)}{es:Gc (Key×D)}(cf:oQ)(r:StR K ⟨c,a::t⟩ S H)(nt:a∉t)(rr:DA K ⟨c,a::t⟩ H kvs es):∃c',StR K ⟨c',t⟩ (YE cf es S).2 (upd H a (.dK kvs))/\Dy K ⟨c',t⟩ (upd H a (.dK kvs)) (.ref a) (YE cf es S).1/\c <+: c'/\(∀b∈c',b∈c\/b=a):=by
 have nc:a∉c:=r.nt a nT
 have hl:c.length=S.length:=r.len
 have ne:∀b∈c,b≠a:=λb hb z=>nc (by rw[<-z];exact hb)
 have kp:∀b o,H b=Fk o->¬Ms.mem ⟨c,a::t⟩ b->upd H a (.dK kvs) b=Fk o:=λb o eb nb=>by rw[Ab (λz=>nb (.inr (by rw[z];exact nT)))];exact eb
 have old:∀{c':Gc nI},Sp1 ⟨c,a::t⟩ H ⟨c',t⟩ (upd H a (.dK kvs))->∀(n:Nat) (b:nI) (cl:Cl),c[n]?=Fk b->S[n]?=Fk cl->aK K ⟨c',t⟩ (upd H a (.dK kvs)) b cl:=λs1 n b cl h1 h2=>by
  have hb:=ne b (ni h1)
  have q:=r.cell n b cl h1 h2
  cases cl with
  |lst ds=>obtain⟨xs,e,rr⟩:=q;exact⟨xs,by rw[Ab hb];exact e,rr.step s1⟩
  |dct ds=>obtain⟨xs,e,rr⟩:=q;exact⟨xs,by rw[Ab hb];exact e,rr.step s1⟩
  |tab ds=>obtain⟨xs,e,rr⟩:=q;exact⟨xs,by rw[Ab hb];exact e,rr.step s1⟩
 have mo:∀b,Ms.mem ⟨c,t⟩ b\/b=a->(∃xs,upd H a (.dK kvs) b=Fk (.lst xs))\/(∃ks,upd H a (.dK kvs) b=Fk (.dK ks))\/∃ps,upd H a (.dK kvs) b=Fk (.tbl ps):=λb z=>by
  by_cases h:b=a
  .subst h;exact .inr (.inl ⟨kvs,BL⟩)
  .rw[Ab h]
   rcases z with z|z
   .exact r.mo b (z.imp id (nK _))
   .exact absurd z h
 cases cf with
 |false=>
  have s1:Sp1 ⟨c,a::t⟩ H ⟨c,t⟩ (upd H a (.dK kvs)):=⟨r.mo,pB,λb z=>.inl (z.imp id (nK _)),kp⟩
  exact⟨c,⟨λb z=>mo b (.inl z),r.nd,λb hb=>r.nt b (nK _ hb),r.len,old s1⟩,.dct BL (λz=>z.elim nc nt) (rr.step s1),pB,λb z=>.inl z⟩
 |true=>
  have s1:Sp1 ⟨c,a::t⟩ H ⟨c++[a],t⟩ (upd H a (.dK kvs)):=⟨r.mo,qy _ _,λb z=>by
   rcases z with z|z
   .rcases oD.mp z with z|z
    .exact .inl (.inl z)
    .exact .inl (.inr (by rw[oJ.mp z];exact nT))
   .exact .inl (.inr (nK _ z)),kp⟩
  refine⟨c++[a],⟨λb z=>mo b ?_,?_,λb hb z=>?_,by simp[YE,hl],λn b cl h1 h2=>?_⟩,.ref (by rw[<-hl];exact oC),qy _ _,λb z=>?_⟩
  .rcases z with z|z
   .rcases oD.mp z with z|z
    .exact .inl (.inl z)
    .exact .inr (oJ.mp z)
   .exact .inl (.inr z)
  .rw[sI]
   refine⟨r.nd,by simp,λx hx y hy z=>?_⟩
   simp at hy;subst hy
   exact nc (by rw[<-z];exact hx)
  .rcases oD.mp z with z|z
   .exact r.nt b (nK _ hb) z
   .rw[oJ.mp z]at hb;exact nt hb
  .have h2:(S++[Cl.dct es])[n]?=Fk cl:=h2
   by_cases h:n<S.length
   .rw[nJ (by rw[hl];exact h)]at h1
    rw[nJ h]at h2
    exact old s1 n b cl h1 h2
   .have hm:n=S.length:=by
     have:=(nP.mp h2).1
     simp at this;lia
    subst hm
    rw[oI (by rw[hl];exact nS _)]at h1
    rw[oI (nS _)]at h2
    rw[hl]at h1
    simp at h1 h2
    subst h1 h2
    exact⟨kvs,BL,rr.step s1⟩
  .rcases oD.mp z with z|z
   .exact .inl z
   .exact .inr (oJ.mp z)
noncomputable def evP:Gc (Ev×Ev)->En->Sto->nG (Gc (Key×D)×Sto)
 | [],_,S=>Fk ([],S)
 |(k,v)::r,E,S=>(k E S).bind λa=>(gi a.1).bind λkk=>(v E a.2).bind λb=>(evP r E b.2).map λq=>((kk,b.1)::q.1,q.2)
theorem ZD:∀{fs:Gc (Ev×Ev)} {M:Ms} {S:Sto} {es:Gc (Key×D)} {S':Sto} {H:Hp} {Q:Gc (V×V)->Hp->Prop},evP fs E S=Fk (es,S')->EnR K M E σ H->StR K M S H->(∀kvs H' M',Gr M H M' H'->StR K M' S' H'->DA K M' H' kvs es->kvs.length=fs.length->Q (kvs.map λkv=>(kV kv.1,kv.2)) H')->Rw (fs.map λx=>(tD K x.1,tD K x.2)) σ H Q
 | [],M,S,es,S',H,Q,e,r,st,q=>by
   cases e
   exact q [] H M (.refl st.mo) st .nil rfl
 |(fk,fv)::fs,M,S,es,S',H,Q,e,r,st,q=>by
  obtain⟨⟨dk,S1⟩,e1,e⟩:=BA e
  obtain⟨kk,ek,e⟩:=BA e
  obtain⟨⟨dv,S2⟩,e2,e⟩:=BA e
  obtain⟨⟨es',S3⟩,e3,e⟩:=Ky e
  cases e
  refine⟨M,E,S,dk,S1,e1,r,st,λv H1 M1 g1 st1 d1=>?_⟩
  refine⟨M1,E,S1,dv,S2,e2,r.step g1.st,st1,λv2 H2 M2 g2 st2 d2=>?_⟩
  refine ZD e3 ((r.step g1.st).step g2.st) st2 λkvs H3 M3 g3 st3 rk hl=>?_
  rw[eA d1 ek]
  exact q ((kk,v2)::kvs) H3 M3 ((g1.trans g2).trans g3) st3 (.cons (d2.step g3.st) rk) (by simp[hl])
end
noncomputable def Tw(cf:oQ)(fs:Gc (Ev×Ev)):Ev:=λE S=>(evP fs E S).map λr=>YE cf (Ni [] r.1) r.2
abbrev d6:=Tw false
section
variable{X:Cx}{pos:Pos}
structure DPs(X:Cx)(pos:Pos)(ks:Gc (nG oA))(vs:Gc oA)(fs:Gc (Ev×Ev)):Prop where
 pe:PPs X pos ks vs (fs.map λx=>(tD X.K x.1,tD X.K x.2))
 all:ks.all (·.isSome)=true
 len:ks.length=vs.length
 num:fs.length=vs.length
theorem Zy:DPs X pos [] [] []:=⟨bH,rfl,rfl,rfl⟩
theorem XT{k v:oA}{ks:Gc (nG oA)}{vs:Gc oA}{fk fv:Ev}{fs:Gc (Ev×Ev)}(hk:DE X k fk)(hv:DE X v fv)(h:DPs X pos ks vs fs):DPs X pos (Fk k::ks) (v::vs) ((fk,fv)::fs):=
 ⟨Xk hk.pe hv.pe h.pe,by rw[se,h.all];rfl,by rw[pD,pD,h.len],by rw[pD,pD,h.num]⟩
theorem Zd{K:KE}{M:Ms}{H:Hp}{S S':Sto}{Q:VK}{cf:oQ}{p:nI}{M2:Ms}{H2:Hp}{S2:Sto}{kvs:Gc (Key×V)}{es:Gc (Key×D)}(st:StR K M S H)(hp:H p=nD)(g:Gr ⟨M.cel,p::M.tmp⟩ (upd H p (.dK [])) M2 H2)(st2:StR K M2 S2 H2)(rk:DA K M2 H2 kvs es)(q:∀v H' M',Gr M H M' H'->StR K M' (YE cf es S2).2 H'->Dy K M' H' v (YE cf es S2).1->Q v H'):Q (.ref p) (upd H2 p (.dK kvs)):=by
 obtain⟨c2,t2⟩:=M2
 have ht:t2=p::M.tmp:=g.tmp
 subst ht
 have np:p∉M.tmp:=λz=>st.mo.some (.inr z) hp
 obtain⟨c',st',rd,pr,sub⟩:=st2.lg cf np rk
 refine q _ _ ⟨c',M.tmp⟩ ⟨st.mo,(show M.cel <+: c2 from g.pre).trans pr,rfl,λb z=>?_,λb o eb nb=>?_,λb eb=>?_⟩ st' rd
 .rcases sub b z with z|z
  .rcases g.fresh b z with z|z
   .exact .inl z
   .right
    by_cases h:b=p
    .rw[h];exact hp
    .rw[Ab h]at z;exact z
  .right;rw[z];exact hp
 .have h:b≠p:=λz=>by rw[z,hp]at eb;cases eb
  rw[Ab h]
  exact g.keep b o (by rw[Ab h];exact eb) nb
 .by_cases h:b=p
  .subst h;rw[BL];intro z;cases z
  .rw[Ab h]
   exact g.some b (by rw[Ab h];exact eb)
theorem ba{cf:oQ}{ks:Gc (nG oA)}{vs:Gc oA}{fs:Gc (Ev×Ev)}(h:DPs X pos ks vs fs)(h0:ks≠[])(h15:ks.length<=15):DE X (.Dict ks vs pos) (Tw cf fs):=⟨
 Bz (Zf h.pe h.all h.len h0 h15) λσ H Q z=>by
  obtain⟨M,E,S,d,S',e,r,st,q⟩:=z
  obtain⟨⟨es,S2⟩,e1,e⟩:=Ky e
  intro p hp
  obtain⟨st0,s0⟩:=st.dn hp
  refine ZD e1 (r.step s0) st0 λkvs H2 M2 g st2 rk hl=>⟨g.keep p _ BL (st0.nt p nT),kvs,rfl,by rw[hl,h.num,<-h.len];exact h15,?_⟩
  refine Zd (cf:=cf) (S':=S') st hp g st2 (rk.merge .nil) ?_
  have e':YE cf (Ni [] es) S2=(d,S'):=e
  rw[e']
  exact q⟩
end
noncomputable def hide(h:oE):Gc nI->oE
 | []=>h
 |a::l=>(hide h l).update a λo=>{o with data:=.freed}
theorem Jd{h:oE}:∀{l:Gc nI} {b:nI},b∈l->(hide h l).get? b=nD
 |a::l,b,m=>by
  by_cases e:a=b
  .subst e
   cases q:((hide h l).update a λo=>{o with data:=.freed}).get? a with
   |none=>exact q
   |some o=>
    exfalso
    obtain⟨q1,q2⟩:=Heap.get?_some_iff.mp q
    generalize hide h l=g at q1
    obtain⟨objs,lf⟩:=g
    simp only[Heap.update,Array.getElem?_modify,sd]at q1
    cases r:objs[a]? with
    |none=>rw[r]at q1;cases q1
    |some o'=>rw[r]at q1;cases q1;cases q2
  .unfold hide
   rw[qw _ _ e]
   exact Jd ((nO.mp m).resolve_left λz=>e z.symm)
theorem Lp{h:oE}:∀{l:Gc nI} {b:nI},b∉l->(hide h l).get? b=h.get? b
 | [],_,_=>rfl
 |a::l,b,m=>by
  unfold hide
  rw[qw _ _ λz=>m (by rw[z];exact nT)]
  exact Lp λz=>m (nK _ z)
theorem OY{h:oE}{l:Gc nI}:(hide h l).StaysIn h:=λb o e=>by
 by_cases m:b∈l
 .rw[Jd m]at e;cases e
 .rw[Lp m]at e;exact e
theorem Lr{h base:oE}{l:Gc nI}:∀{es:Gc p9},(∀b∈frs es,b∈l)->h.FunFrames base es->h.FunFrames (hide h l) es
 | [],_,_=>trivial
 |env::r,m,hl=>by
  obtain⟨hk,⟨L,o,hf,hn,ho,hd⟩,hr⟩:=hl
  have e:frs (env::r)=L::frs r:=by unfold frs;rw[oR,hf]
  rw[e]at m
  exact⟨hk,⟨L,o,hf,Jd (m L nT),ho,hd⟩,Lr (λb z=>m b (nK _ z)) hr⟩
def Tb(old:nI->Prop)(H:Hp)(h:oE)(e:nI)(v:Wp):Prop:=
 v=.none\/∃T oT ts,v=.ref T/\T≠e/\h.get? T=Fk oT/\oT.data=.fields ts/\ts[3]?=Fk .none/\H T=nD/\¬old T
structure Fly(old:nI->Prop)(H:Hp)(h:oE)(e C:nI):Prop where
 free:H e=nD
 new:¬old e
 ex:∃oe vs a0 v,h.get? e=Fk oe/\oe.cls=.ref C/\oe.data=.fields vs/\vs[0]?=Fk a0/\vs[1]?=Fk v/\Tb old H h e v
theorem Fly.imp{old old':nI->Prop}{H:Hp}{h:oE}{e C:nI}(f:Fly old H h e C)(m:∀b,old' b->old b):Fly old' H h e C:=by
 obtain⟨oe,vs,a0,v,h1,h2,h3,h4,h5,t⟩:=f.ex
 refine⟨f.free,λz=>f.new (m _ z),oe,vs,a0,v,h1,h2,h3,h4,h5,?_⟩
 rcases t with t|⟨T,oT,ts,t1,t2,t3,t4,t5,t6,t7⟩
 .exact .inl t
 .exact .inr ⟨T,oT,ts,t1,t2,t3,t4,t5,t6,λz=>t7 (m _ z)⟩
structure eL(old:nI->Prop)(H:Hp)(h:oE)(e C:nI):Prop where
 free:H e=nD
 new:¬old e
 ex:∃oe vs a0 T oT ts,h.get? e=Fk oe/\oe.cls=.ref C/\oe.data=.fields vs/\vs[0]?=Fk a0/\vs[1]?=Fk (.ref T)/\T≠e/\h.get? T=Fk oT/\oT.data=.fields ts/\ts[3]?=Fk .none/\H T=nD/\¬old T
theorem eL.fly{old:nI->Prop}{H:Hp}{h:oE}{e C:nI}(f:eL old H h e C):Fly old H h e C:=by
 obtain⟨oe,vs,a0,T,oT,ts,h1,h2,h3,h4,h5,r⟩:=f.ex
 exact⟨f.free,f.new,oe,vs,a0,.ref T,h1,h2,h3,h4,h5,.inr ⟨T,oT,ts,rfl,r⟩⟩
structure Trn(X:Cx)(old:nI->Prop)(H:Hp)(h h':oE)(e C:nI):Prop where
 keep:∀b o,h.get? b=Fk o->b∉frs X.stack->(H b≠nD\/old b\/∀vs,o.data≠.fields vs)->h'.get? b=Fk o
 slot:∀b o,h.get? b=Fk o->(∀vs,o.data≠.fields vs)->∃sl,h'.get? b=Fk {o with slots:=sl}
 fly:eL old H h' e C
theorem Ds.there{P:nv}{w:oM}{H:Hp}{h:oE}{a:nI}{o:HO}(x:Ds P w H h a o):∃ob,h.get? a=Fk ob:=by
 cases o with
 |lst xs=>obtain⟨_,_,_,_,e⟩:=x;exact⟨_,e⟩
 |tup xs=>obtain⟨_,_,_,ob,e,_⟩:=x;exact⟨_,e⟩
 |dK kvs=>obtain⟨_,_,_,_,o,_,_,e,_⟩:=x;exact⟨_,e⟩
 |dT kvs=>obtain⟨_,_,_,_,o,_,_,e,_⟩:=x;exact⟨_,e⟩
 |set S n=>obtain⟨o,_,_,_,e,_⟩:=x;exact⟨_,e⟩
 |ins C dx fs=>obtain⟨_,_,_,e,_⟩:=x;exact⟨_,e⟩
 |own y=>obtain⟨_,e⟩:=x;exact⟨_,e⟩
 |xd fs=>obtain⟨_,⟨_,_,_,e,_⟩,_⟩:=x;exact⟨_,e⟩
 |rng lo hi=>obtain⟨_,_,_,e⟩:=x;exact⟨_,e⟩
 |frz ob u=>obtain⟨e,_⟩:=x;exact⟨_,e⟩
 |tbl ps=>exact⟨_,(show h.get? a=Fk _ from x)⟩
 |met f y=>exact⟨_,(show h.get? a=Fk _ from x)⟩
 |ext φ=>obtain⟨_,⟨_,e⟩,_⟩:=x;exact⟨_,e⟩
section
variable{X:Cx}{pins:Gc (nI×Obj)}{σ:St}{H:Hp}{s:nE}{old:nI->Prop}{e C:nI}{Q:Unit->nE->Prop}{E:Wp->nE->Prop}{A:oN}
theorem Rh{M:vo}(I:Inv X pins σ H s)(f:Fly old H s.heap e C)(ho:∀b,old b->s.heap.get? b≠nD){a0 fl:Wp}{h':oE}(l:Gc nI)(hl:∀b∈l,b∈frs X.stack\/(b=e\/(H b=nD/\¬old b/\∃o us,s.heap.get? b=Fk o/\o.data=.fields us)))  (hN:zq (hide s.heap l) X.stack e (.ref C) a0 fl s.heap h')(hQ:∀h',Trn X old H s.heap h' e C->Q () {s with heap:=h'}):wpAny M A (setFlight (.ref e) nD) Q E {s with heap:=h'}:=by
 have st:=I.stack
 obtain⟨oe,vs,_,v,h1,h2,h3,h4,h5,t⟩:=f.ex
 have frD:∀b∈frs X.stack,∃o,s.heap.get? b=Fk o/\∀vs,o.data≠.fields vs:=λb m=>(st.mem m).2
 obtain⟨n1,n2,n3,n4⟩:=hN
 refine wpAny_setFlight_noneW (base:=hide s.heap l) (l:=X.stack) (cls:=.ref C) (a0:=a0) (fl:=fl) n1 n2 n3 λh2' m1 m2 m3 m4=>?_
 have slot:∀b o,s.heap.get? b=Fk o->(∀vs,o.data≠.fields vs)->∃sl,h2'.get? b=Fk {o with slots:=sl}:=λb o e1 e2=>by
  obtain⟨sl,q⟩:=n4 b o e1 e2
  exact⟨sl,m4 b _ q e2⟩
 refine hQ h2' ⟨λb o e1 e2 e3=>?_,slot,f.free,f.new,?_⟩
 .have nl:b∉l:=λz=>by
   rcases hl b z with z|z|⟨z1,z2,o',us,z3,z4⟩
   .exact e2 z
   .subst z
    rw[h1]at e1;cases e1
    rcases e3 with e3|e3|e3
    .exact e3 f.free
    .exact f.new e3
    .exact e3 _ h3
   .rw[z3]at e1;cases e1
    rcases e3 with e3|e3|e3
    .exact e3 z1
    .exact z2 e3
    .exact e3 _ z4
  exact m1 b o (by rw[Lp nl];exact e1)
 .obtain⟨oe2,vs2,T,oT,ts,k1,⟨k2,k3⟩,k4,k5,k6,k7,k8,k9,k10⟩:=m3
  refine⟨oe2,vs2,a0,T,oT,ts,k1,k2,k4,k3,k5,k7,k8,k9,k10,?_⟩
  by_cases hT:T∈l
  .rcases hl T hT with z|z|z
   .exfalso
    obtain⟨o,e1,e2⟩:=frD T z
    obtain⟨sl,q⟩:=slot T o e1 e2
    rw[k8]at q;cases q
    exact e2 _ k9
   .exact absurd z k7
   .exact⟨z.1,z.2.1⟩
  .rw[Lp hT]at k6
   refine⟨?_,λz=>ho T z k6⟩
   cases q:H T with
   |none=>rfl
   |some o=>
    obtain⟨ob,z⟩:=Ds.there (I.hok T o q)
    rw[k6]at z;cases z
theorem Ob{M:vo}(I:Inv X pins σ H s)(hA:A.frames=Fk X.stack)(hst:X.stack=X.env::X.outer)(hf:X.env.frame=Fk X.env.locals)(f:Fly old H s.heap e C)(ho:∀b,old b->s.heap.get? b≠nD)(hQ:∀h',Trn X old H s.heap h' e C->Q () {s with heap:=h'}):wpAny M A (noteFrame (.ref e) X.env) (λ_ s2=>wpAny M A (setFlight (.ref e) nD) Q E s2) E s:=by
 have st:=I.stack
 obtain⟨oe,vs,a0,v,h1,h2,h3,h4,h5,t⟩:=f.ex
 have fin:=λ(l:Gc nI) hl h' (hN:zq (hide s.heap l) X.stack e (.ref C) a0 (rawInt X.env.locals) s.heap h')=>Rh (M:=M) (A:=A) (E:=E) (Q:=Q) I f ho l hl hN hQ
 have hfr:A.frames=Fk (X.env::X.outer):=by rw[hA,hst]
 rw[hst]at fin st
 rcases t with t|⟨T,oT,ts,t1,t2,t3,t4,t5,t6,t7⟩
 .subst t
  have hh:∀b∈frs (X.env::X.outer),b∈e::frs (X.env::X.outer):=λb m=>nK _ m
  unfold noteFrame
  simp only[hf]
  refine nC (qN h1 h3 h5 ?_)
  rw[oU (by decide)]
  refine wpAny_entryW (base:=hide s.heap (e::frs (X.env::X.outer))) hfr (Lr hh st) hf h1 OY (Jd nT) h3 (Array.getElem?_eq_some_iff.mp h5).1 h4 λh' hN=>?_
  rw[h2]at hN
  exact fin _ (λb m=>(nO.mp m).elim (λz=>.inr (.inl z)) λz=>.inl z) h' hN
 .subst t1
  have hh:∀b∈frs (X.env::X.outer),b∈e::T::frs (X.env::X.outer):=λb m=>nK _ (nK _ m)
  refine wpAny_noteFrame_onW (base:=hide s.heap (e::T::frs (X.env::X.outer))) (cls:=.ref C) (a0:=a0) hfr (Lr hh st) hf ?_ OY (Jd nT) λh' hN=>?_
  .exact⟨oe,vs,T,oT,ts,h1,⟨h2,h4⟩,h3,h5,Jd (nK _ nT),t2,t3,t4,t5⟩
  .refine fin _ (λb m=>?_) h' hN
   rcases nO.mp m with z|m
   .exact .inr (.inl z)
   .rcases nO.mp m with z|m
    .subst z
     exact .inr (.inr ⟨t6,t7,oT,ts,t3,t4⟩)
    .exact .inl m
end
def bS(X:Cx)(pins:Gc (nI×Obj))(b:nI):Prop:=X.s₀.heap.get? b≠nD\/∃p∈X.pn++pins,p.1=b
section
variable{X:Cx}{pins:Gc (nI×Obj)}{σ:St}{H:Hp}{s:nE}{old:nI->Prop}{e C:nI}{h':oE}
theorem U2(hst:X.stack=X.env::X.outer)(hf:X.env.frame=Fk X.env.locals):frs X.stack=X.env.locals::X.fs:=by
 rw[hst];unfold frs Cx.fs frs;rw[oR,hf]
theorem GO(I:Inv X pins σ H s)(hx:X.ex=[]):∀b,bS X pins b->s.heap.get? b≠none:=λb z=>by
 rcases z with z|⟨p,m,rfl⟩
 .cases q:X.s₀.heap.get? b with
  |none=>exact absurd q z
  |some o=>
   obtain⟨o',e'⟩:=I.base.there b o q (by rw[hx];exact λz=>nomatch z)
   rw[e'];exact λz=>nomatch z
 .rw[(I.pin p m).1];exact λz=>nomatch z
theorem Q4(I:Inv X pins σ H s)(t:Trn X old H s.heap h' e C):HOk X.prog X.w H h':=λa o q=>by
 refine(I.hok a o q).WC (λb u hb e1=>?_) (λ_ z=>z) λ_ _ z=>z
 have hn:H b≠none:=by
  rcases hb with z|z
  .subst z;rw[q];exact λz=>nomatch z
  .rw[z];exact λz=>nomatch z
 exact t.keep b u e1 (λz=>hn (I.RH b z)) (.inl hn)
theorem Uy(I:Inv X pins σ H s)(hst:X.stack=X.env::X.outer)(hf:X.env.frame=Fk X.env.locals)(hx:X.ex=[])(t:Trn X (bS X pins) H s.heap h' e C):Un X.fs X.ex X.H₀ H X.s₀.heap h':=by
 have hs:=U2 hst hf
 have nL:∀b o,X.s₀.heap.get? b=Fk o->b≠X.env.locals:=λb o e1=>oH (nQ (nj e1) I.ok.above)
 have od:∀b o,X.s₀.heap.get? b=Fk o->bS X pins b:=λb o e1=>.inl (by rw[e1];exact λz=>nomatch z)
 have fd:∀b o,b∈X.fs->X.s₀.heap.get? b=Fk o->∀vs,o.data≠.fields vs:=λb o hb e1 vs=>by
  obtain⟨_,o',e2,q⟩:=I.ok.R6.mem hb
  rw[e1]at e2;cases e2
  exact q vs
 refine⟨λb o e1 n hb hx'=>?_,λb o e1 n hb hx'=>?_,I.base.free,λb o e1 hx'=>?_,I.base.Ws,I.base.Va,I.base.V4⟩
 .refine t.keep b o (I.base.keep b o e1 n hb hx') (λz=>?_) (.inr (.inl (od b o e1)))
  rw[hs]at z
  exact(nO.mp z).elim (nL b o e1) hb
 .obtain⟨sl,q⟩:=I.base.slot b o e1 n hb hx'
  obtain⟨sl',q'⟩:=t.slot b _ q (fd b o hb e1)
  exact⟨sl',q'⟩
 .obtain⟨o',q⟩:=I.base.there b o e1 hx'
  by_cases hb:b∈frs X.stack
  .obtain⟨_,o2,q2,d⟩:=I.stack.mem hb
   obtain⟨sl,z⟩:=t.slot b o2 q2 d
   exact⟨_,z⟩
  .exact⟨o',t.keep b o' q hb (.inr (.inl (od b o e1)))⟩
theorem UL(I:Inv X pins σ H s)(hst:X.stack=X.env::X.outer)(hf:X.env.frame=Fk X.env.locals)(hx:X.ex=[])(t:Trn X (bS X pins) H s.heap h' e C):Inv X pins σ H {s with heap:=h'}:=by
 have hs:=U2 hst hf
 have cl:∀c v,s.heap.IsCell c v->h'.IsCell c v:=λc v ⟨o,ho,hd⟩=>by
  obtain⟨sl,q⟩:=t.slot c o ho λvs z=>by rw[hd]at z;cases z
  exact⟨_,q,hd⟩
 refine⟨I.ok,I.os,I.bare,Uy I hst hf hx t,?_,λx c e1=>?_,I.free,I.Jt,λp m=>?_,Q4 I t,I.len⟩
 .obtain⟨m,hn,hl⟩:=I.loc
  refine⟨m,Heap.UpToSlots.ns (λb o e1 e2=>t.slot b o e1 e2) hn,λi x v e1 e2 e3=>?_⟩
  obtain⟨u,r,l⟩:=hl i x v e1 e2 e3
  refine⟨u,r,?_⟩
  rcases l with l|⟨k,c,e4,z⟩
  .exact .inl l
  .exact .inr ⟨k,c,e4,cl c _ z⟩
 .obtain⟨v,z⟩:=I.cell x c e1
  exact⟨v,cl c v z⟩
 .obtain⟨p1,p2,p3,p4,p5⟩:=I.pin p m
  refine⟨t.keep _ _ p1 (λz=>?_) (.inr (.inl (.inr ⟨p,m,rfl⟩))),p2,p3,p4,p5⟩
  rw[hs]at z
  exact(nO.mp z).elim p3 p4
end
abbrev Rk:=nI->St->Hp->Prop
abbrev TR:=St->Hp->Rk->Prop
def XP(X:Cx)(pins:Gc (nI×Obj))(Z:Rk)(ev:Wp)(s':nE):Prop:=∃e C σ' H',ev=.ref e/\Inv X pins σ' H' s'/\Z C σ' H'/\Fly (bS X pins) H' s'.heap e C
def PX(X:Cx)(st:oK)(t:TR):Prop:=∀(pins:Gc (nI×Obj)) (s:nE) (σ:St) (H:Hp) (Z:Rk),Inv X pins σ H s->t σ H Z->wpAny (model X.prog X.w) X.A (exec st X.env) (λ_ _=>qa) (XP X pins Z) s
def PXs(X:Cx)(sts:Gc oK)(t:TR):Prop:=∀(pins:Gc (nI×Obj)) (s:nE) (σ:St) (H:Hp) (Z:Rk),Inv X pins σ H s->t σ H Z->wpAny (model X.prog X.w) X.A (execs sts X.env) (λ_ _=>qa) (XP X pins Z) s
def PXe(X:Cx)(e:oA)(t:TR):Prop:=∀(pins:Gc (nI×Obj)) (s:nE) (σ:St) (H:Hp) (Z:Rk),Inv X pins σ H s->t σ H Z->wpAny (model X.prog X.w) X.A (eval e X.env) (λ_ _=>qa) (XP X pins Z) s
noncomputable def CXr(P:nv)(w:oM):CXT:=λouter H s E ev s'=>∃e C H',ev=.ref e/\s'.os=s.os/\rf s'.gens/\Un (frs outer) [] H H' s.heap s'.heap/\HOk P w H' s'.heap/\Fly (λb=>s.heap.get? b≠nD) H' s'.heap e C/\E (.ref C) nD H'
theorem YS{P:nv}{w:oM}{K:KE}{mg:Str->nG Wp}{base:oE}{N:Gc Str}{qual:Str}{scope:pJ}{f:nI}{cd:Wp}{A:oN}{outer:Gc p9}{s:nE}{H:Hp}{E:XK}{pins:Gc (nI×Obj)}{Z:Rk}{ev:Wp}{s':nE}(h:XP (Ln (CXr P w) P w K mg base N qual scope f cd A outer s H E).nox pins Z ev s')(hZ:∀C σ' H',Z C σ' H'->E (.ref C) nD H'):(Ln (CXr P w) P w K mg base N qual scope f cd A outer s H E).xe ev s':=by
 obtain⟨e,C,σ',H',rfl,I,z,fl⟩:=h
 show wpAny _ _ (leaving _ (.ref e)) _ _ s'
 unfold leaving
 refine nC (Ob I I.ok.frames rfl rfl fl (GO I rfl) λh' t=>?_)
 exact⟨e,C,H',rfl,I.os,I.bare,Uy I rfl rfl rfl t,Q4 I t,t.fly.fly.imp λb z=>.inl z,hZ _ _ _ z⟩
abbrev Rx:=En->Sto->nG (Str×En×Sto)
abbrev Rf:=Gc D->Sto->nG (Str×Sto)
noncomputable def tR(K:KE)(mg:Str->nG Wp)(r:Rx):TR:=λσ H Z=>∃M E S x E' S',r E S=Fk (x,E',S')/\EnR K M E σ H/\StR K M S H/\∀C σ' H' M',mg x=Fk (.ref C)->Gr M H M' H'->EnR K M' E' σ' H'->StR K M' S' H'->Z C σ' H'
structure RS(X:Cx)(st:oK)(r:Rx):Prop where
 pe:PX X st (tR X.K X.mg r)
structure RSs(X:Cx)(st:Gc oK)(r:Rx):Prop where
 pe:PXs X st (tR X.K X.mg r)
structure RE(X:Cx)(e:oA)(r:Rx):Prop where
 pe:PXe X e (tR X.K X.mg r)
noncomputable def spR(K:KE)(mg:Str->nG Wp)(np:Nat)(R:Rf):Sp:=λvs H _ E=>∃M ds S x S',ds.length=np/\R ds S=Fk (x,S')/\Ah K M H vs ds/\StR K M S H/\∀C H' M',mg x=Fk (.ref C)->Gr M H M' H'->StR K M' S' H'->E (.ref C) nD H'
noncomputable def Vi(N:Nat)(r:Rx):Rf:=λds S=>(r (ds.map Fk++nh (N-ds.length) nD) S).map λq=>(q.1,q.2.2)
structure cx(P:nv)(w:oM)(K:KE)(mg:Str->nG Wp)(base:oE)(x:Str)(k:Nat)(ps:Gc Str)(sp:Sp):Prop where
 ex:∃f fd,mg x=Fk (.ref f)/\qM K (.ref f)=true/\Binds K fd ps []/\Rq P w K mg base (CXr P w) k f fd ps sp
section
variable{P:nv}{w:oM}{K:KE}{mg:Str->nG Wp}{base:oE}
theorem cg{x:Str}{st:oK}{f:nI}{fd:qE}{N ps:Gc Str}{k np:Nat}{r:Rx}(Fu:Fun K x x st f fd)(S:AO N ps (AG st))(hp:ps.length=np)(hb:∀(cdv:Wp) (A:oN) (outer:Gc p9) (s:nE) (H:Hp) (E:XK),Gz k (A.deeper (ox x (AG st) s.heap.objs.size f cdv))->RSs (Ln CX0 P w K mg base N x (AG st) f cdv A outer s H E).nox (DK st) r):Rq P w K mg base (CXr P w) (k+1) f fd ps (spR K mg np (Aq (Vi N.length r))):=by
 rw[Jh]
 obtain⟨oc,od,kV,doc,pm,an,cdv,ct,osl,rfl,lk,hcd⟩:=Fu.ex
 refine ZW lk hcd S (λvs H Q E h=>?_) λA outer s H vs Q E hr h=>?_
 .obtain⟨M,ds,S0,d,S',hl,_,r,_⟩:=h
  have:=r.length
  omega
 .obtain⟨M,ds,S0,y,S',hl,e,rr,st,q⟩:=h
  have hlen:=rr.length
  refine⟨λ_ σ H=>tR K mg r σ H λC _ H'=>E (.ref C) nD H',λpins s1 σ1 H1 D I h=>?_,?_⟩
  .exact pW ((hb cdv A outer s H E hr).pe pins s1 σ1 H1 _ (I.Ti _) h) (λ_ _ z=>z.elim) λev s' z=>YS z λ_ _ _ z=>z
  .obtain⟨⟨y',E',S1⟩,e1,e⟩:=Ky e
   cases e
   refine⟨M,_,S0,y',E',S1,e1,?_,st,λC σ' H' M' hm g _ st'=>q C H' M' hm g st'⟩
   rw[show L2.start N vs=vs.map Fk++nh (N.length-ds.length) nD from by unfold L2.start;rw[hlen]]
   exact .args rr _
theorem Qu{x:Str}{st:oK}{N ps:Gc Str}{k np:Nat}{r:Rx}(S:St.Src K mg x st)(sc:AO N ps (AG st))(hp:ps.length=np)(hbi:∀f fd,Fun K x x st f fd->Binds K fd ps [])(hb:∀(f:nI) (cdv:Wp) (A:oN) (outer:Gc p9) (s:nE) (H:Hp) (E:XK),Gz k (A.deeper (ox x (AG st) s.heap.objs.size f cdv))->RSs (Ln CX0 P w K mg base N x (AG st) f cdv A outer s H E).nox (DK st) r):cx P w K mg base x (k+1) ps (spR K mg np (Aq (Vi N.length r))):=by
 obtain⟨f,fd,Fu,hm⟩:=S.ex
 exact⟨f,fd,hm,Fu.kp,hbi f fd Fu,cg Fu sc hp λcdv A outer s H E hr=>hb f cdv A outer s H E hr⟩
end
theorem Ic{X:Cx}{α:Type}{M:vo}{A:oN}{t:Sem α}{Q Q':α->nE->Prop}{E:Wp->nE->Prop}{s:nE}(hn:X.xe=λ_ _=>qa)(h:wpAny M A t Q X.xe s)(hQ:∀a s,Q a s->Q' a s):wpAny M A t Q' E s:=
 pW h hQ λ_ _ z=>by rw[hn]at z;exact z.elim
noncomputable def Er(R:Rf)(fs:Gc Ev):Rx:=λE S=>(evs fs E S).bind λq=>(R q.1 q.2).map λz=>(z.1,E,z.2)
theorem Km{X:Cx}{k np:Nat}{x:Str}{ps:Gc Str}{R:Rf}{e:oA}{es:Gc oA}{fs:Gc Ev}{p pos:Pos}(d:cx X.prog X.w X.K X.mg X.base x k ps (spR X.K X.mg np R))(hr:Gz k X.A)(hg:Gl X x)(ha:DEs X (e::es) fs)(hn:fs.length=np:=by rfl)(hxe:X.xe=λ_ _=>qa:=by rfl)(hx:X.ex=[]:=by rfl)(hdb:(x==("__debug__":Str))=false:=by decide)(he:nk (e::es) X.env=(false,eval e X.env)::nk es X.env:=by rfl)(hpl:(backTo pos (nk es X.env)).any (·.1)=false:=by rfl):RE X (.Call (.Name x p) (e::es) [] pos) (Er R fs):=⟨by
 intro pins s σ H Z I h
 obtain⟨f,fd,hm,hk,hb,F⟩:=d.ex
 obtain⟨M,E,S,y,E',S',e0,r,st,q⟩:=h
 obtain⟨⟨ds,S1⟩,e1,e2⟩:=BA e0
 obtain⟨⟨y',S2⟩,e3,e4⟩:=Ky e2
 cases e4
 refine pQ (NB I hg hm ?_ hdb)
 have ha':=ha.pe pos pins s σ H (λvs H1=>∃M1,Gr M H M1 H1/\StR X.K M1 S1 H1/\Ah X.K M1 H1 vs ds) I (ID e1 r st λvs H1 M1 g1 st1 r1=>⟨M1,g1,st1,r1⟩)
 refine tQ (h₀:=X.base) I.ok.mod.kin hk (Ic hxe ha' λus s1 ⟨vs,H1,I1,rv,M1,g1,st1,r1⟩=>⟨I1.kIn,?_⟩) he hpl
 have sp:spR X.K X.mg np R vs H1 (λ_ _=>qa) (λv _ H'=>∃C,v=.ref C/\Z C σ H'):=
  ⟨M1,ds,S1,y',S2,by rw[ML e1];exact hn,e3,r1,st1,λC H' M' hc g2 st2=>⟨C,rfl,q C σ H' M' hc (g1.trans g2) ((r.step g1.st).step g2.st) st2⟩⟩
 have hl:(us++[]).length=ps.length:=by rw[qP,<-rv.length];exact F.len _ _ _ _ sp
 have hbs:=hb s1 us I1.kIn hl
 rw[qP]at hbs
 refine uc (ue (F.run X.A X.stack s1 H1 ⟨us,[]⟩ us vs _ _ hr I1.bx hbs rv sp) λrs s' hq=>?_)
 cases rs with
 |error ev=>
  obtain⟨e,C,H',rfl,os,bare,un,hok,fly,C',hC,z⟩:=hq
  cases hC
  exact⟨e,C,σ,H',rfl,I1.aH os un hok bare (λb z=>nomatch z),z,fly.imp λb z=>GO I1 hx b z⟩
 |ok fl=>
  cases fl with
  |ret u=>
   obtain⟨v,H',_,_,_,_,_,q⟩:=hq
   exact q.elim
  |next=>exact pX hq
  |brk=>exact pX hq
  |cont=>exact pX hq⟩
section
variable{X:Cx}{st:oK}{rest a b:Gc oK}{f g:Ex}{r r1 r2:Rx}{c e:oA}{k:Ev}{pos:Pos}
theorem Vj(h:RE X e r)(hs:swapsWith e nD pos.line X.env=pure false:=by rfl):RS X (.Expr e pos) r:=⟨λpins s σ H Z I q=>u7 (pW (h.pe pins s σ H Z I q) (λ_ _ z=>z) λ_ _ z=>z) I.quiet hs⟩
noncomputable def rNo:Rx:=λ_ _=>nD
theorem dZ:RS X st rNo:=⟨λ_ _ _ _ _ _ z=>by
 obtain⟨M,E,S,x,E',S',e,_⟩:=z
 cases e⟩
theorem Ua:RSs X rest rNo:=⟨λ_ _ _ _ _ _ z=>by
 obtain⟨M,E,S,x,E',S',e,_⟩:=z
 cases e⟩
noncomputable def Y6(r:Rx)(f:Ex)(r2:Rx):Rx:=λE S=>match r E S with
 |some z=>Fk z
 |none=>(f E S).bind λq=>match q.1 with
  | .nx=>r2 q.2.1 q.2.2
  | .ret _=>nD
theorem Lq(h1:RS X st r)(hb:DS X st f)(h2:RSs X rest r2)(hxe:X.xe=λ_ _=>qa:=by rfl):RSs X (st::rest) (Y6 r f r2):=⟨λpins s σ H Z I z=>by
 obtain⟨M,E,S,x,E',S',e,rr,ss,q⟩:=z
 unfold Y6 at e
 split at e
 .rename_i z' e1
  cases e
  refine qp (pW (h1.pe pins s σ H Z I ⟨M,E,S,x,E',S',e1,rr,ss,q⟩) (λ_ _ z=>z.elim) λ_ _ z=>z)
 .obtain⟨⟨fl,E1,S1⟩,e1,e⟩:=BA e
  dsimp only at e
  split at e
  .refine qp (Ic hxe (hb.pe pins s σ H {nx:=λσ' H'=>tR X.K X.mg r2 σ' H' Z,rt:=λ_ _=>qa} I ⟨M,E,S,.nx,E1,S1,e1,rr,ss,λσ' H' M' g' r' st'=>⟨M',E1,S1,x,E',S',e,r',st',λC σ2 H2 M2 hm g2=>q C σ2 H2 M2 hm (g'.trans g2)⟩⟩) λfl s1 w=>?_)
   cases fl with
   |next=>
    obtain⟨σ',H',I',q'⟩:=w
    exact h2.pe pins s1 σ' H' Z I' q'
   |ret v=>obtain⟨_,_,_,_,_,q'⟩:=w;exact q'.elim
   |brk=>obtain⟨_,_,_,q'⟩:=w;exact q'.elim
   |cont=>obtain⟨_,_,_,q'⟩:=w;exact q'.elim
  .cases e⟩
theorem Vk(h1:RS X st r):RSs X [st] r:=⟨λpins s σ H Z I z=>qp (pW (h1.pe pins s σ H Z I z) (λ_ _ z=>z.elim) λ_ _ z=>z)⟩
noncomputable def rIf(k:Ev)(r1 r2:Rx):Rx:=λE S=>(k E S).bind λq=>match q.1 with
 | .bl true=>r1 E q.2
 | .bl false=>r2 E q.2
 |_=>nD
theorem ja(hc:DT X c k)(ha:RSs X a r1)(hb:RSs X b r2)(hxe:X.xe=λ_ _=>qa:=by rfl):RS X (.If c a b pos) (rIf k r1 r2):=⟨λpins s σ H Z I z=>by
 obtain⟨M,E,S,x,E',S',e,rr,ss,q⟩:=z
 obtain⟨⟨w1,S1⟩,e1,e⟩:=BA e
 dsimp only at e
 split at e
 .refine zY (Ic hxe (hc.pe pins s σ H (λd H1=>d=true/\tR X.K X.mg r1 σ H1 Z) I ⟨M,E,S,_,S1,e1,rr,ss,λH1 M1 g1 st1=>⟨rfl,M1,E,S1,x,E',S',e,rr.step g1.st,st1,λC σ2 H2 M2 hm g2=>q C σ2 H2 M2 hm (g1.trans g2)⟩⟩) λd s1 w=>?_)
  obtain⟨H1,I1,rfl,q1⟩:=w
  exact ha.pe pins s1 σ H1 Z I1 q1
 .refine zY (Ic hxe (hc.pe pins s σ H (λd H1=>d=false/\tR X.K X.mg r2 σ H1 Z) I ⟨M,E,S,_,S1,e1,rr,ss,λH1 M1 g1 st1=>⟨rfl,M1,E,S1,x,E',S',e,rr.step g1.st,st1,λC σ2 H2 M2 hm g2=>q C σ2 H2 M2 hm (g1.trans g2)⟩⟩) λd s1 w=>?_)
  obtain⟨H1,I1,rfl,q1⟩:=w
  exact hb.pe pins s1 σ H1 Z I1 q1
 .cases e⟩
end
abbrev VEm:Gc Wp:=[.type "ValueError",.type "Exception",.type "BaseException",.type "object"]
structure XcD(K:KE)(mg:Str->nG Wp)(x:Str):Prop where
 ex:∃C,mg x=Fk (.ref C)/\uJ K C VEm "ValueError.__new__"=true
theorem jI{K:KE}{h:oE}{mg:Str->nG Wp}{x:Str}{C:nI}(X:K.In h)(G:h.Ns mainGlobals mg)(e:qC K mainGlobals x=Fk (Fk (.ref C)))(q:uJ K C VEm "ValueError.__new__"=true):XcD K mg x:=⟨C,rT X G e,q⟩
theorem ar{K:KE}{h:oE}{C:nI}{bmB:Gc Wp}{newId:qo}(X:K.In h)(q:uJ K C bmB newId=true):∃bm N nm q bs hdct sn sub ab col dd k0 k1 k2 k3 k5 mN,h.get? C=Fk (excClassObj nm q C N bs bm hdct sn sub ab col dd k0 k1 k2 k3 k5 newId)/\h.Ns N mN/\mN "__init__"=nD/\OwnTail h bmB bm:=by
 unfold uJ at q
 split at q
 case h_2=>cases q
 rename_i dd cd sl ho
 split at q
 case h_2=>cases q
 rename_i C' bm k0 k1 k2 k3 n k5 hm hs
 simp only[nU,vh,Bool.not_eq_true']at q
 obtain⟨⟨⟨⟨⟨rfl,rfl⟩,hdel⟩,ht⟩,hok⟩,hni⟩:=q
 have hsl:sl= #[k0,k1,k2,k3,Fk (.builtin n),k5]:=Array.toList_inj.mp hs
 obtain⟨nm,bs,mro,ns,qn,hd,sn,sub,ab,col,del⟩:=cd
 dsimp only at hm hdel hok hni
 subst hm hdel hsl
 exact⟨bm,ns,nm,qn,bs,hd,sn,sub,ab,col,dd,k0,k1,k2,k3,k5,_,X _ _ ho,.of_isNs (PySem.W.isNs_of_in X hok),PySem.W.nsMap_none_of_in X hok hni,PySem.W.tail_of_in X ht⟩
noncomputable def RP(x:Str)(fs:Gc Ev):Rx:=λE S=>(evs fs E S).map λq=>(x,E,q.2)
theorem YR{X:Cx}{x:Str}{e:oA}{es:Gc oA}{fs:Gc Ev}{np cpos pos:Pos}(hc:X.calm=true)(xc:XcD X.K X.mg x)(hg:Gl X x)(ha:DEs X (e::es) fs)(hl:fs.length<=sizeLine:=by decide)(hxe:X.xe=λ_ _=>qa:=by rfl)(hx:X.ex=[]:=by rfl)(hdb:(x==("__debug__":Str))=false:=by decide)(he:nk (e::es) X.env=(false,eval e X.env)::nk es X.env:=by rfl)(hpl:(backTo cpos (nk es X.env)).any (·.1)=false:=by rfl):RS X (.Raise (Fk (.Call (.Name x np) (e::es) [] cpos)) nD pos) (RP x fs):=⟨by
 intro pins s σ H Z I h
 obtain⟨C,hm,hex⟩:=xc.ex
 obtain⟨M,E,S,y,E',S',e0,r,st,q⟩:=h
 obtain⟨⟨ds,S1⟩,e1,e2⟩:=Ky e0
 cases e2
 obtain⟨tl,N,nm,qn,bs,hdct,sn,sub,ab,col,dd,k0,k1,k2,k3,k5,mN,hC,hN,hni,T⟩:=ar I.ok.mod.kin hex
 refine wpAny_Raise_call_subT (C:=C) (nm:=nm) (q:=qn) (N:=N) (bs:=bs) (bm:=tl) (hdct:=hdct) (sn:=sn) (sub:=sub) (ab:=ab) (col:=col) (dd:=dd) (k0:=k0) (k1:=k1) (k2:=k2) (k3:=k3) (k5:=k5)
  vJ (mN:=mN) (T.hasType vJ.hasBase) (I.ok.hd hc) (by rw[he];show(false||(backTo cpos (nk es X.env)).any (·.1))=false;rw[hpl];rfl) hni (NB I hg hm ⟨rfl,?_⟩ hdb)
 have ha':=ha.pe cpos pins s σ H (λvs H1=>∃M1,Gr M H M1 H1/\StR X.K M1 S1 H1/\Ah X.K M1 H1 vs ds) I (ID e1 r st λvs H1 M1 g1 st1 r1=>⟨M1,g1,st1,r1⟩)
 rw[he]at ha'⊢
 refine vB (Ic hxe ha' λus s1 ⟨vs,H1,I1,rv,M1,g1,st1,r1⟩=>?_)
 refine⟨rfl,by rw[<-rv.length,r1.length,ML e1];exact hl,I1.bk _ _ hC,hN.keeps I1.bk,T.keeps I1.bk,λh' ea hmd=>?_⟩
 obtain⟨t,w1,w2,w3⟩:=hmd.there
 refine⟨ea,C,σ,H1,rfl,I1.kept (t':=s1.toks) hmd.keeps,q C σ H1 M1 hm g1 (r.step g1.st) st1,?_,λz=>GO I1 hx _ z hmd.new,_,_,.ref t,.none,w1,rfl,rfl,rfl,rfl,.inl rfl⟩
 cases o:H1 ea with
 |none=>rfl
 |some ho=>
  obtain⟨ob,z⟩:=Ds.there (I1.hok ea ho o)
  rw[hmd.new]at z;cases z⟩
abbrev Cx.mrk(X:Cx)(e:nI):Cx:={X with A:=X.A.mark (Fk (.ref e)),calm:=false}
section
variable{X:Cx}{pins:Gc (nI×Obj)}{σ:St}{H:Hp}{s:nE}{e:nI}
theorem dU(ok:X.Ok):(Cx.mrk X e).Ok:=⟨ok.mod,ok.kind,ok.glob,ok.blt,ok.above,ok.inj,ok.has,ok.cab,(λz=>nomatch z),ok.frames,ok.stk,ok.exf,ok.bs,ok.bsz,ok.Yj,ok.af,ok.R6,ok.frf⟩
theorem Z0(I:Inv X pins σ H s):Inv (Cx.mrk X e) pins σ H s:=⟨dU I.ok,I.os,I.bare,I.base,I.loc,I.cell,I.free,I.Jt,I.pin,I.hok,I.len⟩
theorem Jv(ok:X.Ok)(I:Inv (Cx.mrk X e) pins σ H s):Inv X pins σ H s:=⟨ok,I.os,I.bare,I.base,I.loc,I.cell,I.free,I.Jt,I.pin,I.hok,I.len⟩
theorem XW{D:Ends}{f:Flow}(ok:X.Ok)(h:SP (Cx.mrk X e) pins D f s):SP X pins D f s:=by
 cases f with
 |next=>obtain⟨σ',H',I,q⟩:=h;exact⟨σ',H',Jv ok I,q⟩
 |brk=>obtain⟨σ',H',I,q⟩:=h;exact⟨σ',H',Jv ok I,q⟩
 |cont=>obtain⟨σ',H',I,q⟩:=h;exact⟨σ',H',Jv ok I,q⟩
 |ret u=>obtain⟨v,σ',H',I,r,q⟩:=h;exact⟨v,σ',H',Jv ok I,r,q⟩
end
structure HS(X:Cx)(hs:Gc qK)(g:Str->Ex):Prop where
 pe:∀(x:Str) (C:nI),X.mg x=Fk (.ref C)->∀(pins:Gc (nI×Obj)) (s:nE) (σ:St) (H:Hp) (D:Ends) (e:nI),Inv X pins σ H s->eL (bS X pins) H s.heap e C->tX X.K (g x) D σ H->
  wpAny (model X.prog X.w) X.A (handleBy (.ref e) X.env hs) (SP X pins D) (λ_ _=>qa) s
noncomputable def gNo:Str->Ex:=λ_ _ _=>nD
theorem Rl{X:Cx}:HS X [] gNo:=⟨λ_ _ _ _ _ _ _ _ _ _ _ z=>by
 obtain⟨M,E,S,fl,E',S',e,_⟩:=z
 cases e⟩
structure XmD(K:KE)(mg:Str->nG Wp)(xs:Gc Str)(y:Str):Prop where
 ex:∃C',mg y=Fk (.ref C')/\∀x∈xs,∀C,mg x=Fk (.ref C)->rG K (.ref C) (.ref C')=Fk (x==y)
noncomputable def gOr(xs:Gc Str)(y:Str)(f:Ex)(g:Str->Ex):Str->Ex:=λx=>if x∈xs then(if(x==y)=true then f else g x)else QC
theorem aX{X:Cx}{pins:Gc (nI×Obj)}{σ:St}{H:Hp}{s:nE}{old:nI->Prop}{e C:nI}{Q:Unit->nE->Prop}{E:Wp->nE->Prop}{A:oN}{M:vo}(I:Inv X pins σ H s)(f:eL old H s.heap e C)(ho:∀b,old b->s.heap.get? b≠nD)(hQ:∀h',Trn X old H s.heap h' e C->Q () {s with heap:=h'}):wpAny M A (setFlight (.ref e) nD) Q E s:=by
 obtain⟨oe,vs,a0,T,oT,ts,h1,h2,h3,h4,h5,t2,t3,t4,t5,t6,t7⟩:=f.ex
 have hh:∀b∈frs X.stack,b∈e::T::frs X.stack:=λb m=>nK _ (nK _ m)
 refine Rh (s:=s) (h':=s.heap) (a0:=a0) (fl:=.none) I f.fly ho (e::T::frs X.stack) (λb m=>?_) ⟨OY,Lr hh I.stack,?_,λb o e1 _=>⟨o.slots,e1⟩⟩ hQ
 .rcases nO.mp m with z|m
  .exact .inr (.inl z)
  .rcases nO.mp m with z|m
   .subst z
    exact .inr (.inr ⟨t6,t7,oT,ts,t3,t4⟩)
   .exact .inl m
 .exact⟨oe,vs,T,oT,ts,h1,⟨h2,h4⟩,h3,h5,Jd (nK _ nT),t2,t3,t4,t5⟩
theorem PM{X:Cx}{xs:Gc Str}{y:Str}{b₀:oK}{suite:Gc oK}{f:Ex}{g:Str->Ex}{np pos:Pos}{rest:Gc qK}(xm:XmD X.K X.mg xs y)(hg:Gl X y)(hf:∀e,DSs (Cx.mrk X e) (b₀::suite) f)(hr:HS X rest g)(hxe:X.xe=λ_ _=>qa:=by rfl)(hx:X.ex=[]:=by rfl)(hst:X.stack=X.env::X.outer:=by rfl)(hfr:X.env.frame=Fk X.env.locals:=by rfl)(hdb:(y==("__debug__":Str))=false:=by decide):HS X (.ExceptHandler (Fk (.Name y np)) nD (b₀::suite) pos::rest) (gOr xs y f g):=⟨by
 intro x C hm pins s σ H D e I fl z
 obtain⟨C',hm',hex⟩:=xm.ex
 have hin:x∈xs:=by
  by_cases h:x∈xs
  .exact h
  .obtain⟨M,E,S,fl,E',S',e,_⟩:=z
   unfold gOr at e
   rw[oU h]at e
   cases e
 have z':tX X.K (if(x==y)=true then f else g x) D σ H:=by
  unfold gOr at z
  rw[oP hin]at z
  exact z
 have ex:=hex x hin C hm
 obtain⟨oe,vs,a0,T,oT,ts,h1,h2,_⟩:=id fl.ex
 have LT:PySem.W.Looks (model X.prog X.w) s.heap (typeOf (.ref e)) (.ref C):=by
  rw[<-h2];exact(PySem.W.Looks.ld h1).andThen .now
 refine wpAny_handleBy_cons (codeAny_handlers_test (rE I.ok.kind hg (uP (by rw[I.ok.glob];exact I.mod.glob.keeps I.bk) hm' ?_) hdb)) (by intro q;cases q)
 refine PySem.W.exm_one I.kIn LT ex _ _ _ _ (λ_ _ q=>q) ?_
 cases hb:(x==y)with
 |true=>
  rw[oP hb]at z'
  refine codeAny_handlers_suite (wJ wK (aX I fl (GO I hx) λh' t=>?_))
  have I':=Z0 (e:=e) (UL I hst hfr hx t)
  exact wJ wK (Ic (X:=Cx.mrk X e) hxe ((hf e).pe pins _ σ H D I' z') λfl s2 w=>XW I.ok w)
 |false=>
  rw[oU (by rw[hb];decide)]at z'
  exact hr.pe x C hm pins s σ H D e I fl z'⟩
section
variable{X:Cx}{pos:Pos}
end
theorem jE{K:KE}{h:oE}{mg:Str->nG Wp}{xs:Gc Str}{y:Str}{C':nI}(X:K.In h)(G:h.Ns mainGlobals mg)(e:qC K mainGlobals y=Fk (Fk (.ref C')))(t:∀x∈xs,∃C,qC K mainGlobals x=Fk (Fk (.ref C))/\rG K (.ref C) (.ref C')=Fk (x==y)):XmD K mg xs y:=⟨C',rT X G e,λx hx C hm=>by
 obtain⟨C2,e2,q⟩:=t x hx
 have:=hm.symm.trans (rT X G e2)
 cases this
 exact q⟩
theorem all_nil{p:Str->Prop}:∀x∈([]:Gc Str),p x:=λ_ z=>nomatch z
theorem all_cons{p:Str->Prop}{x:Str}{xs:Gc Str}(h:p x)(t:∀x∈xs,p x):∀y∈x::xs,p y:=λy m=>by
 rcases nO.mp m with rfl|m
 .exact h
 .exact t y m
end Mi
end
noncomputable section
namespace Mi
open PySem PySem.Spec L2 PyProof.Rows
abbrev eIx(a b:Ev):Ev:=eOp (o2 wIx) [a,b]
abbrev eI(n:Int):Ev:=eC (.int n)
theorem scM{N P:Gc Str}{sc:pJ}(a:sc.kind=.function:=by rfl)(b:sc.isCoroutine=false:=by rfl)(c:sc.isGenerator=false:=by rfl)(d:N.Nodup:=by decide+kernel)(e:N.take P.length=P:=by rfl)(f:∀x∈P,sc.names.lookup x=Fk .local\/sc.names.lookup x=Fk .cell:=by decide+kernel)(g:∀y∈sc.names,y.2≠.free:=by decide+kernel):AO N P sc:=⟨a,b,c,d,e,f,g⟩
theorem csM{N:Gc Str}{osc:pJ}{N':Gc Str}{ix:Gc (nG Nat)}{scope:pJ}(a:scope.kind=.function:=by rfl)(b:∀y∈scope.names,y.2=.cell->scope.names.lookup y.1=Fk .cell:=by decide+kernel)(c:∀y∈scope.names,y.2=.local->scope.names.lookup y.1=Fk .local:=by decide+kernel)(d:∀y∈scope.names,y.2=.free->(osc.names.lookup y.1=Fk .cell\/osc.names.lookup y.1=Fk .free):=by decide+kernel)(e:SS N osc scope N' ix=true:=by decide+kernel):Aa N osc N' ix scope:=⟨a,b,c,d,e⟩
theorem len0{α:Type}{us:Gc α}(h:us.length=0):us=[]:=by
 match us,h with
 | [],_=>rfl
theorem Qz{α:Type}{us:Gc α}(h:us.length=1):∃a,us=[a]:=by
 match us,h with
 | [a],_=>exact⟨a,rfl⟩
theorem Yx{α:Type}{us:Gc α}(h:us.length=2):∃a b,us=[a,b]:=by
 match us,h with
 | [a,b],_=>exact⟨a,b,rfl⟩
theorem gu{α:Type}{us:Gc α}(h:us.length=3):∃a b c,us=[a,b,c]:=by
 match us,h with
 | [a,b,c],_=>exact⟨a,b,c,rfl⟩
theorem mX{α:Type}{us:Gc α}(h:us.length=4):∃a b c d,us=[a,b,c,d]:=by
 match us,h with
 | [a,b,c,d],_=>exact⟨a,b,c,d,rfl⟩
theorem mO{α:Type}{us:Gc α}(h:us.length=5):∃a b c d e,us=[a,b,c,d,e]:=by
 match us,h with
 | [a,b,c,d,e],_=>exact⟨a,b,c,d,e,rfl⟩
theorem mC{α:Type}{us:Gc α}(h:us.length=6):∃a b c d e f,us=[a,b,c,d,e,f]:=by
 match us,h with
 | [a,b,c,d,e,f],_=>exact⟨a,b,c,d,e,f,rfl⟩
section
variable{P:nv}{w:oM}{K:KE}{mg:Str->nG Wp}{base:oE}
theorem dfM {x : Str} {st : oK} {N ps : Gc Str} (k : Nat) {np : Nat} {b : Ex} (S : St.Src K mg x st) (sc : AO N ps (AG st)) (hb : ∀ {f : nI} {cdv : Wp} {A : oN} {outer : Gc p9} {s : nE} {H : Hp} {E : XK}, Gz k (A.deeper (ox x (AG st) s.heap.objs.size f cdv)) -> (A.deeper (ox x (AG st) s.heap.objs.size f cdv)).units + 100 < cLine -> DSs (Ln CX0 P w K mg base N x (AG st) f cdv A outer s H E).nox (DK st) b) (hp : ps.length = np := by rfl) (hbi : ∀ f fd, Fun K x x st f fd -> Binds K fd ps [] := by
      first
      | exact fun f fd F => F.binds fun _ _ _ _ _ _ us hl => by obtain ⟨_, rfl⟩ := Qz hl; rfl
      | exact fun f fd F => F.binds fun _ _ _ _ _ _ us hl => by obtain ⟨_, _, rfl⟩ := Yx hl; rfl
      | exact fun f fd F => F.binds fun _ _ _ _ _ _ us hl => by obtain ⟨_, _, _, rfl⟩ := gu hl; rfl
      | exact fun f fd F => F.binds fun _ _ _ _ _ _ us hl => by obtain ⟨_, _, _, _, rfl⟩ := mX hl; rfl
      | exact fun f fd F => F.binds fun _ _ _ _ _ _ us hl => by obtain ⟨_, _, _, _, _, rfl⟩ := mO hl; rfl
      | exact fun f fd F => F.binds fun _ _ _ _ _ _ us hl => by obtain rfl := len0 hl; rfl
      | exact fun f fd F => F.binds fun _ _ _ _ _ _ us hl => by obtain ⟨_, _, _, _, _, _, rfl⟩ := mC hl; rfl) :
    St.Dfn P w K mg base x (k + 1) ps (spD K np (Aq (A1 N.length b))) := bY S sc hp hbi fun _ _ _ _ _ _ _ hr => hb hr (MJ hr)
end
theorem deM{X:Cx}{k k' np:Nat}{x:Str}{ps:Gc Str}{f:Fn}{e:oA}{es:Gc oA}{fs:Gc Ev}{p pos:Pos}(d:St.Dfn X.prog X.w X.K X.mg X.base x k ps (spD X.K np f))(hr:Gz k' X.A)(ha:DEs X (e::es) fs)(hk:k<=k':=by first|decide|omega)(hg:Gl X x:=by exact rfl)(hn:fs.length=np:=by rfl)(hdb:(x==("__debug__":Str))=false:=by decide)(he:nk (e::es) X.env=(false,eval e X.env)::nk es X.env:=by rfl)(hpl:(backTo pos (nk es X.env)).any (·.1)=false:=by rfl):DE X (.Call (.Name x p) (e::es) [] pos) (AJ f fs):=a9 d (hr.mono hk) hg ha hn hdb he hpl
end Mi
end
noncomputable section
namespace Mi
open PySem PySem.Spec L2 PyProof.Rows
def BmB(mg:Str->nG Wp)(base:oE):Prop:=
 ∃bm o,mg "__builtins__"=Fk (.ref bm)/\bm≠builtinsNs/\bm≠mainGlobals/\base.get? bm=Fk o/\o.cls=.type "module" /\o.dict=Fk builtinsNs/\o.data=.plain
theorem K0.hd{K:KE}{h:oE}{c P:nI}(k:K0 K c P)(X:K.In h):PySem.W.CodeHd h c P:=by
 obtain⟨o,vs,file,tf,flags,tg,inF,text,tt,h0,r⟩:=k
 exact⟨o,vs,file,tf,flags,tg,inF,text,tt,X _ _ h0,r⟩
theorem Su{pos:Pos}{a b:Int}{v cv:Wp}{l:Gc Wp}(h:yz l)(e:codeAmong pos (l++[rawInt a,rawInt b,v])=Fk cv):codeAmong pos l=Fk cv\/cv=v:=by
 induction l using TriplesOk.induct with
 |case1=>
  rw[oY,rJ]at e
  unfold rawInt at e
  dsimp only at e
  split at e
  .cases e;exact .inr rfl
  .rw[rJ]at e;cases e
 |case2 i t1 j t2 w r ih=>
  rw[wj]at h
  rw[oZ,oZ,oZ,rJ]at e
  rw[rJ]
  dsimp only at e h⊢
  split at e
  .rename_i z;rw[oP z];exact .inl e
  .rename_i z;rw[oU z];exact ih h e
 |case3 l n1 n2=>
  rw[wj]at h
  split at h
  .exact(n1 rfl).elim
  .exact(n2 _ _ _ _ _ _ rfl).elim
  .exact h.elim
structure Qm(X:Cx)(pins:Gc (nI×Obj))(σ:Sg)(H:Hp)(s:nE)(x:Str)(P:nI)(params:tN)(body:oA)(sc:pJ)(clos:Gc (Str×nI))(f:nI)(H':Hp)(s':nE):Prop where
 inv:Inv X pins σ H' s'
 fn:∃pm c' ctv o,s'.heap.get? f=Fk (uw "<lambda>" (MI x) params body sc clos pm c' ctv)/\H' c'=Fk (.frz o (.own 0))/\U9 (MI x) o
 new:s.heap.objs.size<=f
 tab:∃ps,H' P=Fk (.tbl ps)/\TV X.K H' x P ps
 keep:∀b o,H b=Fk o->b≠P->H' b=Fk o
 none:H' f=nD
theorem YO{X:Cx}{pins:Gc (nI×Obj)}{σ:Sg}{H:Hp}{s:nE}{params:tN}{body:oA}{sc:pJ}{pos:Pos}{x:Str}{c P:nI}{ps:pE Wp}{clos:Gc (Str×nI)}{Q:Wp->nE->Prop}{E:Wp->nE->Prop}(I:Inv X pins σ H s)(hqual:X.env.qual=x++(".<locals>.":Str))(hdf:defaultsOf params X.env=([],[]))(hcl:closureFor sc X.env=pure clos)(hcode:X.env.code=.ref c)(hcd:K0 X.K c P)(bm:BmB X.mg X.base)(hP:H P=Fk (.tbl ps))(tok:TV X.K H x P ps)(hQ:∀f H' s',Qm X pins σ H s x P params body sc clos f H' s'->Q (.ref f) s'):wpAny (model X.prog X.w) X.A (eval (.Lambda params body sc pos) X.env) Q E s:=by
 have hG:s.heap.Ns mainGlobals X.mg:=I.mod.glob.keeps I.bk
 have hCH:=hcd.hd I.kIn
 have hT:s.heap.get? P=Fk (sL ps):=I.hok P _ hP
 have hq:X.env.qual++("<lambda>":Str)=MI x:=by rw[hqual];rfl
 obtain⟨b0,ob,m1,m2,m3,m4,m5,m6,m7⟩:=bm
 have nb:b0≠P:=λz=>by
  have:=(I.bs b0 ob m4).2
  rw[z,hP]at this;cases this
 have hB:s.heap.BuiltinsAt X.mg P:=⟨b0,ob,m1,m2,m3,nb,I.bk _ _ m4,m5,m6,m7⟩
 have gP:mainGlobals≠P:=λz=>by
  obtain⟨o,es,ep,ho,_⟩:=id I.mod.glob
  have:=(I.bs _ o ho).2
  rw[z,hP]at this;cases this
 refine PySem.W.kla_eval hdf ?_
 cases hh:codeAmong pos ps.toList with
 |some cv=>
  refine PySem.W.kla_makeFunctionHit hcl I.ok.glob hG hcode hCH hT tok.tri hh hB λctv h' tk kp sz=>?_
  obtain⟨c',o,rfl,hz,vs,t,n1,n2⟩:=tok.cod pos cv hh
  have hcc:s.heap.get? c'=Fk o:=(I.hok c' _ hz).1
  have kp2:∀b u,s.heap.get? b=Fk u->(h'.push {cls:=ua "function",data:=Data.func (sM "<lambda>" (X.env.qual++("<lambda>":Str)) params body sc clos ((X.mg "__name__").getD pN) (.ref c') ctv)}).get? b=Fk u:=λb u e=>W1 _ (kp b u e)
  refine hQ _ H _ ⟨I.kept (t':=tk) kp2,⟨_,c',ctv,o,by rw[<-hq];exact nq _ rfl,hz,vs,t,n1,n2⟩,sz,⟨ps,hP,tok⟩,λ_ _ e _=>e,I.hok.fresh sz⟩
 |none=>
  refine PySem.W.kla_makeFunction hcl I.ok.glob hG hcode hCH hT tok.tri hh gP hB λc' ctv h' tk ext l1 l2 crec ht=>?_
  rw[hq]at crec
  generalize hfo:(uw "<lambda>" (X.env.qual++("<lambda>":Str)) params body sc clos ((X.mg "__name__").getD pN) c' ctv)=fo
  have hfo2:fo=uw "<lambda>" (MI x) params body sc clos ((X.mg "__name__").getD pN) c' ctv:=by rw[<-hfo,hq]
  obtain⟨c1,o,vs,t,ec,ho,hd,hv⟩:=id crec
  cases ec
  have kp:∀b u,b≠P->s.heap.get? b=Fk u->(h'.push fo).get? b=Fk u:=λb u n e=>W1 _ (ext b u n e)
  have nH:H c'=none:=I.hok.fresh l1
  have cP:c'≠P:=λz=>by rw[z,hP]at nH;cases nH
  generalize hmo:ps++ #[rawInt ↑pos.line,rawInt ↑pos.col,pL c']=ps2 at ht
  let H':Hp:=upd (upd H c' (.frz o (.own 0))) P (.tbl ps2)
  have hk:∀b u,H b=Fk u->b≠P->H' b=Fk u:=λb u e n=>by
   show upd (upd H c' (.frz o (.own 0))) P (.tbl ps2) b=Fk u
   rw[Ab n,Ab (λz=>by rw[z,nH]at e;cases e)]
   exact e
  have hc1:H' c'=Fk (.frz o (.own 0)):=by
   show upd (upd H c' (.frz o (.own 0))) P (.tbl ps2) c'=_
   rw[Ab cP,BL]
  have hP':H' P=Fk (.tbl ps2):=BL
  have hn:∀b,b≠P->b≠c'->H b=nD->H' b=none:=λb n1 n2 e=>by
   show upd (upd H c' (.frz o (.own 0))) P (.tbl ps2) b=nD
   rw[Ab n1,Ab n2];exact e
  have pP:(h'.push fo).get? P=Fk (sL ps2):=W1 _ ht
  have po:(h'.push fo).get? c'=Fk o:=W1 _ ho
  have fz:fo.isFreed=false:=by rw[<-hfo];rfl
  have un:Un X.fs [] H H' s.heap (h'.push fo):=by
   refine⟨λb u e n _ _=>kp b u (λz=>?_) e,λb u e n _ _=>⟨u.slots,kp b u (λz=>?_) e⟩,λb u e n _=>hn b (λz=>?_) (λz=>?_) n,λb u e _=>?_,λb xs e=>hk b _ e (λz=>?_),λb u v e=>hk b _ e (λz=>?_),λb qs e=>?_⟩
   .rw[z,hP]at n;cases n
   .rw[z,hP]at n;cases n
   .rw[z,hP]at n;cases n
   .subst z;exact absurd (nQ (nj e) l1) (pT _)
   .by_cases z:b=P
    .subst z;exact⟨_,pP⟩
    .exact⟨u,kp b u z e⟩
   .rw[z,hP]at e;cases e
   .rw[z,hP]at e;cases e
   .by_cases z:b=P
    .subst z
     rw[hP]at e;cases e
     exact⟨_,by rw[hmo];exact hP'⟩
    .exact⟨#[],by rw[Array.append_empty];exact hk b _ e z⟩
  have hok:HOk X.prog X.w H' (h'.push fo):=λa u q=>by
   by_cases z:a=P
   .subst z
    rw[hP']at q;cases q
    exact pP
   .by_cases z2:a=c'
    .subst z2
     rw[hc1]at q;cases q
     exact⟨po,o,po⟩
    .have q0:H a=Fk u:=by
      have:H' a=H a:=by
       show upd (upd H c' (.frz o (.own 0))) P (.tbl ps2) a=_
       rw[Ab z,Ab z2]
      rw[<-this];exact q
     refine(I.hok a u q0).WC (λb v hb e=>kp b v (λzz=>?_) e) (λb e=>hk b _ e (λzz=>?_)) λb xs e=>hk b _ e (λzz=>?_)
     .rcases hb with hb|hb
      .exact z (hb.symm.trans zz)
      .rw[zz,hP]at hb;cases hb
     .rw[zz,hP]at e;cases e
     .rw[zz,hP]at e;cases e
  have sz:s.heap.objs.size<=h'.objs.size:=tH (oq l1 l2)
  have nF:H' h'.objs.size=none:=hn _ (λz=>by rw[<-z]at ht;exact absurd (nj ht) (pT _)) (λz=>by rw[<-z]at l2;exact pT _ l2) (I.hok.fresh sz)
  refine hQ _ H' _ ⟨I.un (t':=tk) un hok,⟨_,c',ctv,o,by rw[<-hfo2];exact nq _ fz,hc1,vs,t,hd,hv⟩,sz,⟨ps2,hP',?_⟩,hk,nF⟩
  refine⟨by rw[<-hmo];simpa using TriplesOk_snoc pos.line pos.col (.ref c') ps.toList tok.tri,tok.tat,λpos' cv e=>?_⟩
  rw[<-hmo]at e
  rcases Su (l:=ps.toList) tok.tri (by simpa using e)with z|z
  .obtain⟨c2,o2,z1,z2,z3⟩:=tok.cod pos' cv z
   exact⟨c2,o2,z1,hk _ _ z2 (λzz=>by rw[zz,hP]at z2;cases z2),z3⟩
  .exact⟨c',o,z,hc1,vs,t,hd,hv⟩
end Mi
end
noncomputable section
namespace Mi
open PySem PySem.Spec L2
section
open PyProof.Rows (Below)
structure NV(H:Hp)(h:oE)(x:Str)(body:oA)(sc:pJ)(clos:Gc (Str×nI))(N:Gc Str)(σc:Sg)(f:nI):Prop where
 fn:∃params pm c' ctv o oc,h.get? f=Fk o/\o.data=.func (sM "<lambda>" (MI x) params body sc clos pm (.ref c') ctv)/\H c'=Fk (.frz oc (.own 0))/\U9 (MI x) oc/\bindArgs (sM "<lambda>" (MI x) params body sc clos pm (.ref c') ctv) ⟨[],[]⟩=pure []
 nof:H f=nD
 cell:∀y c,clos.lookup y=Fk c->(∃v,h.IsCell c v)/\H c=nD
 inj:∀y z c,clos.lookup y=Fk c->clos.lookup z=Fk c->y=z
 has:∀y,(sc.names.lookup y=Fk .cell\/sc.names.lookup y=Fk .free)->∃c,clos.lookup y=Fk c
 val:∀(i:Nat) (y:Str) (v:V),N[i]?=Fk y->σc[i]?=Fk (Fk v)->Vis sc y->sc.names.lookup y=Fk .free/\∃c u,clos.lookup y=Fk c/\h.IsCell c (Fk u)/\RelV v u
 len:σc.length=N.length
 kind:sc.kind=.function
 co:sc.isCoroutine=false
 gen:sc.isGenerator=false
 Nd:∀y∈sc.names,y.2≠.cell
theorem NV.later{H H':Hp}{h h':oE}{x:Str}{body:oA}{sc:pJ}{clos:Gc (Str×nI)}{N:Gc Str}{σc:Sg}{f:nI}{fs:Gc nI}(L:NV H h x body sc clos N σc f)(u:Un fs [] H H' h h'):NV H' h' x body sc clos N σc f:=by
 have cl:∀c v,h.IsCell c v->H c=nD->h'.IsCell c v:=λc v ⟨o,ho,hd⟩ n=>by
  obtain⟨sl,q⟩:=u.any ho n (by simp)
  exact⟨_,q,hd⟩
 obtain⟨params,pm,c',ctv,o,oc,h1,h2,h3,h4,h5⟩:=L.fn
 obtain⟨sl,q⟩:=u.any h1 L.nof (by simp)
 refine⟨⟨params,pm,c',ctv,_,oc,q,h2,u.Va _ _ _ h3,h4,h5⟩,u.free f o h1 L.nof (by simp),λy c e=>?_,L.inj,L.has,λi y v e1 e2 e3=>?_,L.len,L.kind,L.co,L.gen,L.Nd⟩
 .obtain⟨⟨v,z⟩,n⟩:=L.cell y c e
  obtain⟨o',ho',_⟩:=id z
  exact⟨⟨v,cl c v z n⟩,u.free c o' ho' n (by simp)⟩
 .obtain⟨k,c,w,e,z,r⟩:=L.val i y v e1 e2 e3
  exact⟨k,c,w,e,cl c _ z (L.cell y c e).2,r⟩
noncomputable def Nc(P:nv)(w:oM)(K:KE)(mg:Str->nG Wp)(base:oE)(N:Gc Str)(x:Str)(sc:pJ)(clos:Gc (Str×nI))(f c':nI)(A:oN)(outer:Gc p9)(s:nE)(H:Hp):Cx where
 prog:=P
 w:=w
 K:=K
 mg:=mg
 base:=base
 A:=A.deeper (qL (MI x) sc s.heap.objs.size f (.ref c') clos)
 N:=N
 s₀:=s
 H₀:=H
 env:=qL (MI x) sc s.heap.objs.size f (.ref c') clos
 outer:=outer
 stack:=qL (MI x) sc s.heap.objs.size f (.ref c') clos::outer
 ex:=[]
 calm:=true
 fn:=λ_=>false
 pn:=[]
 xe:=λ_ _=>qa
theorem T9{P:nv}{w:oM}{K:KE}{mg:Str->nG Wp}{base:oE}{N:Gc Str}{x:Str}{body:oA}{sc:pJ}{clos:Gc (Str×nI)}{f c':nI}{A:oN}{outer:Gc p9}{s:nE}{H:Hp}{σc:Sg}{h':oE}{tk:Nat}{m:Str->nG Wp}(L:NV H s.heap x body sc clos N σc f)(hd:A.handled=nD)(e0:dg P w K mg base A outer s H)(hns:h'.Ns s.heap.objs.size m)(kp:∀b o,s.heap.get? b=Fk o->h'.get? b=Fk o):Inv (Nc P w K mg base N x sc clos f c' A outer s H) [] σc H {s with heap:=h',toks:=tk}:=by
 have noA:∀b:nI,b∉(Nc P w K mg base N x sc clos f c' A outer s H).ex:=λb z=>absurd (show b∈([]:Gc nI)from z) (by simp)
 have cl:∀c v,s.heap.IsCell c v->h'.IsCell c v:=λc v ⟨o,ho,hd⟩=>⟨o,kp _ _ ho,hd⟩
 refine⟨⟨e0.mod,L.kind,rfl,rfl,nS _,L.inj,L.has,λy c z _=>absurd z (by intro q;cases q),λ_=>hd,vA e0.frames,.inr ⟨rfl,rfl⟩,λb z=>absurd z (noA b),e0.bs,e0.bsz,λb _ _=>noA b,λb z=>absurd z (noA b),e0.R6,e0.frf⟩,
  rfl,e0.bare,Un.kept kp,⟨m,hns,λi y v e1 e2 e3=>?_⟩,λy c e=>?_,e0.hok.fresh (nS _),λy c e=>(L.cell y c e).2,λp hp=>absurd (show p∈([]:Gc (nI×Obj))from hp) (by simp),e0.hok.kept kp,L.len⟩
 .obtain⟨k,c,u,e,z,r⟩:=L.val i y v e1 e2 e3
  exact⟨u,r,.inr ⟨.inr k,c,e,cl c _ z⟩⟩
 .obtain⟨⟨v,z⟩,_⟩:=L.cell y c e
  exact⟨v,cl c v z⟩
theorem aP{X:Cx}{pins:Gc (nI×Obj)}{σ:Sg}{H:Hp}{s:nE}{x:Str}{body:oA}{sc:pJ}{clos:Gc (Str×nI)}{N:Gc Str}{σc:Sg}{f:nI}{k:Nat}{t:TE}{Q:VK}(I:Inv X pins σ H s)(hr:Gz (k+1) X.A)(L:NV H s.heap x body sc clos N σc f)(hb:∀c',Gz k (X.A.deeper (qL (MI x) sc s.heap.objs.size f (.ref c') clos))->PE (Nc X.prog X.w X.K X.mg X.base N x sc clos f c' X.A X.stack s H) body t)(ht:t σc H Q):wpAny (model X.prog X.w) X.A (call (.ref f) []) (EP X pins σ Q) X.xe s:=by
 obtain⟨params,pm,c',ctv,o,oc,h1,h2,h3,h4,h5⟩:=L.fn
 have cr:s.heap.CodeRec (.ref c') (MI x):=by
  obtain⟨vs,t,n1,n2⟩:=h4
  exact⟨c',oc,vs,t,rfl,(I.hok c' _ h3).1,n1,n2⟩
 refine uc (vK hr.depth h1 h2 L.co L.gen rfl cr ?_)
 rw[h5]
 refine ng (vL L.Nd (λ_ z=>nomatch z) (λh' hns sb=>?_) L.kind)
 have kp:∀b ob,s.heap.get? b=Fk ob->h'.get? b=Fk ob:=λb ob e=>by
  rw[sb.2 b (oH (nj e))]
  exact W1 _ e
 have J:=T9 (c':=c') (tk:=s.toks+0) L hr.hd I.bx hns kp
 refine⟨I.nolimit.keeps kp,vM (pW (hb c' (hr.deeper _) [] _ σc H Q J ht) (λu s' z=>?_) λ_ _ z=>z.elim)⟩
 obtain⟨v,H',J',rv,q⟩:=z
 exact I.after ⟨v,H',J'.os,J'.bare,J'.base,J'.hok,rv,q⟩
theorem Xm{X:Cx}{pins:Gc (nI×Obj)}{σ:Sg}{H:Hp}{s:nE}{x:Str}{body:oA}{sc:pJ}{clos:Gc (Str×nI)}{N:Gc Str}{σc:Sg}{f:nI}{k:Nat}{t:TR}{Z:Rk}(I:Inv X pins σ H s)(hr:Gz (k+1) X.A)(L:NV H s.heap x body sc clos N σc f)(hx:X.ex=[])(hb:∀c',Gz k (X.A.deeper (qL (MI x) sc s.heap.objs.size f (.ref c') clos))->PXe (Nc X.prog X.w X.K X.mg X.base N x sc clos f c' X.A X.stack s H) body t)(ht:t σc H λC _ H'=>Z C σ H'):wpAny (model X.prog X.w) X.A (call (.ref f) []) (λ_ _=>qa) (XP X pins Z) s:=by
 obtain⟨params,pm,c',ctv,o,oc,h1,h2,h3,h4,h5⟩:=L.fn
 have cr:s.heap.CodeRec (.ref c') (MI x):=by
  obtain⟨vs,t,n1,n2⟩:=h4
  exact⟨c',oc,vs,t,rfl,(I.hok c' _ h3).1,n1,n2⟩
 refine uc (vK hr.depth h1 h2 L.co L.gen rfl cr ?_)
 rw[h5]
 refine ng (vL L.Nd (λ_ z=>nomatch z) (λh' hns sb=>?_) L.kind)
 have kp:∀b ob,s.heap.get? b=Fk ob->h'.get? b=Fk ob:=λb ob e=>by
  rw[sb.2 b (oH (nj e))]
  exact W1 _ e
 have J:=T9 (c':=c') (tk:=s.toks+0) L hr.hd I.bx hns kp
 refine⟨I.nolimit.keeps kp,vM (pW (hb c' (hr.deeper _) [] _ σc H _ J ht) (λ_ _ z=>z.elim) λev s' z=>?_)⟩
 obtain⟨e,C,σ',H',rfl,J',z,fl⟩:=z
 unfold leaving
 refine nC (Ob J' J'.ok.frames rfl rfl fl (GO J' rfl) λh2 t=>?_)
 have un:=Uy J' rfl rfl rfl t
 have ok2:=Q4 J' t
 have fl2:=t.fly.fly
 show XP X pins Z (.ref e) _
 exact⟨e,C,σ,H',rfl,I.aH J'.os un ok2 J'.bare (λb z=>nomatch z),z,fl2.imp λb z=>.inl (GO I hx b z)⟩
theorem Wd{X:Cx}{x:Str}{body:oA}{sc:pJ}{clos:Gc (Str×nI)}{N:Gc Str}{σc:Sg}{f:nI}{k i:Nat}{t:TE}{y:Str}{p pos:Pos}(hr:Gz (k+1) X.A)(hx:X.ex=[])(L:NV X.H₀ X.s₀.heap x body sc clos N σc f)(hb:∀c' s H,Gz k (X.A.deeper (qL (MI x) sc s.heap.objs.size f (.ref c') clos))->PE (Nc X.prog X.w X.K X.mg X.base N x sc clos f c' X.A X.stack s H) body t)(hN:X.N[i]?=Fk y)(hv:Vis X.env.scope y)(hd:(y==("__debug__":Str))=false:=by decide)(hcd:(y==("__classdict__":Str))=false:=by decide):PE X (.Call (.Name y p) [] [] pos) (λσ H Q=>σ[i]?=Fk (Fk (.ref f))/\t σc H Q):=by
 intro pins s σ H Q I h
 refine pQ (thn (U6 hN hv hd hcd pins s σ H (λv H1=>v=.ref f/\H1=H) I ⟨.ref f,h.1,rfl,rfl⟩) λu s1 z=>?_)
 obtain⟨v,H1,I1,rv,rfl,rfl⟩:=z
 obtain rfl:u=.ref f:=rv
 have un:=I1.base
 rw[hx]at un
 have L1:=L.later un
 obtain⟨params,pm,c',ctv,o,oc,h1,h2,_⟩:=L1.fn
 refine vW ⟨o.cls,o.dict,_,o.slots,by rw[h1];obtain⟨c,d,dt,sl⟩:=o;cases h2;rfl⟩ ?_
 exact aP I1 hr L1 (λc'=>hb c' s1 H1) h.2
theorem XZ{X:Cx}{x:Str}{body:oA}{sc:pJ}{clos:Gc (Str×nI)}{N:Gc Str}{σc:Sg}{f:nI}{k i:Nat}{t:TR}{y:Str}{p pos:Pos}(hr:Gz (k+1) X.A)(hx:X.ex=[])(L:NV X.H₀ X.s₀.heap x body sc clos N σc f)(hb:∀c' s H,Gz k (X.A.deeper (qL (MI x) sc s.heap.objs.size f (.ref c') clos))->PXe (Nc X.prog X.w X.K X.mg X.base N x sc clos f c' X.A X.stack s H) body t)(hN:X.N[i]?=Fk y)(hv:Vis X.env.scope y)(hxe:X.xe=λ_ _=>qa)(hd:(y==("__debug__":Str))=false:=by decide)(hcd:(y==("__classdict__":Str))=false:=by decide):PXe X (.Call (.Name y p) [] [] pos) (λσ H Z=>σ[i]?=Fk (Fk (.ref f))/\t σc H λC _ H'=>Z C σ H'):=by
 intro pins s σ H Z I h
 refine pQ (Ic hxe (U6 hN hv hd hcd pins s σ H (λv H1=>v=.ref f/\H1=H) I ⟨.ref f,h.1,rfl,rfl⟩) λu s1 z=>?_)
 obtain⟨v,H1,I1,rv,rfl,rfl⟩:=z
 obtain rfl:u=.ref f:=rv
 have un:=I1.base
 rw[hx]at un
 have L1:=L.later un
 obtain⟨params,pm,c',ctv,o,oc,h1,h2,_⟩:=L1.fn
 refine vW ⟨o.cls,o.dict,_,o.slots,by rw[h1];obtain⟨c,d,dt,sl⟩:=o;cases h2;rfl⟩ ?_
 exact Xm I1 hr L1 hx (λc'=>hb c' s1 H1) h.2
end
structure Hi(N:Gc Str)(osc:pJ)(N':Gc Str)(HZ:Gc Nat)(sc:pJ):Prop where
 kind:sc.kind=.function
 co:sc.isCoroutine=false
 gen:sc.isGenerator=false
 Nd:∀y∈sc.names,y.2≠.cell
 free:∀y∈sc.names,y.2=.free->osc.names.lookup y.1=Fk .cell
 len:HZ.length=N'.length
 HZ:∀z∈N'.zip HZ,N[z.2]?=Fk z.1/\osc.names.lookup z.1=Fk .cell/\sc.names.lookup z.1=Fk .free
noncomputable def Qt{α:Type}(HZ:Gc Nat)(σ:Gc (nG α)):Gc (nG α):=HZ.map λi=>(σ[i]?).join
theorem SM{α:Type}{HZ:Gc Nat}{σ:Gc (nG α)}{j:Nat}{v:α}(h:(Qt HZ σ)[j]?=Fk (Fk v)):∃i,HZ[j]?=Fk i/\σ[i]?=Fk (Fk v):=by
 unfold Qt at h
 rw[nY]at h
 cases e:HZ[j]? with
 |none=>rw[e]at h;cases h
 |some i=>
  rw[e]at h
  refine⟨i,rfl,?_⟩
  have h':(σ[i]?).join=Fk v:=by simpa using h
  cases e2:σ[i]? with
  |none=>rw[e2]at h';cases h'
  |some o=>rw[e2]at h';simpa using h'
theorem Wk{α:Type}{HZ:Gc Nat}{σ:Gc (nG α)}{i j:Nat}{v:α}(h:HZ[j]?=Fk i)(e:σ[i]?=Fk (Fk v)):(Qt HZ σ)[j]?=Fk (Fk v):=by
 unfold Qt
 rw[nY,h]
 simp[e]
theorem EnR.Qv{K:KE}{M:Ms}{E:En}{σ:Sg}{H:Hp}(r:EnR K M E σ H)(HZ:Gc Nat):EnR K M (Qt HZ E) (Qt HZ σ) H:=⟨by simp[Qt],λj d e=>by
 obtain⟨i,h1,h2⟩:=SM e
 obtain⟨v,h3,h4⟩:=r.val i d h2
 exact⟨v,Wk h1 h3,h4⟩⟩
theorem du{X:Cx}{pins:Gc (nI×Obj)}{σ:Sg}{H H':Hp}{s s':nE}{x:Str}{P f:nI}{params:tN}{body:oA}{sc:pJ}{N':Gc Str}{HZ:Gc Nat}(LS:Hi X.N X.env.scope N' HZ sc)(M:Qm X pins σ H s x P params body sc (GZ X.env.cells sc.names []) f H' s')(hp:∀pm c' ctv,bindArgs (sM "<lambda>" (MI x) params body sc (GZ X.env.cells sc.names []) pm (.ref c') ctv) ⟨[],[]⟩=pure []):NV H' s'.heap x body sc (GZ X.env.cells sc.names []) N' (Qt HZ σ) f:=by
 have I:=M.inv
 have hcl:∀y∈sc.names,y.2=.free->∃a,X.env.cells.lookup y.1=Fk a:=λy hy hf=>I.ok.has y.1 (.inl (LS.free y hy hf))
 have sub:∀{y:Str} {c:nI},(GZ X.env.cells sc.names []).lookup y=Fk c->X.env.cells.lookup y=Fk c:=λ{y c} h=>by
  rcases J9 hcl h with z|z
  .cases z
  .exact z
 obtain⟨pm,c',ctv,o,h1,h2,h3⟩:=M.fn
 refine⟨⟨params,pm,c',ctv,_,o,h1,rfl,h2,h3,hp pm c' ctv⟩,M.none,λy c e=>⟨I.cell y c (sub e),I.Jt y c (sub e)⟩,λy z c e1 e2=>I.ok.inj y z c (sub e1) (sub e2),λy h=>?_,λj y v e1 e2 e3=>?_,by simp[Qt,LS.len],LS.kind,LS.co,LS.gen,LS.Nd⟩
 .rcases h with h|h
  .exact absurd rfl (LS.Nd _ (oS h))
  .exact G6 (.inl (oS h))
 .obtain⟨i,q1,q2⟩:=SM e2
  have hz:(y,i)∈N'.zip HZ:=qZ.mpr ⟨j,by rw[rM];exact⟨e1,q1⟩⟩
  obtain⟨p1,p2,p3⟩:=LS.HZ _ hz
  refine⟨p3,?_⟩
  obtain⟨m,_,hl⟩:=I.loc
  obtain⟨u,ru,lk⟩:=hl i y v p1 q2 (.inr (.inl p2))
  rcases lk with⟨k,_⟩|⟨_,c,ec,ic⟩
  .have:X.env.scope.names.lookup y=Fk .local:=k
   rw[p2]at this;cases this
  .obtain⟨c2,ec2⟩:=G6 (cells:=X.env.cells) (cs:=[]) (.inl (oS p3))
   have:=sub ec2
   rw[ec]at this;cases this
   exact⟨c,u,ec2,ic,ru⟩
theorem aN{X:Cx}{body:Gc oK}{h₀:qK}{hs:Gc qK}{tb:TS}{tr:TR}{g:Str->Ex}{pos:Pos}(hb:PSs X body tb)(hr:PXs X body tr)(hh:HS X (h₀::hs) g)(hxe:X.xe=λ_ _=>qa)(hx:X.ex=[])(hst:X.stack=X.env::X.outer)(hfr:X.env.frame=Fk X.env.locals):PS X (.Try body (h₀::hs) [] [] pos) (λD σ H=>tb D σ H\/∃x,tr σ H λC σ' H'=>X.mg x=Fk (.ref C)/\tX X.K (g x) D σ' H'):=by
 intro pins s σ H D I z
 rcases z with z|⟨x,z⟩
 .refine wk (Ic hxe (hb pins s σ H D I z) λf s1 w=>?_)
  cases f with
  |next=>exact rW w
  |ret u=>exact w
  |brk=>exact w
  |cont=>exact w
 .refine wk (pW (hr pins s σ H _ I z) (λ_ _ z=>z.elim) λev s1 w=>?_)
  obtain⟨ea,C,σ',H',rfl,I',⟨hm,z'⟩,fly⟩:=w
  refine Ob I' I'.ok.frames hst hfr fly (GO I' hx) λh' t=>?_
  have I2:=UL I' hst hfr hx t
  exact pW (hh.pe x C hm pins _ σ' H' D ea I2 t.fly z') (λ_ _ z=>z) λ_ _ z=>z.elim
theorem cQ{X:Cx}{pins:Gc (nI×Obj)}{σ:Sg}{H:Hp}{s:nE}{k:Nat}{f:nI}{fd:qE}{x:Str}{st:oK}{N ps:Gc Str}{us:Gc Wp}{vs:Gc V}{Q:VK}(Fu:Fun X.K x x st f fd)(S:AO N ps (AG st))(Bi:Binds X.K fd ps [])(hr:Gz (k+1) X.A)(I:Inv X pins σ H s)(r:Vals vs us)(hl:vs.length=ps.length)(hbody:∀cdv,Gz k (X.A.deeper (ox x (AG st) s.heap.objs.size f cdv))->∃t,PSs (Ln CX0 X.prog X.w X.K X.mg X.base N x (AG st) f cdv X.A X.stack s H E0).nox (DK st) t/\t {nx:=λ_ H'=>Q .non H',rt:=Q} (L2.start N vs) H):wpAny (model X.prog X.w) X.A (call (.ref f) us) (EP X pins σ Q) X.xe s:=by
 obtain⟨oc,od,kV,doc,pm,an,cdv,ct,osl,rfl,lk,hcd⟩:=Fu.ex
 have hl2:(us++[]).length=ps.length:=by rw[qP,<-r.length];exact hl
 have hb:=Bi s us I.kIn hl2
 rw[qP]at hb
 have lim:=I.nolimit
 have hkind:∀y∈ps.zip us,(AG st).names.lookup y.1=Fk .local\/((AG st).names.lookup y.1=Fk .cell/\((cellsFrom (s.heap.objs.size+1) (AG st).names []).lookup y.1).isSome=true):=λ⟨n,v⟩ hy=>by
  rcases S.par n (pf hy).1 with q|q
  .exact .inl q
  .exact .inr ⟨q,sC _ _ _ (.inl q)⟩
 refine uc (uy hr.depth (I.kIn _ _ lk) rfl S.co S.gen rfl (ve I.kIn hcd) (hb _ _ _ _ ?_))
 refine tT S.kind hkind λenv he s1 x1=>?_
 subst he
 refine⟨lim.keeps x1.toInCall.keep,ym ?_⟩
 obtain⟨t,ht,hq⟩:=hbody cdv (hr.deeper _)
 have J:Inv (Ln CX0 X.prog X.w X.K X.mg X.base N x (AG st) f cdv X.A X.stack s H E0) [] (L2.start N vs) H s1:=Pm S hr.hd I.bx hl r x1
 have J':Inv (Ln CX0 X.prog X.w X.K X.mg X.base N x (AG st) f cdv X.A X.stack s H E0).nox [] (L2.start N vs) H s1:=J.Ti _
 refine pW (ht [] s1 (L2.start N vs) H _ J' hq) (λfl s' hs=>?_) λe s' hs=>hs.elim
 have fin:∀{σ':Sg} {H':Hp} {v:V} {u:Wp},Inv (Ln CX0 X.prog X.w X.K X.mg X.base N x (AG st) f cdv X.A X.stack s H E0).nox [] σ' H' s'->RelV v u->Q v H'->EP X pins σ Q u s':=
  λ{σ' H' v u} J rv q=>I.after ⟨v,H',J.os,J.bare,J.base,J.hok,rv,q⟩
 cases fl with
 |ret u=>
  obtain⟨v,σ',H',J,rv,q⟩:=hs
  exact fin J rv q
 |next=>
  obtain⟨σ',H',J,q⟩:=hs
  exact fin (v:=V.non) (u:=pN) J rfl q
 |brk=>
  obtain⟨_,_,_,q⟩:=hs
  exact pX q
 |cont=>
  obtain⟨_,_,_,q⟩:=hs
  exact pX q
noncomputable def Vd(x:Str):Cl->oQ
 | .tab y=>y==x
 |_=>false
noncomputable def Qf(x:Str)(HZ:Gc Nat)(F:Ev)(R:Rx)(c0:D)(h:Str->Ex):Ev:=λE S=>
 if S.any (Vd x)=true then
  match F (Qt HZ E) S with
  |some q=>Fk (c0,q.2)
  |none=>(R (Qt HZ E) S).bind λq=>(h q.1 [nD] q.2.2).bind λz=>match z.1 with| .ret d=>Fk (d,z.2.2)| .nx=>nD
 else nD
theorem T6{x:Str}:∀{S:Sto},S.any (Vd x)=true->∃n:Nat,S[n]?=Fk (Cl.tab x)
 | [],h=>by cases h
 |c::S,h=>by
  rw[qU,pA]at h
  rcases h with h|h
  .cases c with
   |tab y=>have e:y=x:=eq_of_beq h;exact⟨0,by rw[e];rfl⟩
   |lst ds=>cases h
   |dct ds=>cases h
  .obtain⟨n,e⟩:=T6 h
   exact⟨n+1,e⟩
noncomputable def Pj(p:Str)(np cp ep tp rp:Pos)(h₀:qK)(hs:Gc qK)(ret:oA):Gc oK:=
 [.Try [.Expr (.Call (.Name p np) [] [] cp) ep] (h₀::hs) [] [] tp,.Return (Fk ret) rp]
theorem Xp{X:Cx}{pins:Gc (nI×Obj)}{σ:Sg}{H:Hp}{s:nE}{k:Nat}{fg f:nI}{fd:qE}{g p x:Str}{st:oK}{body ret:oA}{sc:pJ}{clos:Gc (Str×nI)}{N':Gc Str}{σc:Sg}{Q:VK}{np cp ep tp rp:Pos}{h₀:qK}{hs:Gc qK}{hd:Str->Ex}{F:Ev}{R:Rx}{c0:D}(I:Inv X pins σ H s)(Fu:Fun X.K g g st fg fd)(S:AO [p] [p] (AG st))(Bi:Binds X.K fd [p] [])(hr:Gz (k+3) X.A)(L:NV H s.heap x body sc clos N' σc f)(eb:DK st=Pj p np cp ep tp rp h₀ hs ret)(hv:Vis (AG st) p)(hd1:(p==("__debug__":Str))=false)(hd2:(p==("__classdict__":Str))=false)(hb:∀(c':nI) (A:oN) (outer:Gc p9) (s:nE) (H:Hp),Gz k (A.deeper (qL (MI x) sc s.heap.objs.size f (.ref c') clos))->DE (Nc X.prog X.w X.K X.mg X.base N' x sc clos f c' A outer s H) body F)(hx:∀(c':nI) (A:oN) (outer:Gc p9) (s:nE) (H:Hp),Gz k (A.deeper (qL (MI x) sc s.heap.objs.size f (.ref c') clos))->RE (Nc X.prog X.w X.K X.mg X.base N' x sc clos f c' A outer s H) body R)(hh:∀(cdv:Wp) (A:oN) (outer:Gc p9) (s:nE) (H:Hp),HS (Ln CX0 X.prog X.w X.K X.mg X.base [p] g (AG st) fg cdv A outer s H E0).nox (h₀::hs) hd)(hret:∀(cdv:Wp) (A:oN) (outer:Gc p9) (s:nE) (H:Hp),DE (Ln CX0 X.prog X.w X.K X.mg X.base [p] g (AG st) fg cdv A outer s H E0).nox ret (eC c0))(h:∃M E S,EnR X.K M E σc H/\StR X.K M S H/\((∃d S',F E S=Fk (d,S')/\∀v H' M',Gr M H M' H'->StR X.K M' S' H'->Dy X.K M' H' v c0->Q v H')\/∃y E' S' d E2 S2,R E S=Fk (y,E',S')/\hd y [nD] S'=Fk (.ret d,E2,S2)/\∀v H' M',Gr M H M' H'->StR X.K M' S2 H'->Dy X.K M' H' v d->Q v H')):wpAny (model X.prog X.w) X.A (call (.ref fg) [.ref f]) (EP X pins σ Q) X.xe s:=by
 refine cQ (k:=k+2) (vs:=[.ref f]) Fu S Bi hr I (.cons rfl .nil) rfl λcdv hrg=>?_
 have hrl:Gz (k+1) (X.A.deeper (ox g (AG st) s.heap.objs.size fg cdv)):=hrg.mono (by lia)
 let Xg:=(Ln CX0 X.prog X.w X.K X.mg X.base [p] g (AG st) fg cdv X.A X.stack s H E0).nox
 have p1:=Wd (X:=Xg) (t:=tD X.K F) (i:=0) (y:=p) (p:=np) (pos:=cp) hrl rfl L (λc' s H z=>(hb c' Xg.A Xg.stack s H z).pe) rfl hv hd1 hd2
 have p2:=XZ (X:=Xg) (t:=tR X.K X.mg R) (i:=0) (y:=p) (p:=np) (pos:=cp) hrl rfl L (λc' s H z=>(hx c' Xg.A Xg.stack s H z).pe) rfl hv rfl hd1 hd2
 have q1:PSs Xg [.Expr (.Call (.Name p np) [] [] cp) ep] _:=RI (Tv p1 rfl)
 have q0:PX Xg (.Expr (.Call (.Name p np) [] [] cp) ep) (λσ H Z=>σ[0]?=Fk (Fk (.ref f))/\tR X.K X.mg R σc H λC _ H'=>Z C σ H'):=λpins s σ H Z I q=>u7 (pW (p2 pins s σ H Z I q) (λ_ _ z=>z) λ_ _ z=>z) I.quiet rfl
 have q2:PXs Xg [.Expr (.Call (.Name p np) [] [] cp) ep] (λσ H Z=>σ[0]?=Fk (Fk (.ref f))/\tR X.K X.mg R σc H λC _ H'=>Z C σ H'):=λpins s σ H Z I q=>
  qp (pW (q0 pins s σ H Z I q) (λ_ _ z=>pX z) λ_ _ z=>z)
 have q3:=Rg (aN (pos:=tp) q1 q2 (hh cdv X.A X.stack s H) rfl rfl rfl rfl) (RI (AQ (pos:=rp) (hret cdv X.A X.stack s H)).pe)
 refine⟨_,by rw[eb];exact q3,?_⟩
 obtain⟨M,E,S0,r,sr,w⟩:=h
 rcases w with⟨d,S',e,q⟩|⟨y,E',S',d,E2,S2,e,e2,q⟩
 .refine .inl ⟨rfl,M,E,S0,d,S',e,r,sr,λv H' M' gr st' rd=>?_⟩
  refine⟨M',[nD],S',.ret c0,[nD],S',rfl,⟨rfl,λi d e=>by match i,e with|0,e=>cases e⟩,st',λv2 H2 M2 g2 st2 r2=>?_⟩
  exact q v2 H2 M2 (gr.trans g2) st2 r2
 .refine .inr ⟨y,rfl,M,E,S0,y,E',S',e,r,sr,λC σ' H' M' hm gr er st'=>⟨hm,?_⟩⟩
  refine⟨M',[nD],S',.ret d,E2,S2,e2,⟨rfl,λi d e=>by match i,e with|0,e=>cases e⟩,st',λv2 H2 M2 g2 st2 r2=>?_⟩
  exact q v2 H2 M2 (gr.trans g2) st2 r2
theorem dN{X:Cx}{pins:Gc (nI×Obj)}{σ:Sg}{H H':Hp}{s s':nE}{x:Str}{P f:nI}{params:tN}{body:oA}{sc:pJ}{clos:Gc (Str×nI)}{M:Ms}{S:Sto}{n:Nat}(st:StR X.K M S H)(h1:M.cel[n]?=Fk P)(h2:S[n]?=Fk (Cl.tab x))(k:Qm X pins σ H s x P params body sc clos f H' s'):StR X.K M S H'/\Gr M H M H':=by
 have hP:P∈M.cel:=ni h1
 obtain⟨ps,t1,t2⟩:=k.tab
 have g:Gr M H M H':=⟨st.mo,pB,rfl,λ_ z=>.inl z,λa o e na=>k.keep a o e λz=>na (by rw[z];exact hP),λa e=>by
  by_cases z:a=P
  .subst z;rw[t1];intro z;cases z
  .cases q:H a with
   |none=>exact absurd q e
   |some o=>rw[k.keep a o q z];intro z;cases z⟩
 refine⟨⟨λb z=>?_,st.nd,st.nt,st.len,λm b c e1 e2=>?_⟩,g⟩
 .by_cases hb:b=P
  .subst hb;exact .inr (.inr ⟨ps,t1⟩)
  .exact(st.mo b z).imp (λ⟨xs,e⟩=>⟨xs,k.keep _ _ e hb⟩) (Or.imp (λ⟨xs,e⟩=>⟨xs,k.keep _ _ e hb⟩) λ⟨xs,e⟩=>⟨xs,k.keep _ _ e hb⟩)
 .by_cases hb:b=P
  .subst hb
   have hm:n=m:=(sH (nP.mp h1).1 st.nd).mp (h1.trans e1.symm)
   subst hm
   rw[h2]at e2;cases e2
   exact⟨ps,t1,t2⟩
  .have q:=st.cell m b c e1 e2
   cases c with
   |lst ds=>obtain⟨xs,e,rr⟩:=q;exact⟨xs,k.keep _ _ e hb,rr.step g.st⟩
   |dct ds=>obtain⟨xs,e,rr⟩:=q;exact⟨xs,k.keep _ _ e hb,rr.step g.st⟩
   |tab ds=>obtain⟨xs,e,rr⟩:=q;exact⟨xs,k.keep _ _ e hb,rr.step g.st⟩
def ZH(X:Cx)(x:Str):Prop:=∀P,TabAt X.K x P->X.K.In X.base->X.base.Ns mainGlobals X.mg->∃c,X.env.code=.ref c/\K0 X.K c P
theorem Rt{X:Cx}{k:Nat}{g p x:Str}{st:oK}{body ret:oA}{sc:pJ}{params:tN}{N':Gc Str}{HZ:Gc Nat}{gp pl pos np cp ep tp rp:Pos}{h₀:qK}{hs:Gc qK}{hd:Str->Ex}{F:Ev}{R:Rx}{c0:D}(G:St.Src X.K X.mg g st)(S:AO [p] [p] (AG st))(LS:Hi X.N X.env.scope N' HZ sc)(ci:ZH X x)(bm:BmB X.mg X.base)(hr:Gz (k+3) X.A)(hg:Gl X g)(hb:∀(f c':nI) (clos:Gc (Str×nI)) (A:oN) (outer:Gc p9) (s:nE) (H:Hp),Gz k (A.deeper (qL (MI x) sc s.heap.objs.size f (.ref c') clos))->DE (Nc X.prog X.w X.K X.mg X.base N' x sc clos f c' A outer s H) body F)(hx:∀(f c':nI) (clos:Gc (Str×nI)) (A:oN) (outer:Gc p9) (s:nE) (H:Hp),Gz k (A.deeper (qL (MI x) sc s.heap.objs.size f (.ref c') clos))->RE (Nc X.prog X.w X.K X.mg X.base N' x sc clos f c' A outer s H) body R)(hh:∀(fg:nI) (cdv:Wp) (A:oN) (outer:Gc p9) (s:nE) (H:Hp),HS (Ln CX0 X.prog X.w X.K X.mg X.base [p] g (AG st) fg cdv A outer s H E0).nox (h₀::hs) hd)(hret:∀(fg:nI) (cdv:Wp) (A:oN) (outer:Gc p9) (s:nE) (H:Hp),DE (Ln CX0 X.prog X.w X.K X.mg X.base [p] g (AG st) fg cdv A outer s H E0).nox ret (eC c0))(eb:DK st=Pj p np cp ep tp rp h₀ hs ret:=by rfl)(hv:Vis (AG st) p:=by first|exact xZ rfl|exact xf (xZ rfl))(hqual:X.env.qual=x++(".<locals>.":Str):=by rfl)(hdf:defaultsOf params X.env=([],[]):=by rfl)(hp:∀clos pm c' ctv,bindArgs (sM "<lambda>" (MI x) params body sc clos pm (.ref c') ctv) ⟨[],[]⟩=pure []:=by intro _ _ _ _;rfl)(hbi:∀f fd,Fun X.K g g st f fd->Binds X.K fd [p] []:=by exact λf fd F=>F.binds λ_ _ _ _ _ _ us hl=>by obtain⟨_,rfl⟩:=Qz hl;rfl)(hdb:(g==("__debug__":Str))=false:=by decide)(hd1:(p==("__debug__":Str))=false:=by decide)(hd2:(p==("__classdict__":Str))=false:=by decide)(he:nk [Expr.Lambda params body sc pl] X.env=[(false,eval (.Lambda params body sc pl) X.env)]:=by rfl):DE X (.Call (.Name g gp) [.Lambda params body sc pl] [] pos) (Qf x HZ F R c0 hd):=⟨by
 intro pins s σ H Q I h
 obtain⟨M,E,S0,d,S',e,r,sr,q⟩:=h
 unfold Qf at e
 split at e
 case isFalse=>cases e
 rename_i hany
 obtain⟨n,hn⟩:=T6 hany
 obtain⟨P,hc,ps,hP,tok⟩:=sr.at hn
 obtain⟨c,hcode,hcd⟩:=ci P tok.tat I.ok.mod.kin I.ok.mod.glob
 obtain⟨fg,fd,Fu,hm⟩:=G.ex
 have hcl:∀y∈sc.names,y.2=.free->∃a,X.env.cells.lookup y.1=Fk a:=λy hy hf=>I.ok.has y.1 (.inl (LS.free y hy hf))
 refine pQ (NB I hg hm ?_ hdb)
 refine tQ (h₀:=X.base) I.ok.mod.kin Fu.kp ?_ he rfl
 rw[he]
 show wpAny _ _ (spliced ((false,eval (.Lambda params body sc pl) X.env)::backTo pos [])) _ _ s
 refine sA (YO I hqual hdf (PC hcl) hcode hcd bm hP tok λf H' s1 mk=>?_)
 refine sR ⟨mk.inv.kIn,?_⟩
 obtain⟨sr1,g1⟩:=dN sr hc hn mk
 have L:=du LS mk λpm c' ctv=>hp _ pm c' ctv
 refine Xp mk.inv Fu S (hbi _ _ Fu) hr L eb hv hd1 hd2 (λc'=>hb f c' _) (λc'=>hx f c' _) (hh fg) (hret fg) ⟨M,Qt HZ E,S0,(r.step g1.st).Qv HZ,sr1,?_⟩
 split at e
 .rename_i w ew
  cases e
  exact .inl ⟨w.1,w.2,ew,λv H2 M2 g2 st2 rd=>q v H2 M2 (g1.trans g2) st2 rd⟩
 .obtain⟨⟨y,E',S1⟩,e1,e⟩:=BA e
  obtain⟨⟨fl,E2,S2⟩,e2,e⟩:=BA e
  cases fl with
  |nx=>cases e
  |ret w=>
   cases e
   exact .inr ⟨y,E',S1,_,E2,S2,e1,e2,λv H2 M2 g2 st2 rd=>q v H2 M2 (g1.trans g2) st2 rd⟩⟩
section
variable{P:nv}{w:oM}{K:KE}{mg:Str->nG Wp}{base:oE}
theorem fnL{x:Str}{st:oK}{f:nI}{fd:qE}{N ps:Gc Str}{k np:Nat}{b:Ex}(Fu:Fun K x x st f fd)(hm:mg x=Fk (.ref f))(S:AO N ps (AG st))(hp:ps.length=np)(hb:∀{cdv:Wp} {A:oN} {outer:Gc p9} {s:nE} {H:Hp} {E:XK},ZH (Ln CX0 P w K mg base N x (AG st) f cdv A outer s H E).nox x->Gz k (A.deeper (ox x (AG st) s.heap.objs.size f cdv))->(A.deeper (ox x (AG st) s.heap.objs.size f cdv)).units+100<cLine->DSs (Ln CX0 P w K mg base N x (AG st) f cdv A outer s H E).nox (DK st) b):Rq P w K mg base CX0 (k+1) f fd ps (spD K np (Aq (A1 N.length b))):=by
 rw[Jh]
 obtain⟨oc,od,kV,doc,pm,an,cdv,ct,osl,rfl,lk,hcd⟩:=Fu.ex
 refine ZW lk hcd S (λvs H Q E h=>?_) (λA outer s H vs Q E hr h=>?_)
 .obtain⟨M,ds,S0,d,S',hl,_,r,_⟩:=h
  have:=r.length
  lia
 .obtain⟨M,ds,S0,d,S',hl,e,r,st,q⟩:=h
  have hlen:=r.length
  refine⟨_,(hb (cdv:=cdv) (A:=A) (outer:=outer) (s:=s) (H:=H) (E:=E) (λP0 ta kin glob=>?_) hr (MJ hr)).pe.nox,?_⟩
  .obtain⟨f0,oc0,od0,fd0,osl0,c,t1,t2,t3,t4⟩:=ta
   have:=rT kin glob t1
   have e0:Fk (pL f0)=Fk (pL f):=this.symm.trans hm
   cases e0
   have t2':K.lookup f=_:=t2
   rw[lk]at t2'
   cases t2'
   exact⟨c,t3,t4⟩
  obtain⟨⟨fl,E',S1⟩,e1,e⟩:=Ky e
  cases e
  refine⟨M,_,S0,fl,E',S1,e1,?_,st,?_⟩
  .rw[show L2.start N vs=vs.map Fk++nh (N.length-ds.length) nD from by unfold L2.start;rw[hlen]]
   exact .args r _
  .cases fl with
   |nx=>exact λσ' H' M' g _ st'=>q _ _ M' g st' .non
   |ret d=>exact λv H' M' g st' r'=>q _ _ M' g st' r'
end
end Mi
end
noncomputable section
namespace Mi
open PySem PySem.Spec L2 PyProof.Rows
theorem RJ{K:KE}{h:oE}{c P:nI}(k:K0 K c P)(X:K.In h):isCodeTable h P:=by
 obtain⟨o,vs,file,tf,flags,tg,inF,text,tt,h0,h1,h2,h3,_⟩:=k
 exact⟨c,o,vs,X _ _ h0,h1,h2,h3⟩
noncomputable def SW(T:Gc (Str×nI)):Sto:=T.map λz=>Cl.tab z.1
theorem UK{P:nv}{w:oM}{K:KE}{mg mb:Str->nG Wp}{k:Nat}{fa a:nI}{fd:qE}{x:Str}{Fn0:Fn}{s₁:nE}{vs:Gc Wp}{ns:Gc Int}{T:Gc (Str×nI)}(KX:K.In s₁.heap)(hns:s₁.heap.Ns mainGlobals mg)(hb:s₁.heap.Ns builtinsNs mb)(hbb:∀x:Str,x≠ "__name__"->mb x=bootBuiltins x)(hlim:s₁.heap.NoLimit)(hg:s₁.gens= #[])(ha:s₁.heap.get? a=Fk {cls:=.type "list",data:=.seq vs.toArray})(hi:rS vs ns)(hl:ns.length<=sizeLine)(hr:Gz k callerA)(hT:∀z∈T,TabAt K z.1 z.2/\K.lookup z.2=nD/\s₁.heap.get? z.2=Fk (sL #[]))(nd:(T.map (·.2)).Nodup)(bmn:∃bm ob,mg "__builtins__"=Fk (.ref bm)/\bm≠builtinsNs/\s₁.heap.get? bm=Fk ob/\ob.cls=.type "module" /\ob.dict=Fk builtinsNs/\ob.data=.plain)(F:∀base:oE,K.In base->base.Ns mainGlobals mg->BmB mg base->Rq P w K mg base CX0 k fa fd [x] (spD K 1 Fn0))(hbind:∀(s:nE) (u:Wp),xJ s fd ⟨[u],[]⟩ [(x,u)])(hlaw:∃S,Fn0 [.scr ns] (SW T)=Fk (.bl true,S)):codeAny (model P w) callerA (.call (.ref fa) ⟨[.ref a],[]⟩) (λr s'=>r=.ok (.ret (.bool true))/\OldK s₁.heap s'.heap/\s'.os=s₁.os/\rf s'.gens) s₁:=by
 have rv:=Pg hi
 have lenV:=hi.length
 have aT:∀z∈T,z.2≠a:=λz hz e=>by
  have:=(hT z hz).2.2
  rw[e,ha]at this;cases this
 have core:∀H:Hp,SqL K H a (ns.map V.int)->HOk P w H s₁.heap->(∀b,H b≠nD->b=a\/∃z∈T,z.2=b)->(∀b,H b≠nD->K.lookup b=nD)->(∀z∈T,H z.2=Fk (.tbl #[]))->(H a=nD\/∃o xs,H a=Fk (.frz o (.lst xs)))->
   codeAny (model P w) callerA (.call (.ref fa) ⟨[.ref a],[]⟩) (λr s'=>r=.ok (.ret (.bool true))/\OldK s₁.heap s'.heap/\s'.os=s₁.os/\rf s'.gens) s₁:=by
  intro H hS hok hA hK hTb hF
  have base_of:∀{b:nI} {o:Obj},s₁.heap.get? b=Fk o->H b=nD->(WB s₁.heap H).get? b=Fk o:=λe n=>X2 e n
  have noA:∀{b:nI} {o:Obj},s₁.heap.get? b=Fk o->(∀x n,o.data≠.seq x n)->(∀x,o.data≠.fields x)->H b=none:=λ{b o} e d1 d2=>by
   cases q:H b with
   |none=>rfl
   |some u=>
    rcases hA b (by rw[q];simp)with z|⟨z,hz,z2⟩
    .subst z
     rw[ha]at e;cases e
     exact absurd rfl (d1 _ _)
    .subst z2
     rw[(hT z hz).2.2]at e;cases e
     exact absurd rfl (d2 _)
  have nsK:∀{b:nI} {m:Str->nG Wp},s₁.heap.Ns b m->(WB s₁.heap H).Ns b m:=λ{b m} ⟨o,es,ep,e,d,r⟩=>⟨o,es,ep,base_of e (noA e (λ_ _ z=>by rw[d]at z;cases z) λ_ z=>by rw[d]at z;cases z),d,r⟩
  have hKb:K.In (WB s₁.heap H):=λb o e=>base_of (KX b o e) (by
   cases q:H b with
   |none=>rfl
   |some u=>rw[hK b (by rw[q];simp)]at e;cases e)
  have hM:Mod K mg (WB s₁.heap H):=⟨hKb,nsK hns,⟨mb,nsK hb,hbb⟩,let⟨mc,h1,h2⟩:=hlim;⟨mc,nsK h1,h2⟩⟩
  have e0:dg P w K mg (WB s₁.heap H) callerA [] s₁ H:=⟨rfl,hM,λb o e=>Zn e,Nat.le_of_eq (T5 _ _),trivial,λb hb=>absurd (show b∈([]:Gc nI)from hb) (by simp),hok,.of_eq hg⟩
  have hbm:BmB mg (WB s₁.heap H):=by
   obtain⟨bm,ob,m1,m2,m3,m4,m5,m6⟩:=bmn
   refine⟨bm,ob,m1,m2,λz=>?_,base_of m3 (noA m3 (λ_ _ z=>by rw[m6]at z;cases z) λ_ z=>by rw[m6]at z;cases z),m4,m5,m6⟩
   obtain⟨o,es,ep,e,d,_⟩:=hns
   rw[z,e]at m3;cases m3
   rw[d]at m6;cases m6
  obtain⟨S',hS'⟩:=hlaw
  have nm:¬Ms.mem ⟨T.map (·.2),[]⟩ a:=λz=>by
   rcases z with z|z
   .obtain⟨q,hq,e⟩:=oj.mp z
    exact aT q hq e
   .cases z
  have st:StR K ⟨T.map (·.2),[]⟩ (SW T) H:=by
   refine⟨λb z=>?_,nd,λb z=>(nomatch z),by simp[SW],λn b c e1 e2=>?_⟩
   .rcases z with z|z
    .obtain⟨q,hq,e⟩:=oj.mp z
     subst e
     exact .inr (.inr ⟨_,hTb q hq⟩)
    .cases z
   .have e1':(T.map (·.2))[n]?=Fk b:=e1
    have e2':(T.map λz=>Cl.tab z.1)[n]?=Fk c:=e2
    rw[nY]at e1' e2'
    cases q:T[n]? with
    |none=>rw[q]at e1';cases e1'
    |some z=>
     rw[q]at e1' e2'
     cases e1';cases e2'
     have hz:=ni q
     exact⟨#[],hTb z hz,trivial,(hT z hz).1,λpos cv e=>by rw[rJ]at e;cases e⟩
  refine ue ((F _ hKb (nsK hns) hbm).run callerA [] s₁ H ⟨[.ref a],[]⟩ [.ref a] [.ref a] (λv _=>v=.bl true) (λ_ _ _=>qa) hr e0 (hbind s₁ (.ref a)) (.cons rfl .nil) ⟨⟨T.map (·.2),[]⟩,[.scr ns],SW T,_,S',rfl,hS',.cons (.scr ?_) .nil,st,λv H' M' g st' r'=>by cases r';rfl⟩) λr s' h=>?_
  .rcases hS with z|z
   .exact .inl ⟨z,nm⟩
   .exact .inr z
  cases r with
  |error e=>exact pX h
  |ok fl=>
   cases fl with
   |next=>exact pX h
   |brk=>exact pX h
   |cont=>exact pX h
   |ret u=>
    obtain⟨v,H',os,bare,un,hok',r',q⟩:=h
    have q':v=.bl true:=q
    subst q'
    obtain rfl:u=vb true:=r'
    refine⟨rfl,⟨λb o e=>?_,λb o e=>un.there b o e (by simp)⟩,os,bare⟩
    cases q:H b with
    |none=>exact .inl (un.keep b o e q (by intro z;exact absurd (show b∈([]:Gc nI)from z) (by simp)) (by simp))
    |some u=>
     rcases hA b (by rw[q];simp)with z|⟨z,hz,z2⟩
     .subst z
      rcases hF with z|⟨ob,xs,z⟩
      .rw[q]at z;cases z
      .have z2:=un.Va b ob _ z
       obtain⟨e1,_⟩:=hok b _ z
       obtain⟨e2,_⟩:=hok' b _ z2
       rw[e]at e1;cases e1
       exact .inl e2
     .subst z2
      obtain⟨t1,t2,t3⟩:=hT z hz
      rw[t3]at e;cases e
      obtain⟨more,em⟩:=un.V4 _ _ (hTb z hz)
      have e2:s'.heap.get? z.2=Fk (sL (#[]++more)):=hok' _ _ em
      obtain⟨_,_,_,_,_,c,_,_,_,hc⟩:=t1
      exact .inr (.inl ⟨RJ hc KX,rfl, #[],more,rfl,e2⟩)
 cases hk:K.lookup a with
 |some o=>
  have e:=KX a o hk
  rw[ha]at e
  cases e
  refine core (λb=>if∃z∈T,z.2=b then Fk (.tbl #[])else nD) (.inr ⟨_,vs.toArray,_,hk,rfl,rfl,rfl,by rw[nX,lenV];exact hl,by simpa using rv⟩) (λb u z=>?_) (λb z=>?_) (λb z=>?_) (λz hz=>oP ⟨z,hz,rfl⟩) (.inl (oU λ⟨z,hz,e⟩=>aT z hz e))
  .by_cases hb:∃z∈T,z.2=b
   .have z':=(oP hb).symm.trans z
    cases z'
    obtain⟨y,hy,rfl⟩:=hb
    exact(hT y hy).2.2
   .have z':=(oU hb).symm.trans z
    cases z'
  .by_cases hb:∃z∈T,z.2=b
   .exact .inr hb
   .exact absurd (oU hb) z
  .by_cases hb:∃z∈T,z.2=b
   .obtain⟨y,hy,rfl⟩:=hb;exact(hT y hy).2.1
   .exact absurd (oU hb) z
 |none=>
  refine core (λb=>if b=a then Fk (.frz {cls:=.type "list",data:=.seq vs.toArray} (.lst (ns.map V.int)))else if∃z∈T,z.2=b then Fk (.tbl #[])else nD) (.inl (.inr ⟨{cls:=.type "list",data:=.seq vs.toArray},oP rfl⟩)) (λb u z=>?_) (λb z=>?_) (λb z=>?_) (λz hz=>(oU (aT z hz)).trans (oP ⟨z,hz,rfl⟩)) (.inr ⟨_,_,oP rfl⟩)
  .by_cases hb:b=a
   .have z':=(oP hb).symm.trans z
    cases z'
    subst hb
    exact⟨ha,by rw[oa];exact hl,vs,_,rv,ha⟩
   .have z':=(oU hb).symm.trans z
    by_cases hc:∃z∈T,z.2=b
    .have z'':=(oP hc).symm.trans z'
     cases z''
     obtain⟨y,hy,rfl⟩:=hc
     exact(hT y hy).2.2
    .have z'':=(oU hc).symm.trans z'
     cases z''
  .by_cases hb:b=a
   .exact .inl hb
   .by_cases hc:∃z∈T,z.2=b
    .exact .inr hc
    .exact absurd ((oU hb).trans (oU hc)) z
  .by_cases hb:b=a
   .rw[hb];exact hk
   .by_cases hc:∃z∈T,z.2=b
    .obtain⟨y,hy,rfl⟩:=hc;exact(hT y hy).2.1
    .exact absurd ((oU hb).trans (oU hc)) z
theorem jt{l:uY}{q:nv}{loose:Gc Str}{XP:(Str->nG Wp)->oE->Prop}{YP:oM->oE->Prop}{d:DefRec}{K:yr->KE}{x:Str}{k:Nat}{Fn0:Fn}(T:Gc (Str×nI))(hn:l.most=Fk 63)(hdf:d.params.defaults=[])(hr:Gz k callerA)(hY:∀(w:oM) (h:oE),YP w h->(K w.params).In h/\∀z∈T,h.get? z.2=Fk (sL #[]))(nd:(T.map (·.2)).Nodup)(F:∀(w:oM) (mg:Str->nG Wp) (fa:nI) (h:oE),(K w.params).In h->h.Ns mainGlobals mg->mg d.name=Fk (.ref fa)->(∀z∈T,TabAt (K w.params) z.1 z.2/\(K w.params).lookup z.2=nD)/\∃fd:qE,(∀(s:nE) (u:Wp),xJ s fd ⟨[u],[]⟩ [(x,u)])/\∀base:oE,(K w.params).In base->base.Ns mainGlobals mg->BmB mg base->Rq l.prog w (K w.params) mg base CX0 k fa fd [x] (spD (K w.params) 1 Fn0))(hlaw:∀ns:Gc Int,ns.length<=63->∃S,Fn0 [.scr ns] (SW T)=Fk (.bl true,S)):xK q loose XP YP l.row.toRowW d [] (λf vs=>xU f vs):=by
 refine Att.attach_call hn hdf λw s₀ s₁ mg mb fa o pm cd doc a vs ns G Y ho hd hcd hmg hobj hints hlen hg=>?_
 obtain⟨KX,Y2⟩:=hY w _ Y
 obtain⟨hT,fd,hb,hF⟩:=F w mg fa _ KX G.T.g hmg
 exact UK KX G.T.g G.T.b G.T.builtins G.T.nolimit hg hobj hints (nR hlen (by decide)) hr (λz hz=>⟨(hT z hz).1,(hT z hz).2,Y2 z hz⟩) nd G.T.bmain hF hb (hlaw ns hlen)
end Mi
end
noncomputable section
namespace Mi
open PySem PySem.Spec L2
noncomputable def laE:Nat->oA->Gc pJ
 |0,_=>[]
 |n+1,.Lambda _ _ s _=>[s]
 |n+1,.BoolOp _ vs _=>vs.flatMap (laE n)
 |n+1,.Call f as _ _=>laE n f++as.flatMap (laE n)
 |n+1,.UnaryOp _ a _=>laE n a
 |n+1,.Compare a _ cs _=>laE n a++cs.flatMap (laE n)
 |n+1,.Tuple es _ _=>es.flatMap (laE n)
 |n+1,.List es _=>es.flatMap (laE n)
 |_,_=>[]
noncomputable def laS:Nat->oK->Gc pJ
 |0,_=>[]
 |n+1,.Return (Fk e) _=>laE 30 e
 |n+1,.Assign ts e _=>laE 30 e
 |n+1,.Expr e _=>laE 30 e
 |n+1,.If t a b _=>laE 30 t++a.flatMap (laS n)++b.flatMap (laS n)
 |n+1,.For _ it a b _=>laE 30 it++a.flatMap (laS n)++b.flatMap (laS n)
 |n+1,.While t a b _=>laE 30 t++a.flatMap (laS n)++b.flatMap (laS n)
 |_,_=>[]
noncomputable def fQ(st:oK)(k:Nat):pJ:=((DK st).flatMap (laS 20)).getD k (AG st)
theorem lsM{N:Gc Str}{osc:pJ}{N':Gc Str}{HZ:Gc Nat}{sc:pJ}(a:sc.kind=.function:=by rfl)(b:sc.isCoroutine=false:=by rfl)(c:sc.isGenerator=false:=by rfl)(d:∀y∈sc.names,y.2≠.cell:=by decide+kernel)(e:∀y∈sc.names,y.2=.free->osc.names.lookup y.1=Fk .cell:=by decide+kernel)(f:HZ.length=N'.length:=by rfl)(g:∀z∈N'.zip HZ,N[z.2]?=Fk z.1/\osc.names.lookup z.1=Fk .cell/\sc.names.lookup z.1=Fk .free:=by decide+kernel):Hi N osc N' HZ sc:=⟨a,b,c,d,e,f,g⟩
section
open PyProof.Rows (boot_isinstance boot_int boot_bool boot_tuple boot_str boot_list boot_abs boot_all boot_any boot_sum boot_max boot_min boot_range boot_enumerate boot_zip boot_sorted boot_set boot_divmod)
noncomputable def Ef:D:=.tup [.int 0,.int 1]
noncomputable def Ui:D:=.tup [.int 1,.int 1]
noncomputable def Dl:D:=.tup [.str "bring",.str "pool",.str "swap",.str "trade"]
def Iz:Ex:=(BQ (Lu (eOp (o2 X0) [eV 0,eC (.ty "int")]) (Sl (eOp (o2 X0) [eV 0,eC (.ty "bool")]))))
def FZ:Fn:=Aq (A1 1 Iz)
def Jc:Ex:=(BQ (Lu (AJ FZ [eV 0]) (eOp (o2 wGe) [eV 0,eV 1])))
def GW:Fn:=Aq (A1 2 Jc)
def Fx:Ex:=(BQ (Lu (AJ GW [eV 0,eV 1]) (eOp (o2 wLe) [eV 0,eV 2])))
def DX:Fn:=Aq (A1 3 Fx)
def Fw:Ex:=(Ae (Sn 0 1 (eOp (o1 bU) [eV 0]) (eOp (o1 bU) [eV 1]))
    (Ae (QR (TK 1) (eOp (o2 wNe) [eV 1,eI 0]) (Sn 0 1 (eV 1) (eOp (o2 Qc) [eV 0,eV 1])))
    (BQ (eV 0))))
def CD:Fn:=Aq (A1 2 Fw)
def N6:Ex:=(Ae (CA 2 (AJ CD [eV 0,eV 1]))
    (BQ (EM [eOp (o2 OX) [eV 0,eV 2],eOp (o2 OX) [eV 1,eV 2]])))
def Dc:Fn:=Aq (A1 3 N6)
def RZ:Ex:=(BQ (AJ Dc [eOp (o2 EE) [eOp (o2 CY) [eIx (eV 0) (eI 0),eIx (eV 1) (eI 1)],eOp (o2 CY) [eIx (eV 1) (eI 0),eIx (eV 0) (eI 1)]],eOp (o2 CY) [eIx (eV 0) (eI 1),eIx (eV 1) (eI 1)]]))
def Hw:Fn:=Aq (A1 2 RZ)
def RY:Ex:=(BQ (AJ Dc [eOp (o2 QS) [eOp (o2 CY) [eIx (eV 0) (eI 0),eIx (eV 1) (eI 1)],eOp (o2 CY) [eIx (eV 1) (eI 0),eIx (eV 0) (eI 1)]],eOp (o2 CY) [eIx (eV 0) (eI 1),eIx (eV 1) (eI 1)]]))
def Hk:Fn:=Aq (A1 2 RY)
def Pb:Ex:=(BQ (AJ Dc [eOp (o2 CY) [eIx (eV 0) (eI 0),eIx (eV 1) (eI 0)],eOp (o2 CY) [eIx (eV 0) (eI 1),eIx (eV 1) (eI 1)]]))
def GU:Fn:=Aq (A1 2 Pb)
def Pf:Ex:=(Ae (CA 4 (eOp (o2 EE) [eOp (o2 CY) [eOp (o2 CY) [eIx (eV 0) (eI 0),eIx (eV 2) (eI 1)],eV 1],eOp (o2 CY) [eOp (o2 CY) [eIx (eV 2) (eI 0),eIx (eV 0) (eI 1)],eV 3]]))
    (BQ (AJ Dc [eV 4,eOp (o2 CY) [eOp (o2 CY) [eIx (eV 0) (eI 1),eIx (eV 2) (eI 1)],eOp (o2 EE) [eV 1,eV 3]]])))
def Iq:Fn:=Aq (A1 5 Pf)
def JU:Ex:=(BQ (Lu (eOp (o2 wLt) [eV 1,eOp (o1 Lf) [eV 0]]) (eOp (o2 wGe) [eIx (eIx (eV 0) (eV 1)) (eI 1),eV 2])))
def CB:Fn:=Aq (A1 3 JU)
def LH:Ex:=(BQ (Lu (AJ CB [eV 0,eV 1,eI 1]) (Lu (AJ CB [eV 0,eV 2,eI 1]) (eOp (o2 wEq) [eIx (eIx (eV 0) (eV 1)) (eI 0),eIx (eIx (eV 0) (eV 2)) (eI 0)]))))
def Gi:Fn:=Aq (A1 3 LH)
def K6:Ex:=(BQ (Lu (AJ CB [eV 0,eV 1,eV 2]) (eOp (o2 wNe) [eIx (eIx (eV 0) (eV 1)) (eI 0),eV 3])))
def Fe:Fn:=Aq (A1 4 K6)
def Dz:Ex:=(Ae (CA 3 (eIx (eV 2) (eI 0)))
    (Ae (xIf (eOp (o2 wEq) [eV 3,eC (.str "pool")]) (BQ (AJ Gi [eV 0,eIx (eV 2) (eI 1),eIx (eV 2) (eI 2)])) Et)
    (Ae (xIf (eOp (o2 wEq) [eV 3,eC (.str "swap")]) (BQ (AJ Fe [eV 0,eIx (eV 2) (eI 1),eIx (eV 2) (eI 2),eIx (eV 2) (eI 3)])) Et)
    (Ae (xIf (eOp (o2 wEq) [eV 3,eC (.str "trade")]) (Ae (CA 4 (EF [] 1 (Lx (eV 1)) (tNm 0) (eOp (o2 wEq) [eIx (eV 0) (eI 0),eC (.str "trade")]) (eIx (eV 0) (eI 1))))
    (BQ (Lu (eOp (o2 (wIn true)) [eIx (eV 2) (eI 1),eV 4]) (AJ Fe [eV 0,eIx (eV 2) (eI 2),eIx (eV 2) (eI 3),eIx (eV 2) (eI 4)])))) Et)
    (Ae (xIf (eOp (o2 (wIn false)) [eV 3,EM [eC (.str "spoil"),eC (.str "throw")]]) (BQ (AJ CB [eV 0,eIx (eV 2) (eI 1),eIx (eV 2) (eI 2)])) Et)
    (BQ (eC (.bl true))))))))
def CU:Fn:=Aq (A1 5 Dz)
def IK:Ex:=(Ae (PV (tTp [tNm 3,tNm 4]) (eIx (eV 0) (eV 1)))
    (BQ (eOp (o2 EE) [eOp (o2 EE) [eOp (NK false true) [eV 0,eV 1],JJ [EM [eV 3,eOp (o2 QS) [eV 4,eV 2]]]],eOp (NK true false) [eV 0,eOp (o2 EE) [eV 1,eI 1]]])))
def Bo:Fn:=Aq (A1 5 IK)
def Bc:Ex:=(Ae (CA 2 (eIx (eV 1) (eI 0)))
    (Ae (xIf (eOp (o2 wEq) [eV 2,eC (.str "bring")]) (BQ (eOp (o2 EE) [eV 0,JJ [EM [eIx (eV 1) (eI 2),eIx (eV 1) (eI 3)]]])) Et)
    (Ae (xIf (eOp (o2 wEq) [eV 2,eC (.str "pool")]) (Ae (PV (tTp [tNm 3,tNm 4]) (eIx (eV 0) (eIx (eV 1) (eI 1))))
    (Ae (CA 5 (eIx (eIx (eV 0) (eIx (eV 1) (eI 2))) (eI 1)))
    (BQ (eOp (o2 EE) [AJ Bo [AJ Bo [eV 0,eIx (eV 1) (eI 1),eV 4],eIx (eV 1) (eI 2),eV 5],JJ [EM [eV 3,eOp (o2 EE) [eV 4,eV 5]]]])))) Et)
    (Ae (xIf (eOp (o2 (wIn false)) [eV 2,EM [eC (.str "swap"),eC (.str "trade")]]) (Ae (PV (tTp [tNm 6,tNm 7,tNm 3,tNm 8]) (eOp (NK true false) [eV 1,eOp (o1 O6) [eI 4]]))
    (BQ (eOp (o2 EE) [AJ Bo [eV 0,eV 6,eV 7],JJ [EM [eV 3,eV 8]]]))) Et)
    (Ae (xIf (eOp (o2 (wIn false)) [eV 2,EM [eC (.str "spoil"),eC (.str "throw")]]) (BQ (AJ Bo [eV 0,eIx (eV 1) (eI 1),eIx (eV 1) (eI 2)])) Et)
    (BQ (eV 0)))))))
def Am:Fn:=Aq (A1 9 Bc)
def HU:Ex:=(BQ (EF [] 1 (Lx (eIx (eV 0) (eI 1))) (tNm 0) De (EM [eIx (eV 0) (eI 0),eIx (eV 0) (eI 1)])))
def CJ:Fn:=Aq (A1 1 HU)
def Eb:Ex:=(Ae (CA 1 (eIx (eV 0) (eI 0)))
    (Ae (xIf (eOp (o2 wEq) [eV 1,eC (.str "pool")]) (BQ (eOp (o1 PD) [JJ [eIx (eV 0) (eI 1),eIx (eV 0) (eI 2)]])) Et)
    (Ae (xIf (eOp (o2 (wIn false)) [eV 1,EM [eC (.str "swap"),eC (.str "trade")]]) (BQ (JJ [eIx (eV 0) (eOp (o1 O6) [eI 4])])) Et)
    (BQ (JJ [])))))
def B5:Fn:=Aq (A1 2 Eb)
def Ij:Ex:=(Ae (CA 1 (AJ CJ [eV 0]))
    (Ae (CA 2 (eIx (eV 0) (eI 2)))
    (Ae (RF (bW (eV 2)) (tTp [tNm 3,tNm 4]) (Ae (xIf (Sl (AJ CU [eV 1,eOp (NK false true) [eV 2,eV 3],eV 4])) (BQ (eV 3)) Et)
    (CA 1 (AJ Am [eV 1,eV 4]))))
    (BQ (eC .non)))))
def EY:Fn:=Aq (A1 5 Ij)
def HR:Ex:=(Ae (CA 1 (AJ EY [eV 0]))
    (xIf (eOp (o2 (gZ true)) [eV 1,eC .non]) QC Et))
def A4:Fn:=Aq (A1 2 HR)
def JR:Ex:=(BQ (eOp (o1 D8) [EF [1] 1 (Qe [eV 0]) (tNm 1) De (eIf (eOp (o2 wEq) [eV 1,eV 0]) (eC Ui) (eC Ef))]))
def FG:Fn:=Aq (A1 2 JR)
def IB:Ex:=(BQ (eOp (o1 D8) [EF [1,3] 2 (XY (eV 0) (eV 2)) (tTp [tNm 2,tNm 3]) De (AJ Iq [eV 2,eV 0,eV 3,eV 1])]))
def Cm:Fn:=Aq (A1 4 IB)
def DL:Ex:=(Ae (CA 3 (AJ B5 [eV 2]))
    (Ae (xIf (eOp (o2 wEq) [eOp (o1 Lf) [eV 3],eI 1]) (BQ (eIx (eV 1) (eIx (eV 3) (eI 0)))) Et)
    (Ae (PV (tTp [tNm 4,tNm 5]) (eV 3))
    (BQ (AJ Cm [eIx (eV 1) (eV 4),eIx (eIx (eV 0) (eV 4)) (eI 1),eIx (eV 1) (eV 5),eIx (eIx (eV 0) (eV 5)) (eI 1)])))))
def BN:Fn:=Aq (A1 6 DL)
def IC:Ex:=(BQ (eOp (o2 EE) [eOp (o1 Wa) [EF [2] 2 (Lx (eV 1)) (tTp [tNm 1,tNm 2]) De (eOp (o2 CY) [eV 2,eIx (eV 0) (eV 1)])],eOp (o2 CY) [eIx (eV 0) (eI 2),eIx (eV 2) (eOp (o1 O6) [eI 1])]]))
def Dp:Fn:=Aq (A1 3 IC)
def IX:Ex:=(Ae (PV (tTp [tNm 3,tNm 4,tNm 5]) (eOp (NK true false) [eV 2,eI 1]))
    (BQ (AJ Dc [eOp (o2 CY) [eV 4,eIx (eV 5) (eIx (eIx (eV 1) (eV 3)) (eI 0))],AJ Dp [eV 0,eV 1,eV 5]])))
def EH:Fn:=Aq (A1 6 IX)
def HA:Ex:=(Ae (PV (tTp [tNm 5,tNm 6]) (AJ EH [eV 0,eV 1,eV 3]))
    (BQ (AJ Cm [eV 4,eOp (o2 QS) [eV 6,eV 5],eIx (eV 2) (eIx (eV 3) (eI 1)),eV 5])))
def DV:Fn:=Aq (A1 7 HA)
def JC:Ex:=(Ae (PV (tTp [tNm 2,tNm 3,tNm 4]) (eOp (NK true false) [eV 0,eI 1]))
    (Ae (CA 5 (AJ GU [eIx (eV 1) (eV 2),eV 4]))
    (Ae (CA 6 (bX (o1 QZ) [eV 1]))
    (Ae (NI (AJ Hk [eIx (eV 1) (eV 2),eV 5]) (eV 6) (eV 2))
    (Ae (NI (AJ Hw [eIx (eV 1) (eV 3),eV 5]) (eV 6) (eV 3))
    (BQ (eOp (o1 D8) [eV 6])))))))
def Ed:Fn:=Aq (A1 7 JC)
def BF:Ex:=(Ae (xIf (eOp (o2 wEq) [eIx (eV 3) (eI 0),eC (.str "throw")]) (BQ (AJ DV [eV 0,eV 1,eV 2,eV 3,eV 4])) Et)
    (Ae (xIf (eOp (o2 wEq) [eIx (eV 3) (eI 0),eC (.str "sell")]) (BQ (AJ Ed [eV 3,eV 4])) Et)
    (BQ (eV 4))))
def Ac:Fn:=Aq (A1 5 BF)
def BG:Ex:=(Ae (CA 4 (EF [0,1,2,3] 1 (Lx (eV 2)) (tNm 4) De (AJ Ac [eV 0,eV 1,eV 2,eV 3,eV 4])))
    (Ae (xIf (eOp (o2 wEq) [eIx (eV 3) (eI 0),eC (.str "bring")]) (BQ (eOp (o2 EE) [eV 4,JJ [AJ FG [eIx (eV 0) (eI 0),eIx (eV 3) (eI 1)]]])) Et)
    (Ae (xIf (eOp (o2 (wIn false)) [eIx (eV 3) (eI 0),eC Dl]) (BQ (eOp (o2 EE) [eV 4,JJ [AJ BN [eV 1,eV 2,eV 3]]])) Et)
    (BQ (eV 4)))))
def Al:Fn:=Aq (A1 5 BG)
def LJ:Ex:=(Ae (PV (tTp [tNm 2,tNm 3,tNm 4]) (eV 0))
    (Ae (CA 5 (AJ CJ [eV 0]))
    (Ae (CA 6 (EF [] 1 (Lx (eV 3)) (tNm 0) De (eIx (eV 0) (eI 2))))
    (Ae (CA 7 (eIx (eV 2) (eI 3)))
    (Ae (RF (Lx (eOp (NK false true) [eV 4,eV 1])) (tNm 8) (Ae (CA 7 (AJ Ac [eV 2,eV 5,eV 6,eV 8,eV 7]))
    (Ae (CA 6 (AJ Al [eV 2,eV 5,eV 6,eV 8]))
    (CA 5 (AJ Am [eV 5,eV 8])))))
    (BQ (EM [eV 5,eV 6,eV 7])))))))
def Gg:Fn:=Aq (A1 9 LJ)
def Hv:Ex:=(Ae (xIf (eOp (o2 wLt) [eV 1,eOp (o1 Lf) [eV 0]]) (BQ (eIx (eV 0) (eV 1))) Et)
    (BQ (eI 0)))
def Cg:Fn:=Aq (A1 2 Hv)
def QH:Ex:=(BQ (NO [eV 0,eOp (o1 ZZ) [eOp (o2 wGe) [eV 0,eOp (o2 Xl) [eI 10,eI 18]]],eI 0,eOp (o2 Qc) [eV 0,eI 1000000007]]))
def Il:Fn:=Aq (A1 1 QH)
def JK:Ex:=(Ae (xIf (Lu (eOp (o2 wEq) [eIx (eV 0) (eI 1),eI 1]) (eOp (o2 wGt) [eIx (eV 0) (eI 0),eI 0])) (Ae (CA 2 (eOp (o2 Qc) [eIx (eV 0) (eI 0),eV 1]))
    (Ae (NI (eOp (o2 OX) [eIx (eV 0) (eI 0),eV 1]) (eV 0) (eI 0))
    (BQ (eV 2)))) Et)
    (Ae (NI (eOp (o2 EE) [eIx (eV 0) (eI 2),eI 1]) (eV 0) (eI 2))
    (Ae (CA 3 (eOp (o2 Qc) [eOp (o2 CY) [eOp (o2 EE) [eIx (eV 0) (eI 3),eI 17],eOp (o2 EE) [eI 69621,eOp (o2 CY) [eI 2,eIx (eV 0) (eI 2)]]],eI 2147483647]))
    (Ae (CA 3 (eOp (o2 Qc) [eOp (o2 EE) [eOp (o2 EE) [eOp (o2 CY) [eV 3,eV 3],eOp (o2 CY) [eI 40503,eIx (eV 0) (eI 2)]],eI 5],eI 2147483629]))
    (BQ (eOp (o2 Qc) [eOp (o2 OX) [eOp (o2 Qc) [eOp (o2 CY) [eV 3,eI 48271],eI 2147483647],eI 32],eV 1]))))))
def AK:Fn:=Aq (A1 4 JK)
def K7:Ex:=(Ae (QR (TK 1) (eOp (o2 wGt) [eV 1,eI 0]) (Sn 0 1 (eV 1) (eOp (o2 Qc) [eV 0,eV 1])))
    (BQ (eV 0)))
def Gn:Fn:=Aq (A1 2 K7)
def Np:Ex:=(Ae (CA 2 (AJ Gn [eOp (o1 bU) [eV 0],eV 1]))
    (BQ (EM [eOp (o2 OX) [eV 0,eV 2],eOp (o2 OX) [eV 1,eV 2]])))
def Bx:Fn:=Aq (A1 3 Np)
def OA:Ex:=(BQ (AJ Bx [eOp (o2 EE) [eOp (o2 CY) [eIx (eV 0) (eI 0),eIx (eV 1) (eI 1)],eOp (o2 CY) [eIx (eV 1) (eI 0),eIx (eV 0) (eI 1)]],eOp (o2 CY) [eIx (eV 0) (eI 1),eIx (eV 1) (eI 1)]]))
def CH:Fn:=Aq (A1 2 OA)
def Mz:Ex:=(BQ (AJ Bx [eOp (o2 CY) [eIx (eV 0) (eI 0),eIx (eV 1) (eI 0)],eOp (o2 CY) [eIx (eV 0) (eI 1),eIx (eV 1) (eI 1)]]))
def Az:Fn:=Aq (A1 2 Mz)
def N8:Ex:=(BQ (AJ CH [eV 0,EM [eOp (o2 QS) [eI 0,eIx (eV 1) (eI 0)],eIx (eV 1) (eI 1)]]))
def EB:Fn:=Aq (A1 2 N8)
def Jf:Ex:=(Ae (CA 2 (Yy [0] 1 (Qe [eV 1]) (tNm 1) De (eIx (JJ [eI 0,eI 1,AJ AK [eV 0,eI 4],AJ AK [eV 0,eI 9]]) (AJ AK [eV 0,eI 4]))))
    (Ae (xIf (eOp (o2 wEq) [eOp (o1 Wa) [eV 2],eI 0]) (NI (eI 1) (eV 2) (AJ AK [eV 0,eV 1])) Et)
    (BQ (eOp (o1 D8) [EF [2] 1 (Lx (eV 2)) (tNm 1) De (AJ Bx [eV 1,eOp (o1 Wa) [eV 0]])]))))
def Dt:Fn:=Aq (A1 3 Jf)
def JE:Ex:=(Ae (CA 1 (eOp (o2 EE) [eOp (o2 Xl) [eI 10,eI 30],AJ AK [eV 0,eI 99]]))
    (BQ (eIx (JJ [eOp (o2 EE) [eI 1,AJ AK [eV 0,eI 4]],eOp (o2 EE) [eI 1,AJ AK [eV 0,eI 40]],eOp (o2 EE) [eI 1,AJ AK [eV 0,eI 999]],eV 1]) (eOp (o2 OX) [AJ AK [eV 0,eI 7],eI 2]))))
def BU:Fn:=Aq (A1 2 JE)
def NG:Ex:=(Ae (Sn 1 2 (eOp (o2 EE) [eI 1,AJ AK [eV 0,eI 4]]) (eOp (o2 EE) [eI 1,AJ AK [eV 0,eI 5]]))
    (Ae (CA 3 (eIx (JJ [eOp (o2 EE) [eI 1,AJ AK [eV 0,eI 3]],eOp (o2 EE) [eI 1,AJ AK [eV 0,eI 20]]]) (AJ AK [eV 0,eI 2])))
    (BQ (EM [eV 1,eV 2,eV 3,AJ Dt [eV 0,eV 1],AJ AK [eV 0,eI 10],AJ AK [eV 0,eI 10]]))))
def Hr:Fn:=Aq (A1 4 NG)
def Mh:Ex:=(Ae (CA 2 (NO []))
    (Ae (RF (Qe [eIx (JJ [eI 0,eI 1,AJ AK [eV 0,eI 5]]) (AJ AK [eV 0,eI 3])]) (tNm 3) (EV (Qg Qy (eV 2) [EM [AJ AK [eV 0,eIx (eV 1) (eI 1)],AJ BU [eV 0],AJ Dt [eV 0,eIx (eV 1) (eI 0)]]])))
    (BQ (eOp (o1 D8) [eV 2]))))
def He:Fn:=Aq (A1 4 Mh)
def Mq:Ex:=(Ae (CA 1 (eOp (o2 EE) [eI 1,AJ AK [eV 0,eI 12]]))
    (BQ (AJ Bx [eOp (o2 EE) [eI 1,AJ AK [eV 0,eV 1]],eV 1])))
def GL:Fn:=Aq (A1 2 Mq)
def LX:Ex:=(BQ (eOp (o1 D8) [EF [0] 1 (Qe [eV 1]) (tNm 1) De (eOp (o2 EE) [eI 1,eIx (JJ [AJ AK [eV 0,eI 3],AJ AK [eV 0,eI 99]]) (AJ AK [eV 0,eI 2])])]))
def Dx:Fn:=Aq (A1 2 LX)
def ND:Ex:=(BQ (NO [Yy [] 1 (Lx (eIx (eV 0) (eI 1))) (tNm 0) De (bX (o1 QZ) [eV 0]),eOp (o1 D8) [eIx (eIx (eV 0) (eI 0)) (eI 3)],NO []]))
def HX:Fn:=Aq (A1 1 ND)
def LL:Ex:=(Ae (CA 2 (NO []))
    (Ae (RF (XY (eIx (eV 0) (eI 2)) (eIx (eV 1) (eI 2))) (tTp [tNm 3,tNm 4]) (Ae (CA 5 (AJ CH [AJ Az [EM [eIx (eV 0) (eI 1),eI 1],eV 3],AJ Az [EM [eIx (eV 1) (eI 1),eI 1],eV 4]]))
    (EV (Qg Qy (eV 2) [AJ Az [eV 5,AJ Bx [eI 1,eOp (o2 EE) [eIx (eV 0) (eI 1),eIx (eV 1) (eI 1)]]]]))))
    (BQ (eOp (o1 D8) [eV 2]))))
def Gu:Fn:=Aq (A1 6 LL)
def Nq:Ex:=(Ae (CA 3 (eIx (eV 2) (eI 3)))
    (Ae (CA 4 (eOp (o2 EE) [eOp (o1 Wa) [EF [3] 3 (Lx (eV 1)) (tTp [tNm 1,tNm 2,tNm 3]) De (eOp (o2 CY) [eV 2,eIx (eV 0) (eV 1)])],eOp (o2 CY) [eIx (eV 0) (eI 2),eIx (eV 3) (eOp (o1 O6) [eI 1])]]))
    (BQ (AJ Bx [eOp (o2 CY) [eIx (eV 2) (eI 2),eIx (eV 3) (eIx (eIx (eV 1) (eIx (eV 2) (eI 1))) (eI 0))],eV 4]))))
def JF:Fn:=Aq (A1 5 Nq)
def MN:Ex:=(Ae (CA 3 (NO []))
    (Ae (RF (XY (eV 0) (eV 2)) (tTp [tNm 4,tNm 5]) (EV (Qg Qy (eV 3) [AJ CH [AJ Az [eV 4,AJ EB [EM [eI 1,eI 1],eV 1]],AJ Az [eV 5,eV 1]]])))
    (BQ (eOp (o1 D8) [eV 3]))))
def Ez:Fn:=Aq (A1 6 MN)
def Nf:Ex:=(Ae (CA 2 (bX (o1 QZ) [eV 0]))
    (Ae (CA 3 (AJ Az [eIx (eV 2) (eIx (eV 1) (eI 1)),eIx (eV 1) (eI 3)]))
    (Ae (NI (AJ EB [eIx (eV 2) (eIx (eV 1) (eI 1)),eV 3]) (eV 2) (eIx (eV 1) (eI 1)))
    (Ae (NI (AJ CH [eIx (eV 2) (eIx (eV 1) (eI 2)),eV 3]) (eV 2) (eIx (eV 1) (eI 2)))
    (BQ (eOp (o1 D8) [eV 2]))))))
def Fz:Fn:=Aq (A1 4 Nf)
def Kg:Ex:=(Ae (PV (tTp [tNm 3,tNm 4,tNm 5]) (eV 1))
    (xIf (eOp (o2 wEq) [eIx (eV 2) (eI 0),eC (.str "throw")]) (Ae (Sn 6 7 (AJ JF [eV 0,eV 3,eV 2]) (eIx (eIx (eV 3) (eIx (eV 2) (eI 1))) (eI 2)))
    (Ae (NI (eOp (o2 QS) [eIx (eIx (eV 3) (eIx (eV 2) (eI 1))) (eI 1),eIx (eV 2) (eI 2)]) (eIx (eV 3) (eIx (eV 2) (eI 1))) (eI 1))
    (Ae (RF (Lx (eV 3)) (tNm 8) (NI (AJ Ez [eIx (eV 8) (eI 2),eV 6,eV 7]) (eV 8) (eI 2)))
    (NI (AJ Ez [eV 4,eV 6,eV 7]) (eV 1) (eI 1))))) (Ae (RF (Lx (eV 3)) (tNm 8) (NI (AJ Fz [eIx (eV 8) (eI 2),eV 2]) (eV 8) (eI 2)))
    (NI (AJ Fz [eV 4,eV 2]) (eV 1) (eI 1)))))
def F5:Fn:=Aq (A1 9 Kg)
def Gk:Ex:=(Ae (PV (tTp [tNm 3,tNm 4,tNm 5]) (eV 1))
    (Ae (CA 6 (eIx (eV 2) (eI 0)))
    (xIf (eOp (o2 wEq) [eV 6,eC (.str "bring")]) (EV (Qg Qy (eV 3) [NO [eIx (eV 2) (eI 2),eIx (eV 2) (eI 3),eOp (o1 D8) [EF [2] 1 (Qe [eIx (eV 0) (eI 0)]) (tNm 1) De (EM [eOp (o1 ZZ) [eOp (o2 wEq) [eV 1,eIx (eV 0) (eI 1)]],eI 1])]]])) (xIf (eOp (o2 wEq) [eV 6,eC (.str "pool")]) (Ae (Sn 7 8 (eIx (eV 3) (eIx (eV 2) (eI 1))) (eIx (eV 3) (eIx (eV 2) (eI 2))))
    (Ae (EV (Qg Qy (eV 3) [NO [eIx (eV 7) (eI 0),eOp (o2 EE) [eIx (eV 7) (eI 1),eIx (eV 8) (eI 1)],AJ Gu [eV 7,eV 8]]]))
    (Ae (NI (eI 0) (eV 7) (eI 1))
    (NI (eI 0) (eV 8) (eI 1))))) (xIf (eOp (o2 (wIn false)) [eV 6,EM [eC (.str "swap"),eC (.str "trade")]]) (Ae (PV (tTp [tNm 9,tNm 10,tNm 11,tNm 12]) (eOp (NK true false) [eV 2,eOp (o1 O6) [eI 4]]))
    (Ae (NI (eOp (o2 QS) [eIx (eIx (eV 3) (eV 9)) (eI 1),eV 10]) (eIx (eV 3) (eV 9)) (eI 1))
    (Ae (EV (Qg Qy (eV 3) [NO [eV 11,eV 12,eIx (eIx (eV 3) (eV 9)) (eI 2)]]))
    (EV (Qg gE (eV 5) [eOp (o2 CY) [eOp (NK true true) [eV 2,eI 1,eI 2],eOp (o1 ZZ) [eOp (o2 wEq) [eV 6,eC (.str "trade")]]]]))))) (xIf (eOp (o2 wEq) [eV 6,eC (.str "spoil")]) (NI (eOp (o2 QS) [eIx (eIx (eV 3) (eIx (eV 2) (eI 1))) (eI 1),eIx (eV 2) (eI 2)]) (eIx (eV 3) (eIx (eV 2) (eI 1))) (eI 1)) (EV (AJ F5 [eV 0,eV 1,eV 2]))))))))
def B0:Fn:=Aq (A1 13 Gk)
def Ng:Ex:=(Ae (PV (tTp [tNm 3,tNm 4,tNm 5]) (eV 2))
    (Ae (CA 6 (EF [] 2 (bW (eV 3)) (tTp [tNm 0,tNm 1]) (eOp (o2 wGt) [eIx (eV 1) (eI 1),eI 0]) (eV 0)))
    (Ae (CA 7 (AJ AK [eV 0,eI 12]))
    (Ae (xIf (eOr (eOp (o2 wLt) [eV 7,eI 2]) (eOp (o2 wEq) [eV 6,JJ []])) (BQ (EM [eC (.str "bring"),AJ AK [eV 0,eIx (eV 1) (eI 0)],AJ AK [eV 0,eIx (eV 1) (eI 1)],AJ BU [eV 0]])) Et)
    (Ae (CA 8 (eIx (eV 6) (AJ AK [eV 0,eOp (o1 Lf) [eV 6]])))
    (Ae (CA 9 (eOp (o2 EE) [eI 1,AJ AK [eV 0,eOp (o2 fN) [eIx (eIx (eV 3) (eV 8)) (eI 1),eI 2000]]]))
    (Ae (xIf (eOp (o2 wLt) [eV 7,eI 5]) (Ae (CA 10 (EF [3,8] 1 (Lx (eV 6)) (tNm 2) (Lu (eOp (o2 wNe) [eV 2,eV 1]) (eOp (o2 wEq) [eIx (eIx (eV 0) (eV 2)) (eI 0),eIx (eIx (eV 0) (eV 1)) (eI 0)])) (eV 2)))
    (xIf (eOp (o2 wNe) [eV 10,JJ []]) (BQ (EM [eC (.str "pool"),eV 8,eIx (eV 10) (AJ AK [eV 0,eOp (o1 Lf) [eV 10]])])) Et)) Et)
    (Ae (xIf (Lu (eOp (o2 wLt) [eV 7,eI 8]) (eOp (o2 wGt) [eIx (eV 1) (eI 1),eI 1])) (Ae (CA 11 (eOp (o2 Qc) [eOp (o2 EE) [eOp (o2 EE) [eIx (eIx (eV 3) (eV 8)) (eI 0),eI 1],AJ AK [eV 0,eOp (o2 QS) [eIx (eV 1) (eI 1),eI 1]]],eIx (eV 1) (eI 1)]))
    (Ae (CA 12 (EF [5] 1 (Qe [eI 10]) (tNm 1) (eOp (o2 (wIn true)) [eV 1,eV 0]) (eV 1)))
    (Ae (xIf (Lu (eOp (o2 wEq) [eV 7,eI 7]) (eOp (o2 wNe) [eV 12,JJ []])) (BQ (EM [eC (.str "trade"),eIx (eV 12) (AJ AK [eV 0,eOp (o1 Lf) [eV 12]]),eV 8,eV 9,eV 11,AJ BU [eV 0]])) Et)
    (BQ (EM [eC (.str "swap"),eV 8,eV 9,eV 11,AJ BU [eV 0]]))))) Et)
    (Ae (xIf (eOp (o2 wEq) [eV 7,eI 8]) (BQ (EM [eC (.str "spoil"),eV 8,eV 9])) Et)
    (Ae (xIf (Lu (eOp (o2 wEq) [eV 7,eI 9]) (eOp (o2 wGt) [eIx (eV 1) (eI 0),eI 1])) (Ae (CA 13 (AJ AK [eV 0,eIx (eV 1) (eI 0)]))
    (BQ (EM [eC (.str "sell"),eV 13,eOp (o2 Qc) [eOp (o2 EE) [eOp (o2 EE) [eV 13,eI 1],AJ AK [eV 0,eOp (o2 QS) [eIx (eV 1) (eI 0),eI 1]]],eIx (eV 1) (eI 0)],AJ GL [eV 0]]))) Et)
    (BQ (EM [eC (.str "throw"),eV 8,eV 9,AJ Dx [eV 0,eOp (o2 EE) [eIx (eV 1) (eI 1),eI 1]]]))))))))))))
def EA:Fn:=Aq (A1 14 Ng)
def OC:Ex:=(Ae (CA 2 (AJ Hr [eV 0]))
    (Ae (CA 3 (AJ He [eV 0,eV 2]))
    (Ae (Sn 4 5 (AJ HX [EM [eV 2,eV 3,EM []]]) (NO []))
    (Ae (RF (Qe [AJ AK [eV 0,eOp (o2 EE) [eV 1,eI 1]]]) (tNm 6) (Ae (CA 7 (AJ EA [eV 0,eV 2,eV 4]))
    (xIf (eOr (eOp (o2 wNe) [eIx (eV 7) (eI 0),eC (.str "throw")]) (eOp (o2 wLt) [eOp (o1 Lf) [EF [] 1 (Lx (eV 5)) (tNm 0) (eOp (o2 wEq) [eIx (eV 0) (eI 0),eC (.str "throw")]) (eV 0)],eI 3])) (Ae (EV (AJ B0 [eV 2,eV 4,eV 7]))
    (EV (Qg Qy (eV 5) [eV 7]))) Et)))
    (BQ (EM [eV 2,eV 3,eOp (o1 D8) [eV 5]]))))))
def EC:Fn:=Aq (A1 8 OC)
def KJ:Ex:=(Ae (CA 3 (AJ EC [eV 0,eV 1]))
    (Ae (RF (Qe [eI 5]) (tNm 4) (Ae (xIf (eOp (o2 wNe) [EF [2] 1 (Lx (eIx (eV 3) (eI 2))) (tNm 1) (eOp (o2 wEq) [eIx (eV 1) (eI 0),eV 0]) (eV 1),JJ []]) (BQ (eV 3)) Et)
    (CA 3 (AJ EC [eV 0,eV 1]))))
    (BQ (eV 3))))
def Dd:Fn:=Aq (A1 5 KJ)
def LM:Ex:=(BQ (EF [1] 2 (bW (eIx (eV 0) (eI 2))) (tTp [tNm 1,tNm 2]) (eOp (o2 wEq) [eIx (eV 2) (eI 0),eV 0]) (eV 1)))
def D7:Fn:=Aq (A1 2 LM)
def Jb(rec:Fn):Ex:=(Ae (CA 2 (AJ AK [eV 0,eI 12]))
    (Ae (xIf (eOr (eOp (o2 wLt) [eV 2,eI 8]) (eOp (o2 wEq) [eV 1,eI 0])) (BQ (eIx (JJ [eC .non,eC (.bl true),eC (.bl false),eI 0,eI 1,eOp (o1 O6) [eI 1],eI 9,eOp (o2 Xl) [eI 10,eI 39],eC (.str ""),eC (.str "a"),EM [],JJ []]) (AJ AK [eV 0,eI 12]))) Et)
    (Ae (CA 3 (EF [0,1] 1 (Qe [AJ AK [eV 0,eI 4]]) (tNm 2) De (AJ rec [eV 0,eOp (o2 QS) [eV 1,eI 1]])))
    (Ae (xIf (eOp (o2 wEq) [eV 2,eI 8]) (BQ (eV 3)) Et)
    (Ae (xIf (eOp (o2 wEq) [eV 2,eI 9]) (BQ (d6 [((eC (.str "a")),(eV 3))])) Et)
    (BQ (eOp (o1 D8) [eV 3])))))))
def Bl:Nat->Fn
 |0=>λ_ _=>nD
 |n+1=>Aq (A1 4 (Jb (Bl n)))
def KC:Ex:=(BQ (eOp (o1 D8) [EF [] 2 (XY (eV 0) (eV 1)) (tTp [tNm 0,tNm 1]) De (AJ Hk [eV 0,eV 1])]))
def EU:Fn:=Aq (A1 2 KC)
def IZ:Ex:=(BQ (AJ DX [eV 1,eI 0,eOp (o2 QS) [eOp (o1 Lf) [eIx (eV 0) (eI 2)],eI 1]]))
def Ff:Fn:=Aq (A1 2 IZ)
def EL:Ex:=(BQ (Lu (AJ Ff [eV 0,eV 2]) (eOp (o2 wEq) [eIx (eIx (eIx (eV 0) (eI 2)) (eV 2)) (eI 0),eV 1])))
def Bb:Fn:=Aq (A1 3 EL)
def ES:Ex:=(xIf (Sl (AJ Bb [eV 0,eC (.str "sell"),eV 1])) QC Et)
def Au:Fn:=Aq (A1 2 ES)
def HW:Ex:=(Ae (CA 3 (bX (o2 CY) [JJ [eC Ef],eV 0]))
    (Ae (RF (XY (eV 1) (eV 2)) (tTp [tTp [tNm 5,tNm 6],tNm 4]) (NI (AJ Hw [eIx (eV 3) (eV 5),AJ GU [EM [eV 6,eI 1],eV 4]]) (eV 3) (eV 5)))
    (BQ (eOp (o1 D8) [eV 3]))))
def CS:Fn:=Aq (A1 7 HW)
def IU:Ex:=(Ae (PV (tTp [tNm 2,tNm 3]) (eOp (NK false true) [eIx (eV 0) (eI 0),eI 2]))
    (Ae (PV (tTp [tNm 4,tNm 5,tNm 6]) (AJ Gg [eV 0,eV 1]))
    (BQ (EF [3,4,5] 1 (Qe [eV 2]) (tNm 3) De (AJ CS [eV 0,eV 1,EF [3] 1 (Lx (eV 2)) (tNm 1) De (eIx (eV 1) (eV 0))])))))
def CF:Fn:=Aq (A1 7 IU)
def IF:Ex:=(Ae (PV (tTp [tNm 2,tNm 3,tNm 4]) (eV 0))
    (BQ (EM [eV 2,eV 3,eOp (o2 EE) [eOp (NK false true) [eV 4,eV 1],eOp (NK true false) [eV 4,eOp (o2 EE) [eV 1,eI 1]]]])))
def Cq:Fn:=Aq (A1 5 IF)
def Hm:Ex:=(Ae (EV (AJ A4 [eV 0]))
    (Ae (EV (AJ Au [eV 0,eV 1]))
    (Ae (CA 2 (AJ Cq [eV 0,eV 1]))
    (Ae (Sn 3 4 (AJ CF [eV 0,eOp (o1 Lf) [eIx (eV 0) (eI 2)]]) (AJ CF [eV 2,eOp (o1 Lf) [eIx (eV 2) (eI 2)]]))
    (BQ (eOp (o1 D8) [EF [] 2 (XY (eV 3) (eV 4)) (tTp [tNm 0,tNm 1]) De (AJ EU [eV 0,eV 1])]))))))
def A5:Fn:=Aq (A1 5 Hm)
def Kl:Ex:=(Ae (EV (AJ A4 [eV 0]))
    (Ae (EV (AJ Au [eV 0,eV 1]))
    (BQ (AJ Cq [eV 0,eV 1]))))
def Bw:Fn:=Aq (A1 2 Kl)
def ET:Rx:=(rIf (Sl (AJ Bb [eV 0,eC (.str "sell"),eV 1])) (RP "NoSale" [eC (.str "the book has no sale at this place")]) rNo)
def As:Rf:=Aq (Vi 2 ET)
def Hq:Rx:=(Y6 rNo (EV (AJ A4 [eV 0]))
    (Y6 (Er As [eV 0,eV 1]) (EV (AJ Au [eV 0,eV 1]))
    rNo))
def Ba:Rf:=Aq (Vi 5 Hq)
def Kp:Rx:=(Y6 rNo (EV (AJ A4 [eV 0]))
    (Y6 (Er As [eV 0,eV 1]) (EV (AJ Au [eV 0,eV 1]))
    rNo))
def Cr:Rf:=Aq (Vi 2 Kp)
def Vm:Ex:=(Ae (CA 1 (AJ Il [AJ Cg [eV 0,eI 0]]))
    (Ae (CA 2 (AJ Dd [eV 1,eI 12,eC (.str "sell")]))
    (Ae (CA 3 (AJ D7 [eV 2,eC (.str "sell")]))
    (Ae (RF (Lx (eOp (o2 EE) [eLR (eOp (o2 EE) [eOp (o1 Lf) [eIx (eV 2) (eI 2)],eI 2]),JJ [eOp (o1 O6) [eI 1],eC (.bl true),eC .non,eC (.str "0"),EM [eI 0],eOp (o2 Xl) [eI 10,eI 39],AJ (Bl 8) [eV 1,eI 2]]])) (tNm 4) (Ae (CA 5 (eOr (Sl (eOp (o2 X0) [eV 4,eC (.ty "int")])) (eOr (eOp (o2 X0) [eV 4,eC (.ty "bool")]) (eOp (o2 (wIn true)) [eV 4,eV 3]))))
    (Ae (xIf (eOp (o2 wNe) [Qf "law" [2,4] (AJ Bw [eV 0,eV 1]) (Er Cr [eV 0,eV 1]) (.bl false) (gOr ["NoSale"] "NoSale" (BQ (eC (.bl true))) gNo),eV 5]) (BQ (eC (.bl false))) Et)
    (xIf (eOp (o2 wNe) [Qf "law" [2,4] (AJ A5 [eV 0,eV 1]) (Er Ba [eV 0,eV 1]) (.bl false) (gOr ["NoSale"] "NoSale" (BQ (eC (.bl true))) gNo),eV 5]) (BQ (eC (.bl false))) Et))))
    (Ae (CA 6 (EM [eIx (eV 2) (eI 0),eIx (eV 2) (eI 1),EM []]))
    (Ae (xIf (Sl (Qf "law" [6] (AJ Bw [eV 0,eI 0]) (Er Cr [eV 0,eI 0]) (.bl false) (gOr ["NoSale"] "NoSale" (BQ (eC (.bl true))) gNo))) (BQ (eC (.bl false))) Et)
    (BQ (Qf "law" [6] (AJ A5 [eV 0,eOp (o1 O6) [eI 1]]) (Er Ba [eV 0,eOp (o1 O6) [eI 1]]) (.bl false) (gOr ["NoSale"] "NoSale" (BQ (eC (.bl true))) gNo)))))))))
def Ma:Fn:=Aq (A1 7 Vm)
end
section
open PyProof.Rows (boot_isinstance boot_int boot_bool boot_tuple boot_str boot_list boot_abs boot_all boot_any boot_sum boot_max boot_min boot_range boot_enumerate boot_zip boot_sorted boot_set boot_divmod)
noncomputable def top(i:Nat):oK:=uE.main.body.getD i (.Pass ⟨0,0,0,0⟩)
noncomputable def iy(sc osc:pJ):pJ:={sc with names:=sc.names.map λ(n,k)=>if(k== .free && osc.kind== .function && osc.names.lookup n==Fk .cell)then(n,.cell)else(n,k)}
abbrev FL:oK:=top 3
abbrev F8:oK:=top 4
abbrev EG:oK:=top 5
abbrev Bs:oK:=top 6
abbrev HK:oK:=top 7
abbrev Jw:oK:=top 8
abbrev Ju:oK:=top 9
abbrev Ci:oK:=top 10
abbrev IY:oK:=top 11
abbrev Ir:oK:=top 12
abbrev Dg:oK:=top 19
abbrev FT:oK:=top 20
abbrev FW:oK:=top 21
abbrev E7:oK:=top 22
abbrev Cn:oK:=top 23
abbrev C4:oK:=top 24
abbrev BV:oK:=top 25
abbrev EO:oK:=top 26
abbrev DN:oK:=top 27
abbrev CI:oK:=top 28
abbrev FQ:oK:=top 29
abbrev Cy:oK:=top 30
abbrev CC:oK:=top 32
abbrev Bm:oK:=top 33
abbrev C1:oK:=top 34
abbrev Bp:oK:=top 35
abbrev DH:oK:=top 36
abbrev CO:oK:=top 37
abbrev Cz:oK:=top 38
abbrev CN:oK:=top 39
abbrev BY:oK:=top 40
abbrev DM:oK:=top 41
abbrev CK:oK:=top 42
abbrev BC:oK:=top 43
abbrev BM:oK:=top 45
abbrev Cj:oK:=top 46
abbrev E8:oK:=top 47
abbrev Bt:oK:=top 48
abbrev Iw:oK:=top 50
abbrev EI:oK:=top 51
abbrev HN:oK:=top 52
abbrev Fh:oK:=top 53
abbrev G8:oK:=top 54
abbrev Cf:oK:=top 55
abbrev GN:oK:=top 56
abbrev Fc:oK:=top 57
abbrev GP:oK:=top 58
abbrev Dr:oK:=top 59
abbrev GQ:oK:=top 60
abbrev Cw:oK:=top 61
abbrev CT:oK:=top 62
abbrev HI:oK:=top 63
abbrev GS:oK:=top 64
abbrev Fb:oK:=top 65
abbrev Ep:oK:=top 66
abbrev HD:oK:=top 67
abbrev GX:oK:=top 68
abbrev G7:oK:=top 69
abbrev HG:oK:=top 70
abbrev Hb:oK:=top 71
abbrev Eo:oK:=top 72
abbrev Ca:oK:=top 73
abbrev C0:oK:=top 74
abbrev Dv:oK:=top 75
abbrev EX:oK:=top 77
abbrev Cp:oK:=top 76
theorem DR:AO ["_law_call"] ["_law_call"] (AG Cp):=scM
section
variable(P:nv)(w:oM)(K:KE)(mg:Str->nG Wp)(base:oE)
abbrev LC:Prop:=St.Dfn P w K mg base "is_whole" 1 ["thing"] (spD K 1 FZ)
abbrev MA:Prop:=St.Dfn P w K mg base "is_from" 2 ["thing","low"] (spD K 2 GW)
abbrev KD:Prop:=St.Dfn P w K mg base "is_within" 3 ["thing","low","high"] (spD K 3 DX)
abbrev Fv:Prop:=St.Dfn P w K mg base "greatest_divisor" 1 ["one","other"] (spD K 2 CD)
abbrev F1:Prop:=St.Dfn P w K mg base "lowest" 2 ["top","bottom"] (spD K 2 Dc)
abbrev Oc:Prop:=St.Dfn P w K mg base "plus" 3 ["one","other"] (spD K 2 Hw)
abbrev Ot:Prop:=St.Dfn P w K mg base "less" 3 ["one","other"] (spD K 2 Hk)
abbrev Hl:Prop:=St.Dfn P w K mg base "less_each" 4 ["ones","others"] (spD K 2 EU)
abbrev Mj:Prop:=St.Dfn P w K mg base "times" 3 ["one","other"] (spD K 2 GU)
abbrev QA:Prop:=St.Dfn P w K mg base "mixed" 3 ["one","weight","other","more"] (spD K 4 Iq)
abbrev FI:Prop:=St.Dfn P w K mg base "has_pieces" 1 ["held","load","pieces"] (spD K 3 CB)
abbrev K8:Prop:=St.Dfn P w K mg base "can_pool" 2 ["held","load","other"] (spD K 3 Gi)
abbrev LW:Prop:=St.Dfn P w K mg base "can_swap" 2 ["held","load","given","kind"] (spD K 4 Fe)
abbrev N0:Prop:=St.Dfn P w K mg base "can_do" 3 ["held","done","deed"] (spD K 3 CU)
abbrev II:Prop:=St.Dfn P w K mg base "held_without" 1 ["held","load","pieces"] (spD K 3 Bo)
abbrev GH:Prop:=St.Dfn P w K mg base "held_behind" 2 ["held","deed"] (spD K 2 Am)
abbrev Es:Prop:=St.Dfn P w K mg base "held_at_first" 1 ["book"] (spD K 1 CJ)
abbrev KW:Prop:=St.Dfn P w K mg base "made_from" 1 ["deed"] (spD K 1 B5)
abbrev Ii:Prop:=St.Dfn P w K mg base "first_wrong" 4 ["book"] (spD K 1 EY)
abbrev CQ:Prop:=St.Dfn P w K mg base "refuse_undone" 5 ["book"] (spD K 1 A4)
abbrev LG:Prop:=St.Dfn P w K mg base "is_place" 4 ["book","thing"] (spD K 2 Ff)
abbrev GI:Prop:=St.Dfn P w K mg base "is_place_of" 5 ["book","word","thing"] (spD K 3 Bb)
abbrev JV:Prop:=St.Dfn P w K mg base "all_to_one" 1 ["many","one"] (spD K 2 FG)
abbrev Fq:Prop:=St.Dfn P w K mg base "mixed_shares" 4 ["shares","weight","others","more"] (spD K 4 Cm)
abbrev Ib:Prop:=St.Dfn P w K mg base "made_shares" 5 ["held","shares","deed"] (spD K 3 BN)
abbrev IG:Prop:=St.Dfn P w K mg base "worth_of_all" 1 ["train","held","worths"] (spD K 3 Dp)
abbrev Iu:Prop:=St.Dfn P w K mg base "part_thrown" 3 ["train","held","deed"] (spD K 3 EH)
abbrev HQ:Prop:=St.Dfn P w K mg base "thrown_shares" 5 ["train","held","owners","deed","shares"] (spD K 5 DV)
abbrev Ia:Prop:=St.Dfn P w K mg base "sold_shares" 4 ["deed","shares"] (spD K 2 Ed)
abbrev E5:Prop:=St.Dfn P w K mg base "shares_behind" 6 ["train","held","owners","deed","shares"] (spD K 5 Ac)
abbrev HC:Prop:=St.Dfn P w K mg base "owners_behind" 7 ["train","held","owners","deed"] (spD K 4 Al)
abbrev LK:Prop:=St.Dfn P w K mg base "state_by" 8 ["book","many"] (spD K 2 Gg)
abbrev G5:Prop:=St.Dfn P w K mg base "sums_by_kinds" 4 ["kinds","held","shares"] (spD K 3 CS)
abbrev GR:Prop:=St.Dfn P w K mg base "theirs_told" 9 ["book","many"] (spD K 2 CF)
abbrev B8:Prop:=St.Dfn P w K mg base "refuse_no_sale" 6 ["book","place"] (spD K 2 Au)
abbrev Co:Prop:=St.Dfn P w K mg base "without_deed" 1 ["book","place"] (spD K 2 Cq)
abbrev Nk:Prop:=St.Dfn P w K mg base "unsold" 7 ["book","place"] (spD K 2 Bw)
abbrev KN:Prop:=St.Dfn P w K mg base "turned_by" 10 ["book","place"] (spD K 2 A5)
abbrev Ph:Prop:=St.Dfn P w K mg base "_law_pen" 1 ["_law_cell"] (spD K 1 Il)
abbrev KG:Prop:=St.Dfn P w K mg base "_law_cell_at" 1 ["_law_script","_law_k"] (spD K 2 Cg)
abbrev Cs:Prop:=St.Dfn P w K mg base "_law_draw" 1 ["_law_pen_here","_law_bound"] (spD K 2 AK)
abbrev LV:Prop:=St.Dfn P w K mg base "_law_common" 1 ["_law_one","_law_other"] (spD K 2 Gn)
abbrev Ew:Prop:=St.Dfn P w K mg base "_law_made" 2 ["_law_top","_law_bottom"] (spD K 2 Bx)
abbrev JZ:Prop:=St.Dfn P w K mg base "_law_whole" 3 ["_law_pen_here","_law_many"] (spD K 2 Dt)
abbrev MG:Prop:=St.Dfn P w K mg base "_law_train" 4 ["_law_pen_here"] (spD K 1 Hr)
abbrev Ih:Prop:=St.Dfn P w K mg base "_law_pieces" 2 ["_law_pen_here"] (spD K 1 BU)
abbrev Mu:Prop:=St.Dfn P w K mg base "_law_first" 4 ["_law_pen_here","_law_train_here"] (spD K 2 He)
abbrev L6:Prop:=St.Dfn P w K mg base "_law_begun" 1 ["_law_book_here"] (spD K 1 HX)
abbrev Mr:Prop:=St.Dfn P w K mg base "_law_share" 3 ["_law_pen_here"] (spD K 1 GL)
abbrev LQ:Prop:=St.Dfn P w K mg base "_law_worths" 2 ["_law_pen_here","_law_many"] (spD K 2 Dx)
abbrev Nu:Prop:=St.Dfn P w K mg base "_law_deed" 4 ["_law_pen_here","_law_train_here","_law_state"] (spD K 3 EA)
abbrev HF:Prop:=St.Dfn P w K mg base "_law_plus" 3 ["_law_one","_law_other"] (spD K 2 CH)
abbrev Hx:Prop:=St.Dfn P w K mg base "_law_times" 3 ["_law_one","_law_other"] (spD K 2 Az)
abbrev LD:Prop:=St.Dfn P w K mg base "_law_pooled" 4 ["_law_one","_law_other"] (spD K 2 Gu)
abbrev Nz:Prop:=St.Dfn P w K mg base "_law_cost" 3 ["_law_train_here","_law_loads","_law_deed_here"] (spD K 3 JF)
abbrev Ku:Prop:=St.Dfn P w K mg base "_law_less" 4 ["_law_one","_law_other"] (spD K 2 EB)
abbrev NC:Prop:=St.Dfn P w K mg base "_law_borne" 5 ["_law_shares","_law_part","_law_owners"] (spD K 3 Ez)
abbrev N9:Prop:=St.Dfn P w K mg base "_law_sold" 5 ["_law_shares","_law_deed_here"] (spD K 2 Fz)
abbrev Nh:Prop:=St.Dfn P w K mg base "_law_turn" 6 ["_law_train_here","_law_state","_law_deed_here"] (spD K 3 F5)
abbrev Ry:Prop:=St.Dfn P w K mg base "_law_do" 7 ["_law_train_here","_law_state","_law_deed_here"] (spD K 3 B0)
abbrev OE:Prop:=St.Dfn P w K mg base "_law_book" 8 ["_law_pen_here","_law_most"] (spD K 2 EC)
abbrev Js:Prop:=St.Dfn P w K mg base "_law_book_of" 9 ["_law_pen_here","_law_most","_law_word"] (spD K 3 Dd)
abbrev K3:Prop:=St.Dfn P w K mg base "_law_places" 1 ["_law_book_here","_law_word"] (spD K 2 D7)
abbrev Q8(n:Nat):Prop:=St.Dfn P w K mg base "_law_thing" (2+n) ["_law_pen_here","_law_deep"] (spD K 2 (Bl n))
abbrev EK:Prop:=cx P w K mg base "refuse_no_sale" 6 ["book","place"] (spR K mg 2 As)
abbrev Nl:Prop:=cx P w K mg base "unsold" 7 ["book","place"] (spR K mg 2 Cr)
abbrev Ka:Prop:=cx P w K mg base "turned_by" 10 ["book","place"] (spR K mg 2 Ba)
end
structure Bts(mg:Str->nG Wp):Prop where
 abs:mg "abs"=nD
 bool:mg "bool"=nD
 enumerate:mg "enumerate"=nD
 int:mg "int"=nD
 isi:mg "isinstance"=nD
 len:mg "len"=nD
 list:mg "list"=nD
 min:mg "min"=nD
 range:mg "range"=nD
 sorted:mg "sorted"=nD
 sum:mg "sum"=nD
 tuple:mg "tuple"=nD
 zip:mg "zip"=nD
end
section
open PyProof.Rows (boot_isinstance boot_int boot_bool boot_tuple boot_str boot_list boot_abs boot_all boot_any boot_sum boot_max boot_min boot_range boot_enumerate boot_zip boot_sorted boot_set boot_divmod)
variable{P:nv}{w:oM}{K:KE}{mg:Str->nG Wp}{base:oE}
theorem Oe:AO ["thing"] ["thing"] (AG FL):=scM
theorem FK  (S:St.Src K mg "is_whole" FL)(B:Bts mg):LC P w K mg base:=by
 refine dfM 0 S Oe λhr hu=>?_
 exact(AI (AQ (J6 (BK KU rfl B.isi sx (AA (AB 0) (AA (Xh rfl B.int wL) AD))) (KA (Yf (BK KU rfl B.isi sx (AA (AB 0) (AA (Xh rfl B.bool boot_bool) AD))))))))
theorem Pa:AO ["thing","low"] ["thing","low"] (AG F8):=scM
theorem GK  (S:St.Src K mg "is_from" F8)(FK:LC P w K mg base):MA P w K mg base:=by
 refine dfM 1 S Pa λhr hu=>?_
 exact(AI (AQ (J6 (deM FK hr (AA (AB 0) AD)) (KA (IA VE (AB 0) (AB 1))))))
theorem NR:AO ["thing","low","high"] ["thing","low","high"] (AG EG):=scM
theorem ER  (S:St.Src K mg "is_within" EG)(GK:MA P w K mg base):KD P w K mg base:=by
 refine dfM 2 S NR λhr hu=>?_
 exact(AI (AQ (J6 (deM GK hr (AA (AB 0) (AA (AB 1) AD))) (KA (IA eZ (AB 0) (AB 2))))))
theorem DO:AO ["one","other"] ["one","other"] (AG Bs):=scM
theorem Br  (S:St.Src K mg "greatest_divisor" Bs)(B:Bts mg):Fv P w K mg base:=by
 refine dfM 0 S DO λhr hu=>?_
 exact(AH (LN (i:=0) (j:=1) rfl DO.nd rfl rfl (by decide) rfl rfl (BK MW rfl B.abs zr (AA (AB 0) AD)) (BK MW rfl B.abs zr (AA (AB 1) AD)))
      (AH (Rj (TK 1) pC (Aj (J3 hu) (AB 1) AF) (AI (LN (i:=0) (j:=1) rfl DO.nd rfl rfl (by decide) rfl rfl (AB 1) (AY Gx (AB 0) (AB 1)))))
      (AI (AQ (AB 0)))))
theorem MK:AO ["top","bottom","divisor"] ["top","bottom"] (AG HK):=scM
theorem BJ  (S:St.Src K mg "lowest" HK)(Br:Fv P w K mg base):F1 P w K mg base:=by
 refine dfM 1 S MK λhr hu=>?_
 exact(AH (Ap 2 (deM Br hr (AA (AB 0) (AA (AB 1) AD))) MK.nd)
      (AI (AQ (BZ (AA (AY Hh (AB 0) (AB 2)) (AA (AY Hh (AB 1) (AB 2)) AD))))))
theorem VT:AO ["one","other"] ["one","other"] (AG Jw):=scM
theorem Gf  (S:St.Src K mg "plus" Jw)(BJ:F1 P w K mg base):Oc P w K mg base:=by
 refine dfM 2 S VT λhr hu=>?_
 exact(AI (AQ (deM BJ hr (AA (AY Ag (AY An (AL AW (AB 0) AF) (AL AW (AB 1) AF)) (AY An (AL AW (AB 1) AF) (AL AW (AB 0) AF))) (AA (AY An (AL AW (AB 0) AF) (AL AW (AB 1) AF)) AD)))))
end
section
open PyProof.Rows (boot_isinstance boot_int boot_bool boot_tuple boot_str boot_list boot_abs boot_all boot_any boot_sum boot_max boot_min boot_range boot_enumerate boot_zip boot_sorted boot_set boot_divmod)
variable{P:nv}{w:oM}{K:KE}{mg:Str->nG Wp}{base:oE}
theorem Um:AO ["one","other"] ["one","other"] (AG Ju):=scM
theorem Gs  (S:St.Src K mg "less" Ju)(BJ:F1 P w K mg base):Ot P w K mg base:=by
 refine dfM 2 S Um λhr hu=>?_
 exact(AI (AQ (deM BJ hr (AA (AY GF (AY An (AL AW (AB 0) AF) (AL AW (AB 1) AF)) (AY An (AL AW (AB 1) AF) (AL AW (AB 0) AF))) (AA (AY An (AL AW (AB 0) AF) (AL AW (AB 1) AF)) AD)))))
theorem NM:AO ["ones","others"] ["ones","others"] (AG Ci):=scM
theorem La:Aa ["ones","others"] (AG Ci) ["one","other"] (ixC [] 2) (LY Ci 0):=csM
theorem IL:(["one","other"]:Gc Str).Nodup:=by decide+kernel
theorem Ce  (S:St.Src K mg "less_each" Ci)(B:Bts mg)(Gs:Ot P w K mg base):Hl P w K mg base:=by
 refine dfM 3 S NM λhr hu=>?_
 exact(AI (AQ (A6 A7 rfl B.tuple pq (AA (C3 [] 2 ["one","other"] rfl La (Nt rfl B.zip (AB 0) (AB 1)) (λs H fp=>⟨E9 rfl (AN (Ad 0 IL) (AN (Ad 1 IL) BX)),C8,deM Gs hr (AA (AB 0) (AA (AB 1) AD))⟩)) AD))))
theorem Sm:AO ["one","other"] ["one","other"] (AG IY):=scM
theorem FV  (S:St.Src K mg "times" IY)(BJ:F1 P w K mg base):Mj P w K mg base:=by
 refine dfM 2 S Sm λhr hu=>?_
 exact(AI (AQ (deM BJ hr (AA (AY An (AL AW (AB 0) AF) (AL AW (AB 1) AF)) (AA (AY An (AL AW (AB 0) AF) (AL AW (AB 1) AF)) AD)))))
theorem OF:AO ["one","weight","other","more","top"] ["one","weight","other","more"] (AG Ir):=scM
theorem IV  (S:St.Src K mg "mixed" Ir)(BJ:F1 P w K mg base):QA P w K mg base:=by
 refine dfM 2 S OF λhr hu=>?_
 exact(AH (Ap 4 (AY Ag (AY An (AY An (AL AW (AB 0) AF) (AL AW (AB 2) AF)) (AB 1)) (AY An (AY An (AL AW (AB 2) AF) (AL AW (AB 0) AF)) (AB 3))) OF.nd)
      (AI (AQ (deM BJ hr (AA (AB 4) (AA (AY An (AY An (AL AW (AB 0) AF) (AL AW (AB 2) AF)) (AY Ag (AB 1) (AB 3))) AD))))))
theorem Mf:AO ["held","load","pieces"] ["held","load","pieces"] (AG Dg):=scM
theorem A3  (S:St.Src K mg "has_pieces" Dg)(B:Bts mg):FI P w K mg base:=by
 refine dfM 0 S Mf λhr hu=>?_
 exact(AI (AQ (J6 (IA MB (AB 1) (BK C9 rfl B.len rV (AA (AB 0) AD))) (KA (IA VE (AL AW (AL AW (AB 0) (AB 1)) AF) (AB 2))))))
theorem O7:AO ["held","load","other"] ["held","load","other"] (AG FT):=scM
theorem FY  (S:St.Src K mg "can_pool" FT)(A3:FI P w K mg base):K8 P w K mg base:=by
 refine dfM 1 S O7 λhr hu=>?_
 exact(AI (AQ (J6 (deM A3 hr (AA (AB 0) (AA (AB 1) (AA AF AD)))) (J6 (deM A3 hr (AA (AB 0) (AA (AB 2) (AA AF AD)))) (KA (IA (Bq hu) (AL AW (AL AW (AB 0) (AB 1)) AF) (AL AW (AL AW (AB 0) (AB 2)) AF)))))))
end
section
open PyProof.Rows (boot_isinstance boot_int boot_bool boot_tuple boot_str boot_list boot_abs boot_all boot_any boot_sum boot_max boot_min boot_range boot_enumerate boot_zip boot_sorted boot_set boot_divmod)
variable{P:nv}{w:oM}{K:KE}{mg:Str->nG Wp}{base:oE}
theorem Og:AO ["held","load","given","kind"] ["held","load","given","kind"] (AG FW):=scM
theorem D9  (S:St.Src K mg "can_swap" FW)(A3:FI P w K mg base):LW P w K mg base:=by
 refine dfM 1 S Og λhr hu=>?_
 exact(AI (AQ (J6 (deM A3 hr (AA (AB 0) (AA (AB 1) (AA (AB 2) AD)))) (KA (IA (J3 hu) (AL AW (AL AW (AB 0) (AB 1)) AF) (AB 3))))))
theorem Ji:AO ["held","done","deed","word","numbers"] ["held","done","deed"] (AG E7):=scM
theorem O0:Aa ["held","done","deed","word","numbers"] (AG E7) ["other"] (ixC [] 1) (LY E7 0):=csM
theorem OO:(["other"]:Gc Str).Nodup:=by decide+kernel
theorem G9  (S:St.Src K mg "can_do" E7)(A3:FI P w K mg base)(FY:K8 P w K mg base)(D9:LW P w K mg base):N0 P w K mg base:=by
 refine dfM 2 S Ji λhr hu=>?_
 exact(AH (Ap 3 (AL AW (AB 2) AF) Ji.nd)
      (AH (CG (Aj (Bq hu) (AB 3) BB) (AI (AQ (deM FY hr (AA (AB 0) (AA (AL AW (AB 2) AF) (AA (AL AW (AB 2) AF) AD)))))) Av)
      (AH (CG (Aj (Bq hu) (AB 3) BB) (AI (AQ (deM D9 hr (AA (AB 0) (AA (AL AW (AB 2) AF) (AA (AL AW (AB 2) AF) (AA (AL AW (AB 2) AF) AD))))))) Av)
      (AH (CG (Aj (Bq hu) (AB 3) BB) (AH (El [] 1 ["other"] rfl Ji.nd rfl rfl O0 (Fs (AB 1)) (λs H fp=>⟨Ad 0 OO,Jk (Aj (Bq hu) (AL AW (AB 0) AF) BB),AL AW (AB 0) AF⟩))
      (AI (AQ (J6 (IA Mc (AL AW (AB 2) AF) (AB 4)) (KA (deM D9 hr (AA (AB 0) (AA (AL AW (AB 2) AF) (AA (AL AW (AB 2) AF) (AA (AL AW (AB 2) AF) AD)))))))))) Av)
      (AH (CG (Aj N2 (AB 3) (BZ (AA BB (AA BB AD)))) (AI (AQ (deM A3 hr (AA (AB 0) (AA (AL AW (AB 2) AF) (AA (AL AW (AB 2) AF) AD)))))) Av)
      (AI (AQ Je)))))))
theorem Em:AO ["held","load","pieces","kind","there"] ["held","load","pieces"] (AG Cn):=scM
theorem BS  (S:St.Src K mg "held_without" Cn):II P w K mg base:=by
 refine dfM 0 S Em λhr hu=>?_
 exact(AH (GD (AL AW (AB 0) (AB 1)) (E9 rfl (AN (Ad 3 Em.nd) (AN (Ad 4 Em.nd) BX))))
      (AI (AQ (AY Ag (AY Ag (MX (AB 0) (AB 1)) (Bv (AA (BZ (AA (AB 3) (AA (AY GF (AB 4) (AB 2)) AD))) AD))) (Ke (AB 0) (AY Ag (AB 1) AF))))))
theorem BD:AO ["held","deed","word","kind","pieces","more","load","given","got"] ["held","deed"] (AG C4):=scM
theorem Be  (S:St.Src K mg "held_behind" C4)(BS:II P w K mg base):GH P w K mg base:=by
 refine dfM 1 S BD λhr hu=>?_
 exact(AH (Ap 2 (AL AW (AB 1) AF) BD.nd)
      (AH (CG (Aj (Bq hu) (AB 2) BB) (AI (AQ (AY Ag (AB 0) (Bv (AA (BZ (AA (AL AW (AB 1) AF) (AA (AL AW (AB 1) AF) AD))) AD))))) Av)
      (AH (CG (Aj (Bq hu) (AB 2) BB) (AH (GD (AL AW (AB 0) (AL AW (AB 1) AF)) (E9 rfl (AN (Ad 3 BD.nd) (AN (Ad 4 BD.nd) BX))))
      (AH (Ap 5 (AL AW (AL AW (AB 0) (AL AW (AB 1) AF)) AF) BD.nd)
      (AI (AQ (AY Ag (deM BS hr (AA (deM BS hr (AA (AB 0) (AA (AL AW (AB 1) AF) (AA (AB 4) AD)))) (AA (AL AW (AB 1) AF) (AA (AB 5) AD)))) (Bv (AA (BZ (AA (AB 3) (AA (AY Ag (AB 4) (AB 5)) AD))) AD))))))) Av)
      (AH (CG (Aj N2 (AB 2) (BZ (AA BB (AA BB AD)))) (AH (GD (Ke (AB 1) (O2 HY AF)) (E9 rfl (AN (Ad 6 BD.nd) (AN (Ad 7 BD.nd) (AN (Ad 3 BD.nd) (AN (Ad 8 BD.nd) BX))))))
      (AI (AQ (AY Ag (deM BS hr (AA (AB 0) (AA (AB 6) (AA (AB 7) AD)))) (Bv (AA (BZ (AA (AB 3) (AA (AB 8) AD))) AD)))))) Av)
      (AH (CG (Aj N2 (AB 2) (BZ (AA BB (AA BB AD)))) (AI (AQ (deM BS hr (AA (AB 0) (AA (AL AW (AB 1) AF) (AA (AL AW (AB 1) AF) AD)))))) Av)
      (AI (AQ (AB 0))))))))
theorem KY:AO ["book"] ["book"] (AG BV):=scM
theorem JO:Aa ["book"] (AG BV) ["load"] (ixC [] 1) (LY BV 0):=csM
theorem JM:(["load"]:Gc Str).Nodup:=by decide+kernel
theorem BH  (S:St.Src K mg "held_at_first" BV):Es P w K mg base:=by
 refine dfM 0 S KY λhr hu=>?_
 exact(AI (AQ (C3 [] 1 ["load"] rfl JO (Fs (AL AW (AB 0) AF)) (λs H fp=>⟨Ad 0 JM,C8,BZ (AA (AL AW (AB 0) AF) (AA (AL AW (AB 0) AF) AD))⟩))))
theorem JQ:AO ["deed","word"] ["deed"] (AG EO):=scM
theorem EN  (S:St.Src K mg "made_from" EO)(B:Bts mg):KW P w K mg base:=by
 refine dfM 0 S JQ λhr hu=>?_
 exact(AH (Ap 1 (AL AW (AB 0) AF) JQ.nd)
      (AH (CG (Aj (Bq hu) (AB 1) BB) (AI (AQ (BK QI rfl B.sorted boot_sorted (AA (Bv (AA (AL AW (AB 0) AF) (AA (AL AW (AB 0) AF) AD))) AD)))) Av)
      (AH (CG (Aj N2 (AB 1) (BZ (AA BB (AA BB AD)))) (AI (AQ (Bv (AA (AL AW (AB 0) (O2 HY AF)) AD)))) Av)
      (AI (AQ (Bv AD))))))
end
section
open PyProof.Rows (boot_isinstance boot_int boot_bool boot_tuple boot_str boot_list boot_abs boot_all boot_any boot_sum boot_max boot_min boot_range boot_enumerate boot_zip boot_sorted boot_set boot_divmod)
variable{P:nv}{w:oM}{K:KE}{mg:Str->nG Wp}{base:oE}
theorem B2:AO ["book","held","deeds","at","deed"] ["book"] (AG DN):=scM
theorem DF  (S:St.Src K mg "first_wrong" DN)(B:Bts mg)(G9:N0 P w K mg base)(Be:GH P w K mg base)(BH:Es P w K mg base):Ii P w K mg base:=by
 refine dfM 3 S B2 λhr hu=>?_
 exact(AH (Ap 1 (deM BH hr (AA (AB 0) AD)) B2.nd)
      (AH (Ap 2 (AL AW (AB 0) AF) B2.nd)
      (AH (Ik pC rfl (UU rfl B.enumerate (AB 2)) (E9 rfl (AN (Ad 3 B2.nd) (AN (Ad 4 B2.nd) BX))) (AH (CG (SF (R3 (deM G9 hr (AA (AB 1) (AA (MX (AB 2) (AB 3)) (AA (AB 4) AD)))))) (AI (AQ (AB 3))) Av)
      (AI (Ap 1 (deM Be hr (AA (AB 1) (AA (AB 4) AD))) B2.nd))))
      (AI (AQ RW)))))
theorem Gh:AO ["book","wrong"] ["book"] (AG CI):=scM
theorem AZ  (S:St.Src K mg "refuse_undone" CI)(DF:Ii P w K mg base):CQ P w K mg base:=by
 refine dfM 4 S Gh λhr hu=>?_
 exact(AH (Ap 1 (deM DF hr (AA (AB 0) AD)) Gh.nd)
      (AI (CG (Aj Xi (AB 1) RW) (AI Rz) Av)))
theorem OZ:AO ["book","thing"] ["book","thing"] (AG FQ):=scM
theorem FU  (S:St.Src K mg "is_place" FQ)(B:Bts mg)(ER:KD P w K mg base):LG P w K mg base:=by
 refine dfM 3 S OZ λhr hu=>?_
 exact(AI (AQ (deM ER hr (AA (AB 1) (AA AF (AA (AY GF (BK C9 rfl B.len rV (AA (AL AW (AB 0) AF) AD)) AF) AD))))))
theorem Lh:AO ["book","word","thing"] ["book","word","thing"] (AG Cy):=scM
theorem Bf  (S:St.Src K mg "is_place_of" Cy)(FU:LG P w K mg base):GI P w K mg base:=by
 refine dfM 4 S Lh λhr hu=>?_
 exact(AI (AQ (J6 (deM FU hr (AA (AB 0) (AA (AB 2) AD))) (KA (IA (Bq hu) (AL AW (AL AW (AL AW (AB 0) AF) (AB 2)) AF) (AB 1))))))
theorem Mm:AO ["many","one"] ["many","one"] (AG CC):=scM
theorem Kj:Aa ["many","one"] (AG CC) ["one","at"] (ixC [1] 1) (LY CC 0):=csM
theorem Kt:(["one","at"]:Gc Str).Nodup:=by decide+kernel
theorem Df  (S:St.Src K mg "all_to_one" CC)(B:Bts mg)(RK:Tj K mg "ALL" Ui)(Dj:Tj K mg "NOTHING" Ef):JV P w K mg base:=by
 refine dfM 0 S Mm λhr hu=>?_
 exact(AI (AQ (A6 A7 rfl B.tuple pq (AA (C3 [1] 1 ["one","at"] rfl Kj (G3 rfl B.range (AA (AB 0) AD)) (λs H fp=>⟨Ad 1 Kt,C8,ie (Aj (Bq hu) (AB 1) (AB 0)) (PH RK rfl) (PH Dj rfl)⟩)) AD))))
theorem Ks:AO ["shares","weight","others","more"] ["shares","weight","others","more"] (AG Bm):=scM
theorem Jg:Aa ["shares","weight","others","more"] (AG Bm) ["weight","more","share","other"] (ixC [1,3] 2) (LY Bm 0):=csM
theorem GJ:(["weight","more","share","other"]:Gc Str).Nodup:=by decide+kernel
theorem BR  (S:St.Src K mg "mixed_shares" Bm)(B:Bts mg)(IV:QA P w K mg base):Fq P w K mg base:=by
 refine dfM 3 S Ks λhr hu=>?_
 exact(AI (AQ (A6 A7 rfl B.tuple pq (AA (C3 [1,3] 2 ["weight","more","share","other"] rfl Jg (Nt rfl B.zip (AB 0) (AB 2)) (λs H fp=>⟨E9 rfl (AN (Ad 2 GJ) (AN (Ad 3 GJ) BX)),C8,deM IV hr (AA (AB 2) (AA (AB 0) (AA (AB 3) (AA (AB 1) AD))))⟩)) AD))))
end
section
open PyProof.Rows (boot_isinstance boot_int boot_bool boot_tuple boot_str boot_list boot_abs boot_all boot_any boot_sum boot_max boot_min boot_range boot_enumerate boot_zip boot_sorted boot_set boot_divmod)
variable{P:nv}{w:oM}{K:KE}{mg:Str->nG Wp}{base:oE}
theorem Dk:AO ["held","shares","deed","sources","load","other"] ["held","shares","deed"] (AG C1):=scM
theorem DJ  (S:St.Src K mg "made_shares" C1)(B:Bts mg)(EN:KW P w K mg base)(BR:Fq P w K mg base):Ib P w K mg base:=by
 refine dfM 4 S Dk λhr hu=>?_
 exact(AH (Ap 3 (deM EN hr (AA (AB 2) AD)) Dk.nd)
      (AH (CG (Aj (Bq hu) (BK C9 rfl B.len rV (AA (AB 3) AD)) AF) (AI (AQ (AL AW (AB 1) (AL AW (AB 3) AF)))) Av)
      (AH (GD (AB 3) (E9 rfl (AN (Ad 4 Dk.nd) (AN (Ad 5 Dk.nd) BX))))
      (AI (AQ (deM BR hr (AA (AL AW (AB 1) (AB 4)) (AA (AL AW (AL AW (AB 0) (AB 4)) AF) (AA (AL AW (AB 1) (AB 5)) (AA (AL AW (AL AW (AB 0) (AB 5)) AF) AD))))))))))
theorem Kq:AO ["train","held","worths"] ["train","held","worths"] (AG Bp):=scM
theorem Jm:Aa ["train","held","worths"] (AG Bp) ["worths","kind","pieces"] (ixC [2] 2) (LY Bp 0):=csM
theorem GG:(["worths","kind","pieces"]:Gc Str).Nodup:=by decide+kernel
theorem Ck  (S:St.Src K mg "worth_of_all" Bp)(B:Bts mg):IG P w K mg base:=by
 refine dfM 0 S Kq λhr hu=>?_
 exact(AI (AQ (AY Ag (BK (J2 rfl) rfl B.sum xk (AA (C3 [2] 2 ["worths","kind","pieces"] rfl Jm (Fs (AB 1)) (λs H fp=>⟨E9 rfl (AN (Ad 1 GG) (AN (Ad 2 GG) BX)),C8,AY An (AB 2) (AL AW (AB 0) (AB 1))⟩)) AD)) (AY An (AL AW (AB 0) AF) (AL AW (AB 2) (O2 HY AF))))))
theorem Dm:AO ["train","held","deed","load","pieces","worths"] ["train","held","deed"] (AG DH):=scM
theorem C7  (S:St.Src K mg "part_thrown" DH)(BJ:F1 P w K mg base)(Ck:IG P w K mg base):Iu P w K mg base:=by
 refine dfM 2 S Dm λhr hu=>?_
 exact(AH (GD (Ke (AB 2) AF) (E9 rfl (AN (Ad 3 Dm.nd) (AN (Ad 4 Dm.nd) (AN (Ad 5 Dm.nd) BX)))))
      (AI (AQ (deM BJ hr (AA (AY An (AB 4) (AL AW (AB 5) (AL AW (AL AW (AB 1) (AB 3)) AF))) (AA (deM Ck hr (AA (AB 0) (AA (AB 1) (AA (AB 5) AD)))) AD))))))
theorem EZ:AO ["train","held","owners","deed","shares","top","bottom"] ["train","held","owners","deed","shares"] (AG CO):=scM
theorem CP  (S:St.Src K mg "thrown_shares" CO)(BR:Fq P w K mg base)(C7:Iu P w K mg base):HQ P w K mg base:=by
 refine dfM 4 S EZ λhr hu=>?_
 exact(AH (GD (deM C7 hr (AA (AB 0) (AA (AB 1) (AA (AB 3) AD)))) (E9 rfl (AN (Ad 5 EZ.nd) (AN (Ad 6 EZ.nd) BX))))
      (AI (AQ (deM BR hr (AA (AB 4) (AA (AY GF (AB 6) (AB 5)) (AA (AL AW (AB 2) (AL AW (AB 3) AF)) (AA (AB 5) AD))))))))
theorem B3:AO ["deed","shares","partner","other","sold","passed","changed"] ["deed","shares"] (AG Cz):=scM
theorem C5  (S:St.Src K mg "sold_shares" Cz)(B:Bts mg)(Gf:Oc P w K mg base)(Gs:Ot P w K mg base)(FV:Mj P w K mg base):Ia P w K mg base:=by
 refine dfM 3 S B3 λhr hu=>?_
 exact(AH (GD (Ke (AB 0) AF) (E9 rfl (AN (Ad 2 B3.nd) (AN (Ad 3 B3.nd) (AN (Ad 4 B3.nd) BX)))))
      (AH (Ap 5 (deM FV hr (AA (AL AW (AB 1) (AB 2)) (AA (AB 4) AD))) B3.nd)
      (AH (Ap 6 (A6 Kn rfl B.list uZ (AA (AB 1) AD)) B3.nd)
      (AH (B7 (deM Gs hr (AA (AL AW (AB 1) (AB 2)) (AA (AB 5) AD))) (AB 6) (AB 2))
      (AH (B7 (deM Gf hr (AA (AL AW (AB 1) (AB 3)) (AA (AB 5) AD))) (AB 6) (AB 3))
      (AI (AQ (A6 A7 rfl B.tuple pq (AA (AB 6) AD)))))))))
theorem KS:AO ["train","held","owners","deed","shares"] ["train","held","owners","deed","shares"] (AG CN):=scM
theorem BI  (S:St.Src K mg "shares_behind" CN)(CP:HQ P w K mg base)(C5:Ia P w K mg base):E5 P w K mg base:=by
 refine dfM 5 S KS λhr hu=>?_
 exact(AH (CG (Aj (Bq hu) (AL AW (AB 3) AF) BB) (AI (AQ (deM CP hr (AA (AB 0) (AA (AB 1) (AA (AB 2) (AA (AB 3) (AA (AB 4) AD)))))))) Av)
      (AH (CG (Aj (Bq hu) (AL AW (AB 3) AF) BB) (AI (AQ (deM C5 hr (AA (AB 3) (AA (AB 4) AD))))) Av)
      (AI (AQ (AB 4)))))
end
section
open PyProof.Rows (boot_isinstance boot_int boot_bool boot_tuple boot_str boot_list boot_abs boot_all boot_any boot_sum boot_max boot_min boot_range boot_enumerate boot_zip boot_sorted boot_set boot_divmod)
variable{P:nv}{w:oM}{K:KE}{mg:Str->nG Wp}{base:oE}
theorem Gj:AO ["train","held","owners","deed","behind"] ["train","held","owners","deed"] (AG BY):=scM
theorem JL:Aa ["train","held","owners","deed","behind"] (AG BY) ["train","held","owners","deed","shares"] (ixC [0,1,2,3] 1) (LY BY 0):=csM
theorem JN:(["train","held","owners","deed","shares"]:Gc Str).Nodup:=by decide+kernel
theorem CL  (S:St.Src K mg "owners_behind" BY)(Hc:Tj K mg "MAKERS" Dl)(Df:JV P w K mg base)(DJ:Ib P w K mg base)(BI:E5 P w K mg base):HC P w K mg base:=by
 refine dfM 6 S Gj λhr hu=>?_
 exact(AH (El [0,1,2,3] 1 ["train","held","owners","deed","shares"] rfl Gj.nd rfl rfl JL (Fs (AB 2)) (λs H fp=>⟨Ad 4 JN,C8,deM BI hr (AA (AB 0) (AA (AB 1) (AA (AB 2) (AA (AB 3) (AA (AB 4) AD)))))⟩))
      (AH (CG (Aj (Bq hu) (AL AW (AB 3) AF) BB) (AI (AQ (AY Ag (AB 4) (Bv (AA (deM Df hr (AA (AL AW (AB 0) AF) (AA (AL AW (AB 3) AF) AD))) AD))))) Av)
      (AH (CG (Aj N2 (AL AW (AB 3) AF) (PH Hc rfl)) (AI (AQ (AY Ag (AB 4) (Bv (AA (deM DJ hr (AA (AB 1) (AA (AB 2) (AA (AB 3) AD)))) AD))))) Av)
      (AI (AQ (AB 4))))))
theorem BP:AO ["book","many","train","first","deeds","held","owners","holders","deed"] ["book","many"] (AG DM):=scM
theorem MH:Aa ["book","many","train","first","deeds","held","owners","holders","deed"] (AG DM) ["load"] (ixC [] 1) (LY DM 0):=csM
theorem MT:(["load"]:Gc Str).Nodup:=by decide+kernel
theorem Fg  (S:St.Src K mg "state_by" DM)(Be:GH P w K mg base)(BH:Es P w K mg base)(BI:E5 P w K mg base)(CL:HC P w K mg base):LK P w K mg base:=by
 refine dfM 7 S BP λhr hu=>?_
 exact(AH (GD (AB 0) (E9 rfl (AN (Ad 2 BP.nd) (AN (Ad 3 BP.nd) (AN (Ad 4 BP.nd) BX)))))
      (AH (Ap 5 (deM BH hr (AA (AB 0) AD)) BP.nd)
      (AH (El [] 1 ["load"] rfl BP.nd rfl rfl MH (Fs (AB 3)) (λs H fp=>⟨Ad 0 MT,C8,AL AW (AB 0) AF⟩))
      (AH (Ap 7 (AL AW (AB 2) AF) BP.nd)
      (AH (Ik pC rfl (Fs (MX (AB 4) (AB 1))) (Ad 8 BP.nd) (AH (Ap 7 (deM BI hr (AA (AB 2) (AA (AB 5) (AA (AB 6) (AA (AB 8) (AA (AB 7) AD)))))) BP.nd)
      (AH (Ap 6 (deM CL hr (AA (AB 2) (AA (AB 5) (AA (AB 6) (AA (AB 8) AD))))) BP.nd)
      (AI (Ap 5 (deM Be hr (AA (AB 5) (AA (AB 8) AD))) BP.nd)))))
      (AI (AQ (BZ (AA (AB 5) (AA (AB 6) (AA (AB 7) AD)))))))))))
theorem B9:AO ["kinds","held","shares","sums","share","kind","pieces"] ["kinds","held","shares"] (AG CK):=scM
theorem CM  (S:St.Src K mg "sums_by_kinds" CK)(B:Bts mg)(Dj:Tj K mg "NOTHING" Ef)(Gf:Oc P w K mg base)(FV:Mj P w K mg base):G5 P w K mg base:=by
 refine dfM 3 S B9 λhr hu=>?_
 exact(AH (Ap 3 (AY An (Bv (AA (PH Dj rfl) AD)) (AB 0)) B9.nd)
      (AH (Ik pC rfl (Nt rfl B.zip (AB 1) (AB 2)) (E9 rfl (AN (E9 rfl (AN (Ad 5 B9.nd) (AN (Ad 6 B9.nd) BX))) (AN (Ad 4 B9.nd) BX))) (AI (B7 (deM Gf hr (AA (AL AW (AB 3) (AB 5)) (AA (deM FV hr (AA (BZ (AA (AB 6) (AA AF AD))) (AA (AB 4) AD))) AD))) (AB 3) (AB 5))))
      (AI (AQ (A6 A7 rfl B.tuple pq (AA (AB 3) AD))))))
theorem B4:AO ["book","many","partners","kinds","held","owners","holders"] ["book","many"] (AG BC):=scM
theorem KZ:Aa ["book","many","partners","kinds","held","owners","holders"] (AG BC) ["kinds","held","owners","partner"] (ixC [3,4,5] 1) (LY BC 0):=csM
theorem KI:(["kinds","held","owners","partner"]:Gc Str).Nodup:=by decide+kernel
theorem J1:Aa ["kinds","held","owners","partner"] (iy (LY BC 0) (AG BC)) ["partner","shares"] (ixC [3] 1) (LY BC 1):=csM
theorem Jz:(["partner","shares"]:Gc Str).Nodup:=by decide+kernel
theorem Bg  (S:St.Src K mg "theirs_told" BC)(B:Bts mg)(Fg:LK P w K mg base)(CM:G5 P w K mg base):GR P w K mg base:=by
 refine dfM 8 S B4 λhr hu=>?_
 exact(AH (GD (MX (AL AW (AB 0) AF) AF) (E9 rfl (AN (Ad 2 B4.nd) (AN (Ad 3 B4.nd) BX))))
      (AH (GD (deM Fg hr (AA (AB 0) (AA (AB 1) AD))) (E9 rfl (AN (Ad 4 B4.nd) (AN (Ad 5 B4.nd) (AN (Ad 6 B4.nd) BX)))))
      (AI (AQ (C3 [3,4,5] 1 ["kinds","held","owners","partner"] rfl KZ (G3 rfl B.range (AA (AB 2) AD)) (λs H fp=>⟨Ad 3 KI,C8,deM CM hr (AA (AB 0) (AA (AB 1) (AA (C3 [3] 1 ["partner","shares"] rfl J1 (Fs (AB 2)) (λs H fp=>⟨Ad 1 Jz,C8,AL AW (AB 1) (AB 0)⟩)) AD)))⟩))))))
theorem GY:AO ["book","place"] ["book","place"] (AG BM):=scM
theorem A8  (S:St.Src K mg "refuse_no_sale" BM)(Bf:GI P w K mg base)(Hf:XcD K mg "NoSale"):EK P w K mg base:=by
 refine Qu (k:=5) S GY rfl (λf fd F=>F.binds λ_ _ _ _ _ _ us hl=>match us,hl with| [_,_],_=>rfl) λf cdv A outer s H E hr=>?_
 have hu:=MJ hr
 exact(Vk (ja (SF (R3 (deM Bf hr (AA (AB 0) (AA BB (AA (AB 1) AD)))))) (Vk (YR rfl Hf rfl (AA BB AD))) Ua))
theorem AV  (S:St.Src K mg "refuse_no_sale" BM)(Bf:GI P w K mg base):B8 P w K mg base:=by
 refine dfM 5 S GY λhr hu=>?_
 exact(AI (CG (SF (R3 (deM Bf hr (AA (AB 0) (AA BB (AA (AB 1) AD)))))) (AI Rz) Av))
theorem DQ:AO ["book","place","train","first","deeds"] ["book","place"] (AG Cj):=scM
theorem Ak  (S:St.Src K mg "without_deed" Cj):Co P w K mg base:=by
 refine dfM 0 S DQ λhr hu=>?_
 exact(AH (GD (AB 0) (E9 rfl (AN (Ad 2 DQ.nd) (AN (Ad 3 DQ.nd) (AN (Ad 4 DQ.nd) BX)))))
      (AI (AQ (BZ (AA (AB 2) (AA (AB 3) (AA (AY Ag (MX (AB 4) (AB 1)) (Ke (AB 4) (AY Ag (AB 1) AF))) AD)))))))
end
section
open PyProof.Rows (boot_isinstance boot_int boot_bool boot_tuple boot_str boot_list boot_abs boot_all boot_any boot_sum boot_max boot_min boot_range boot_enumerate boot_zip boot_sorted boot_set boot_divmod)
variable{P:nv}{w:oM}{K:KE}{mg:Str->nG Wp}{base:oE}
theorem Mn:AO ["book","place"] ["book","place"] (AG E8):=scM
theorem F3  (S:St.Src K mg "unsold" E8)(AZ:CQ P w K mg base)(AV:B8 P w K mg base)(Ak:Co P w K mg base)(A8:EK P w K mg base):Nl P w K mg base:=by
 refine Qu (k:=6) S Mn rfl (λf fd F=>F.binds λ_ _ _ _ _ _ us hl=>match us,hl with| [_,_],_=>rfl) λf cdv A outer s H E hr=>?_
 have hu:=MJ hr
 exact(Lq dZ (Ct (deM AZ hr (AA (AB 0) AD)))
      (Lq (Vj (Km A8 (hr.mono (by decide)) rfl (AA (AB 0) (AA (AB 1) AD)))) (Ct (deM AV hr (AA (AB 0) (AA (AB 1) AD))))
      Ua))
theorem F4  (S:St.Src K mg "unsold" E8)(AZ:CQ P w K mg base)(AV:B8 P w K mg base)(Ak:Co P w K mg base):Nk P w K mg base:=by
 refine dfM 6 S Mn λhr hu=>?_
 exact(AH (Ct (deM AZ hr (AA (AB 0) AD)))
      (AH (Ct (deM AV hr (AA (AB 0) (AA (AB 1) AD))))
      (AI (AQ (deM Ak hr (AA (AB 0) (AA (AB 1) AD)))))))
theorem FH:AO ["book","place","without","with_it","without_it"] ["book","place"] (AG Bt):=scM
theorem LZ:Aa ["book","place","without","with_it","without_it"] (AG Bt) ["theirs","others"] (ixC [] 2) (LY Bt 0):=csM
theorem IE:(["theirs","others"]:Gc Str).Nodup:=by decide+kernel
theorem DZ  (S:St.Src K mg "turned_by" Bt)(B:Bts mg)(Ce:Hl P w K mg base)(AZ:CQ P w K mg base)(Bg:GR P w K mg base)(AV:B8 P w K mg base)(Ak:Co P w K mg base)(A8:EK P w K mg base):Ka P w K mg base:=by
 refine Qu (k:=9) S FH rfl (λf fd F=>F.binds λ_ _ _ _ _ _ us hl=>match us,hl with| [_,_],_=>rfl) λf cdv A outer s H E hr=>?_
 have hu:=MJ hr
 exact(Lq dZ (Ct (deM AZ hr (AA (AB 0) AD)))
      (Lq (Vj (Km A8 (hr.mono (by decide)) rfl (AA (AB 0) (AA (AB 1) AD)))) (Ct (deM AV hr (AA (AB 0) (AA (AB 1) AD))))
      Ua))
theorem DP  (S:St.Src K mg "turned_by" Bt)(B:Bts mg)(Ce:Hl P w K mg base)(AZ:CQ P w K mg base)(Bg:GR P w K mg base)(AV:B8 P w K mg base)(Ak:Co P w K mg base):KN P w K mg base:=by
 refine dfM 9 S FH λhr hu=>?_
 exact(AH (Ct (deM AZ hr (AA (AB 0) AD)))
      (AH (Ct (deM AV hr (AA (AB 0) (AA (AB 1) AD))))
      (AH (Ap 2 (deM Ak hr (AA (AB 0) (AA (AB 1) AD))) FH.nd)
      (AH (LN (i:=3) (j:=4) rfl FH.nd rfl rfl (by decide) rfl rfl (deM Bg hr (AA (AB 0) (AA (BK C9 rfl B.len rV (AA (AL AW (AB 0) AF) AD)) AD))) (deM Bg hr (AA (AB 2) (AA (BK C9 rfl B.len rV (AA (AL AW (AB 2) AF) AD)) AD))))
      (AI (AQ (A6 A7 rfl B.tuple pq (AA (C3 [] 2 ["theirs","others"] rfl LZ (Nt rfl B.zip (AB 3) (AB 4)) (λs H fp=>⟨E9 rfl (AN (Ad 0 IE) (AN (Ad 1 IE) BX)),C8,deM Ce hr (AA (AB 0) (AA (AB 1) AD))⟩)) AD))))))))
theorem Sk:AO ["_law_cell"] ["_law_cell"] (AG Iw):=scM
theorem JB  (S:St.Src K mg "_law_pen" Iw)(B:Bts mg):Ph P w K mg base:=by
 refine dfM 0 S Sk λhr hu=>?_
 exact(AI (AQ (Bv (AA (AB 0) (AA (A6 Mx rfl B.int wL (AA (IA VE (AB 0) (AY PB AF AF)) AD)) (AA AF (AA (AY Gx (AB 0) AF) AD)))))))
theorem NS:AO ["_law_script","_law_k"] ["_law_script","_law_k"] (AG EI):=scM
theorem Ec  (S:St.Src K mg "_law_cell_at" EI)(B:Bts mg):KG P w K mg base:=by
 refine dfM 0 S NS λhr hu=>?_
 exact(AH (CG (Aj MB (AB 1) (BK C9 rfl B.len rV (AA (AB 0) AD))) (AI (AQ (AL AW (AB 0) (AB 1)))) Av)
      (AI (AQ AF)))
theorem Hn:AO ["_law_pen_here","_law_bound","_law_found","_law_stir"] ["_law_pen_here","_law_bound"] (AG HN):=scM
theorem AM  (S:St.Src K mg "_law_draw" HN):Cs P w K mg base:=by
 refine dfM 0 S Hn λhr hu=>?_
 exact(AH (CG (DW.dt (Px (Aj (Bq hu) (AL AW (AB 0) AF) AF) (MV (Aj Pd (AL AW (AB 0) AF) AF)))) (AH (Ap 2 (AY Gx (AL AW (AB 0) AF) (AB 1)) Hn.nd)
      (AH (B7 (AY Hh (AL AW (AB 0) AF) (AB 1)) (AB 0) AF)
      (AI (AQ (AB 2))))) Av)
      (AH (B7 (AY Ag (AL AW (AB 0) AF) AF) (AB 0) AF)
      (AH (Ap 3 (AY Gx (AY An (AY Ag (AL AW (AB 0) AF) AF) (AY Ag AF (AY An AF (AL AW (AB 0) AF)))) AF) Hn.nd)
      (AH (Ap 3 (AY Gx (AY Ag (AY Ag (AY An (AB 3) (AB 3)) (AY An AF (AL AW (AB 0) AF))) AF) AF) Hn.nd)
      (AI (AQ (AY Gx (AY Hh (AY Gx (AY An (AB 3) AF) AF) AF) (AB 1))))))))
theorem J0:AO ["_law_one","_law_other"] ["_law_one","_law_other"] (AG Fh):=scM
theorem FP  (S:St.Src K mg "_law_common" Fh):LV P w K mg base:=by
 refine dfM 0 S J0 λhr hu=>?_
 exact(AH (Rj (TK 1) pC (Aj Pd (AB 1) AF) (AI (LN (i:=0) (j:=1) rfl J0.nd rfl rfl (by decide) rfl rfl (AB 1) (AY Gx (AB 0) (AB 1)))))
      (AI (AQ (AB 0))))
end
section
open PyProof.Rows (boot_isinstance boot_int boot_bool boot_tuple boot_str boot_list boot_abs boot_all boot_any boot_sum boot_max boot_min boot_range boot_enumerate boot_zip boot_sorted boot_set boot_divmod)
variable{P:nv}{w:oM}{K:KE}{mg:Str->nG Wp}{base:oE}
theorem Ml:AO ["_law_top","_law_bottom","_law_by"] ["_law_top","_law_bottom"] (AG G8):=scM
theorem Ax  (S:St.Src K mg "_law_made" G8)(B:Bts mg)(FP:LV P w K mg base):Ew P w K mg base:=by
 refine dfM 1 S Ml λhr hu=>?_
 exact(AH (Ap 2 (deM FP hr (AA (BK MW rfl B.abs zr (AA (AB 0) AD)) (AA (AB 1) AD))) Ml.nd)
      (AI (AQ (BZ (AA (AY Hh (AB 0) (AB 2)) (AA (AY Hh (AB 1) (AB 2)) AD))))))
theorem K2:AO ["_law_pen_here","_law_many","_law_weights"] ["_law_pen_here","_law_many"] (AG Cf):=scM
theorem NW:Aa ["_law_pen_here","_law_many","_law_weights"] (AG Cf) ["_law_pen_here","_law_one"] (ixC [0] 1) (LY Cf 0):=csM
theorem NP:(["_law_pen_here","_law_one"]:Gc Str).Nodup:=by decide+kernel
theorem NJ:Aa ["_law_pen_here","_law_many","_law_weights"] (AG Cf) ["_law_weights","_law_weight"] (ixC [2] 1) (LY Cf 1):=csM
theorem NL:(["_law_weights","_law_weight"]:Gc Str).Nodup:=by decide+kernel
theorem DC  (S:St.Src K mg "_law_whole" Cf)(B:Bts mg)(AM:Cs P w K mg base)(Ax:Ew P w K mg base):JZ P w K mg base:=by
 refine dfM 2 S K2 λhr hu=>?_
 exact(AH (Ap 2 (C3 [0] 1 ["_law_pen_here","_law_one"] rfl NW (G3 rfl B.range (AA (AB 1) AD)) (λs H fp=>⟨Ad 1 NP,C8,AL AW (Bv (AA AF (AA AF (AA (deM AM hr (AA (AB 0) (AA AF AD))) (AA (deM AM hr (AA (AB 0) (AA AF AD))) AD))))) (deM AM hr (AA (AB 0) (AA AF AD)))⟩)) K2.nd)
      (AH (CG (Aj (Bq hu) (BK (J2 rfl) rfl B.sum xk (AA (AB 2) AD)) AF) (AI (B7 AF (AB 2) (deM AM hr (AA (AB 0) (AA (AB 1) AD))))) Av)
      (AI (AQ (A6 A7 rfl B.tuple pq (AA (C3 [2] 1 ["_law_weights","_law_weight"] rfl NJ (Fs (AB 2)) (λs H fp=>⟨Ad 1 NL,C8,deM Ax hr (AA (AB 1) (AA (BK (J2 rfl) rfl B.sum xk (AA (AB 0) AD)) AD))⟩)) AD))))))
theorem Ie:AO ["_law_pen_here","_law_partners","_law_kinds","_law_beasts"] ["_law_pen_here"] (AG GN):=scM
theorem F9  (S:St.Src K mg "_law_train" GN)(AM:Cs P w K mg base)(DC:JZ P w K mg base):MG P w K mg base:=by
 refine dfM 3 S Ie λhr hu=>?_
 exact(AH (LN (i:=1) (j:=2) rfl Ie.nd rfl rfl (by decide) rfl rfl (AY Ag AF (deM AM hr (AA (AB 0) (AA AF AD)))) (AY Ag AF (deM AM hr (AA (AB 0) (AA AF AD)))))
      (AH (Ap 3 (AL AW (Bv (AA (AY Ag AF (deM AM hr (AA (AB 0) (AA AF AD)))) (AA (AY Ag AF (deM AM hr (AA (AB 0) (AA AF AD)))) AD))) (deM AM hr (AA (AB 0) (AA AF AD)))) Ie.nd)
      (AI (AQ (BZ (AA (AB 1) (AA (AB 2) (AA (AB 3) (AA (deM DC hr (AA (AB 0) (AA (AB 1) AD))) (AA (deM AM hr (AA (AB 0) (AA AF AD))) (AA (deM AM hr (AA (AB 0) (AA AF AD))) AD)))))))))))
theorem J4:AO ["_law_pen_here","_law_great"] ["_law_pen_here"] (AG Fc):=scM
theorem Bu  (S:St.Src K mg "_law_pieces" Fc)(AM:Cs P w K mg base):Ih P w K mg base:=by
 refine dfM 1 S J4 λhr hu=>?_
 exact(AH (Ap 1 (AY Ag (AY PB AF AF) (deM AM hr (AA (AB 0) (AA AF AD)))) J4.nd)
      (AI (AQ (AL AW (Bv (AA (AY Ag AF (deM AM hr (AA (AB 0) (AA AF AD)))) (AA (AY Ag AF (deM AM hr (AA (AB 0) (AA AF AD)))) (AA (AY Ag AF (deM AM hr (AA (AB 0) (AA AF AD)))) (AA (AB 1) AD))))) (AY Hh (deM AM hr (AA (AB 0) (AA AF AD))) AF)))))
theorem JA:AO ["_law_pen_here","_law_train_here","_law_found","_law_k"] ["_law_pen_here","_law_train_here"] (AG GP):=scM
theorem GC  (S:St.Src K mg "_law_first" GP)(B:Bts mg)(AM:Cs P w K mg base)(DC:JZ P w K mg base)(Bu:Ih P w K mg base):Mu P w K mg base:=by
 refine dfM 3 S JA λhr hu=>?_
 exact(AH (Ap 2 (Bv AD) JA.nd)
      (AH (Ik pC rfl (G3 rfl B.range (AA (AL AW (Bv (AA AF (AA AF (AA (deM AM hr (AA (AB 0) (AA AF AD))) AD)))) (deM AM hr (AA (AB 0) (AA AF AD)))) AD)) (Ad 3 JA.nd) (AI (Ct (LO ou pM Ja (AB 2) (AA (BZ (AA (deM AM hr (AA (AB 0) (AA (AL AW (AB 1) AF) AD))) (AA (deM Bu hr (AA (AB 0) AD)) (AA (deM DC hr (AA (AB 0) (AA (AL AW (AB 1) AF) AD))) AD)))) AD)))))
      (AI (AQ (A6 A7 rfl B.tuple pq (AA (AB 2) AD))))))
theorem QY:AO ["_law_book_here"] ["_law_book_here"] (AG Dr):=scM
theorem NN:Aa ["_law_book_here"] (AG Dr) ["_law_load"] (ixC [] 1) (LY Dr 0):=csM
theorem NQ:(["_law_load"]:Gc Str).Nodup:=by decide+kernel
theorem GB  (S:St.Src K mg "_law_begun" Dr)(B:Bts mg):L6 P w K mg base:=by
 refine dfM 0 S QY λhr hu=>?_
 exact(AI (AQ (Bv (AA (C3 [] 1 ["_law_load"] rfl NN (Fs (AL AW (AB 0) AF)) (λs H fp=>⟨Ad 0 NQ,C8,A6 Kn rfl B.list uZ (AA (AB 0) AD)⟩)) (AA (A6 A7 rfl B.tuple pq (AA (AL AW (AL AW (AB 0) AF) AF) AD)) (AA (Bv AD) AD))))))
end
section
open PyProof.Rows (boot_isinstance boot_int boot_bool boot_tuple boot_str boot_list boot_abs boot_all boot_any boot_sum boot_max boot_min boot_range boot_enumerate boot_zip boot_sorted boot_set boot_divmod)
variable{P:nv}{w:oM}{K:KE}{mg:Str->nG Wp}{base:oE}
theorem LP:AO ["_law_pen_here","_law_bottom"] ["_law_pen_here"] (AG GQ):=scM
theorem GV  (S:St.Src K mg "_law_share" GQ)(AM:Cs P w K mg base)(Ax:Ew P w K mg base):Mr P w K mg base:=by
 refine dfM 2 S LP λhr hu=>?_
 exact(AH (Ap 1 (AY Ag AF (deM AM hr (AA (AB 0) (AA AF AD)))) LP.nd)
      (AI (AQ (deM Ax hr (AA (AY Ag AF (deM AM hr (AA (AB 0) (AA (AB 1) AD)))) (AA (AB 1) AD))))))
theorem OT:AO ["_law_pen_here","_law_many"] ["_law_pen_here","_law_many"] (AG Cw):=scM
theorem Md:Aa ["_law_pen_here","_law_many"] (AG Cw) ["_law_pen_here","_law_one"] (ixC [0] 1) (LY Cw 0):=csM
theorem Mb:(["_law_pen_here","_law_one"]:Gc Str).Nodup:=by decide+kernel
theorem FO  (S:St.Src K mg "_law_worths" Cw)(B:Bts mg)(AM:Cs P w K mg base):LQ P w K mg base:=by
 refine dfM 1 S OT λhr hu=>?_
 exact(AI (AQ (A6 A7 rfl B.tuple pq (AA (C3 [0] 1 ["_law_pen_here","_law_one"] rfl Md (G3 rfl B.range (AA (AB 1) AD)) (λs H fp=>⟨Ad 1 Mb,C8,AY Ag AF (AL AW (Bv (AA (deM AM hr (AA (AB 0) (AA AF AD))) (AA (deM AM hr (AA (AB 0) (AA AF AD))) AD))) (deM AM hr (AA (AB 0) (AA AF AD))))⟩)) AD))))
theorem Bn:AO ["_law_pen_here","_law_train_here","_law_state","_law_loads","_law_holders","_law_numbers","_law_full","_law_way","_law_load","_law_some","_law_same","_law_kind","_law_left","_law_partner"] ["_law_pen_here","_law_train_here","_law_state"] (AG CT):=scM
theorem OL:Aa ["_law_pen_here","_law_train_here","_law_state","_law_loads","_law_holders","_law_numbers","_law_full","_law_way","_law_load","_law_some","_law_same","_law_kind","_law_left","_law_partner"] (AG CT) ["_law_at","_law_load"] (ixC [] 2) (LY CT 0):=csM
theorem Kb:(["_law_at","_law_load"]:Gc Str).Nodup:=by decide+kernel
theorem PQ:Aa ["_law_pen_here","_law_train_here","_law_state","_law_loads","_law_holders","_law_numbers","_law_full","_law_way","_law_load","_law_some","_law_same","_law_kind","_law_left","_law_partner"] (AG CT) ["_law_loads","_law_load","_law_at"] (ixC [3,8] 1) (LY CT 1):=csM
theorem Ou:(["_law_loads","_law_load","_law_at"]:Gc Str).Nodup:=by decide+kernel
theorem OQ:Aa ["_law_pen_here","_law_train_here","_law_state","_law_loads","_law_holders","_law_numbers","_law_full","_law_way","_law_load","_law_some","_law_same","_law_kind","_law_left","_law_partner"] (AG CT) ["_law_numbers","_law_number"] (ixC [5] 1) (LY CT 2):=csM
theorem OV:(["_law_numbers","_law_number"]:Gc Str).Nodup:=by decide+kernel
theorem HB  (S:St.Src K mg "_law_deed" CT)(B:Bts mg)(AM:Cs P w K mg base)(Bu:Ih P w K mg base)(GV:Mr P w K mg base)(FO:LQ P w K mg base):Nu P w K mg base:=by
 refine dfM 3 S Bn λhr hu=>?_
 exact(AH (GD (AB 2) (E9 rfl (AN (Ad 3 Bn.nd) (AN (Ad 4 Bn.nd) (AN (Ad 5 Bn.nd) BX)))))
      (AH (El [] 2 ["_law_at","_law_load"] rfl Bn.nd rfl rfl OL (UU rfl B.enumerate (AB 3)) (λs H fp=>⟨E9 rfl (AN (Ad 0 Kb) (AN (Ad 1 Kb) BX)),Jk (Aj Pd (AL AW (AB 1) AF) AF),AB 0⟩))
      (AH (Ap 7 (deM AM hr (AA (AB 0) (AA AF AD))) Bn.nd)
      (AH (CG (DW.dt (ZU (Aj MB (AB 7) AF) (UY (Aj (Bq hu) (AB 6) (Bv AD))))) (AI (AQ (BZ (AA BB (AA (deM AM hr (AA (AB 0) (AA (AL AW (AB 1) AF) AD))) (AA (deM AM hr (AA (AB 0) (AA (AL AW (AB 1) AF) AD))) (AA (deM Bu hr (AA (AB 0) AD)) AD))))))) Av)
      (AH (Ap 8 (AL AW (AB 6) (deM AM hr (AA (AB 0) (AA (BK C9 rfl B.len rV (AA (AB 6) AD)) AD)))) Bn.nd)
      (AH (Ap 9 (AY Ag AF (deM AM hr (AA (AB 0) (AA (BK (Ul rfl) rfl B.min boot_min (AA (AL AW (AL AW (AB 3) (AB 8)) AF) (AA AF AD))) AD)))) Bn.nd)
      (AH (CG (Aj MB (AB 7) AF) (AH (El [3,8] 1 ["_law_loads","_law_load","_law_at"] rfl Bn.nd rfl rfl PQ (Fs (AB 6)) (λs H fp=>⟨Ad 2 Ou,Jk (DW.dt (Px (Aj (J3 hu) (AB 2) (AB 1)) (MV (Aj (Bq hu) (AL AW (AL AW (AB 0) (AB 2)) AF) (AL AW (AL AW (AB 0) (AB 1)) AF))))),AB 2⟩))
      (AI (CG (Aj (J3 hu) (AB 10) (Bv AD)) (AI (AQ (BZ (AA BB (AA (AB 8) (AA (AL AW (AB 10) (deM AM hr (AA (AB 0) (AA (BK C9 rfl B.len rV (AA (AB 10) AD)) AD)))) AD)))))) Av))) Av)
      (AH (CG (DW.dt (Px (Aj MB (AB 7) AF) (MV (Aj Pd (AL AW (AB 1) AF) AF)))) (AH (Ap 11 (AY Gx (AY Ag (AY Ag (AL AW (AL AW (AB 3) (AB 8)) AF) AF) (deM AM hr (AA (AB 0) (AA (AY GF (AL AW (AB 1) AF) AF) AD)))) (AL AW (AB 1) AF)) Bn.nd)
      (AH (El [5] 1 ["_law_numbers","_law_number"] rfl Bn.nd rfl rfl OQ (G3 rfl B.range (AA AF AD)) (λs H fp=>⟨Ad 1 OV,Jk (Aj Mc (AB 1) (AB 0)),AB 1⟩))
      (AH (CG (DW.dt (Px (Aj (Bq hu) (AB 7) AF) (MV (Aj (J3 hu) (AB 12) (Bv AD))))) (AI (AQ (BZ (AA BB (AA (AL AW (AB 12) (deM AM hr (AA (AB 0) (AA (BK C9 rfl B.len rV (AA (AB 12) AD)) AD)))) (AA (AB 8) (AA (AB 9) (AA (AB 11) (AA (deM Bu hr (AA (AB 0) AD)) AD))))))))) Av)
      (AI (AQ (BZ (AA BB (AA (AB 8) (AA (AB 9) (AA (AB 11) (AA (deM Bu hr (AA (AB 0) AD)) AD))))))))))) Av)
      (AH (CG (Aj (Bq hu) (AB 7) AF) (AI (AQ (BZ (AA BB (AA (AB 8) (AA (AB 9) AD)))))) Av)
      (AH (CG (DW.dt (Px (Aj (Bq hu) (AB 7) AF) (MV (Aj Pd (AL AW (AB 1) AF) AF)))) (AH (Ap 13 (deM AM hr (AA (AB 0) (AA (AL AW (AB 1) AF) AD))) Bn.nd)
      (AI (AQ (BZ (AA BB (AA (AB 13) (AA (AY Gx (AY Ag (AY Ag (AB 13) AF) (deM AM hr (AA (AB 0) (AA (AY GF (AL AW (AB 1) AF) AF) AD)))) (AL AW (AB 1) AF)) (AA (deM GV hr (AA (AB 0) AD)) AD)))))))) Av)
      (AI (AQ (BZ (AA BB (AA (AB 8) (AA (AB 9) (AA (deM FO hr (AA (AB 0) (AA (AY Ag (AL AW (AB 1) AF) AF) AD))) AD)))))))))))))))))
theorem Q1:AO ["_law_one","_law_other"] ["_law_one","_law_other"] (AG HI):=scM
theorem Bj  (S:St.Src K mg "_law_plus" HI)(Ax:Ew P w K mg base):HF P w K mg base:=by
 refine dfM 2 S Q1 λhr hu=>?_
 exact(AI (AQ (deM Ax hr (AA (AY Ag (AY An (AL AW (AB 0) AF) (AL AW (AB 1) AF)) (AY An (AL AW (AB 1) AF) (AL AW (AB 0) AF))) (AA (AY An (AL AW (AB 0) AF) (AL AW (AB 1) AF)) AD)))))
theorem Pz:AO ["_law_one","_law_other"] ["_law_one","_law_other"] (AG GS):=scM
theorem BO  (S:St.Src K mg "_law_times" GS)(Ax:Ew P w K mg base):Hx P w K mg base:=by
 refine dfM 2 S Pz λhr hu=>?_
 exact(AI (AQ (deM Ax hr (AA (AY An (AL AW (AB 0) AF) (AL AW (AB 1) AF)) (AA (AY An (AL AW (AB 0) AF) (AL AW (AB 1) AF)) AD)))))
theorem EW:AO ["_law_one","_law_other","_law_found","_law_mine","_law_its","_law_both"] ["_law_one","_law_other"] (AG Fb):=scM
theorem Fd  (S:St.Src K mg "_law_pooled" Fb)(B:Bts mg)(Ax:Ew P w K mg base)(Bj:HF P w K mg base)(BO:Hx P w K mg base):LD P w K mg base:=by
 refine dfM 3 S EW λhr hu=>?_
 exact(AH (Ap 2 (Bv AD) EW.nd)
      (AH (Ik pC rfl (Nt rfl B.zip (AL AW (AB 0) AF) (AL AW (AB 1) AF)) (E9 rfl (AN (Ad 3 EW.nd) (AN (Ad 4 EW.nd) BX))) (AH (Ap 5 (deM Bj hr (AA (deM BO hr (AA (BZ (AA (AL AW (AB 0) AF) (AA AF AD))) (AA (AB 3) AD))) (AA (deM BO hr (AA (BZ (AA (AL AW (AB 1) AF) (AA AF AD))) (AA (AB 4) AD))) AD))) EW.nd)
      (AI (Ct (LO ou pM Ja (AB 2) (AA (deM BO hr (AA (AB 5) (AA (deM Ax hr (AA AF (AA (AY Ag (AL AW (AB 0) AF) (AL AW (AB 1) AF)) AD))) AD))) AD))))))
      (AI (AQ (A6 A7 rfl B.tuple pq (AA (AB 2) AD))))))
end
section
open PyProof.Rows (boot_isinstance boot_int boot_bool boot_tuple boot_str boot_list boot_abs boot_all boot_any boot_sum boot_max boot_min boot_range boot_enumerate boot_zip boot_sorted boot_set boot_divmod)
variable{P:nv}{w:oM}{K:KE}{mg:Str->nG Wp}{base:oE}
theorem Jq:AO ["_law_train_here","_law_loads","_law_deed_here","_law_worths_here","_law_whole_here"] ["_law_train_here","_law_loads","_law_deed_here"] (AG Ep):=scM
theorem Ol:Aa ["_law_train_here","_law_loads","_law_deed_here","_law_worths_here","_law_whole_here"] (AG Ep) ["_law_worths_here","_law_kind","_law_pieces_here","_law_owners"] (ixC [3] 3) (LY Ep 0):=csM
theorem Hz:(["_law_worths_here","_law_kind","_law_pieces_here","_law_owners"]:Gc Str).Nodup:=by decide+kernel
theorem HM  (S:St.Src K mg "_law_cost" Ep)(B:Bts mg)(Ax:Ew P w K mg base):Nz P w K mg base:=by
 refine dfM 2 S Jq λhr hu=>?_
 exact(AH (Ap 3 (AL AW (AB 2) AF) Jq.nd)
      (AH (Ap 4 (AY Ag (BK (J2 rfl) rfl B.sum xk (AA (C3 [3] 3 ["_law_worths_here","_law_kind","_law_pieces_here","_law_owners"] rfl Ol (Fs (AB 1)) (λs H fp=>⟨E9 rfl (AN (Ad 1 Hz) (AN (Ad 2 Hz) (AN (Ad 3 Hz) BX))),C8,AY An (AB 2) (AL AW (AB 0) (AB 1))⟩)) AD)) (AY An (AL AW (AB 0) AF) (AL AW (AB 3) (O2 HY AF)))) Jq.nd)
      (AI (AQ (deM Ax hr (AA (AY An (AL AW (AB 2) AF) (AL AW (AB 3) (AL AW (AL AW (AB 1) (AL AW (AB 2) AF)) AF))) (AA (AB 4) AD)))))))
theorem Qo:AO ["_law_one","_law_other"] ["_law_one","_law_other"] (AG HD):=scM
theorem D5  (S:St.Src K mg "_law_less" HD)(Bj:HF P w K mg base):Ku P w K mg base:=by
 refine dfM 3 S Qo λhr hu=>?_
 exact(AI (AQ (deM Bj hr (AA (AB 0) (AA (BZ (AA (AY GF AF (AL AW (AB 1) AF)) (AA (AL AW (AB 1) AF) AD))) AD)))))
theorem Ge:AO ["_law_shares","_law_part","_law_owners","_law_found","_law_mine","_law_its"] ["_law_shares","_law_part","_law_owners"] (AG GX):=scM
theorem Ey  (S:St.Src K mg "_law_borne" GX)(B:Bts mg)(Bj:HF P w K mg base)(BO:Hx P w K mg base)(D5:Ku P w K mg base):NC P w K mg base:=by
 refine dfM 4 S Ge λhr hu=>?_
 exact(AH (Ap 3 (Bv AD) Ge.nd)
      (AH (Ik pC rfl (Nt rfl B.zip (AB 0) (AB 2)) (E9 rfl (AN (Ad 4 Ge.nd) (AN (Ad 5 Ge.nd) BX))) (AI (Ct (LO ou pM Ja (AB 3) (AA (deM Bj hr (AA (deM BO hr (AA (AB 4) (AA (deM D5 hr (AA (BZ (AA AF (AA AF AD))) (AA (AB 1) AD))) AD))) (AA (deM BO hr (AA (AB 5) (AA (AB 1) AD))) AD))) AD)))))
      (AI (AQ (A6 A7 rfl B.tuple pq (AA (AB 3) AD))))))
theorem Jo:AO ["_law_shares","_law_deed_here","_law_found","_law_passes"] ["_law_shares","_law_deed_here"] (AG G7):=scM
theorem F2  (S:St.Src K mg "_law_sold" G7)(B:Bts mg)(Bj:HF P w K mg base)(BO:Hx P w K mg base)(D5:Ku P w K mg base):N9 P w K mg base:=by
 refine dfM 4 S Jo λhr hu=>?_
 exact(AH (Ap 2 (A6 Kn rfl B.list uZ (AA (AB 0) AD)) Jo.nd)
      (AH (Ap 3 (deM BO hr (AA (AL AW (AB 2) (AL AW (AB 1) AF)) (AA (AL AW (AB 1) AF) AD))) Jo.nd)
      (AH (B7 (deM D5 hr (AA (AL AW (AB 2) (AL AW (AB 1) AF)) (AA (AB 3) AD))) (AB 2) (AL AW (AB 1) AF))
      (AH (B7 (deM Bj hr (AA (AL AW (AB 2) (AL AW (AB 1) AF)) (AA (AB 3) AD))) (AB 2) (AL AW (AB 1) AF))
      (AI (AQ (A6 A7 rfl B.tuple pq (AA (AB 2) AD))))))))
theorem Du:AO ["_law_train_here","_law_state","_law_deed_here","_law_loads","_law_holders","_law_numbers","_law_part","_law_owners","_law_load"] ["_law_train_here","_law_state","_law_deed_here"] (AG HG):=scM
theorem HL  (S:St.Src K mg "_law_turn" HG)(HM:Nz P w K mg base)(Ey:NC P w K mg base)(F2:N9 P w K mg base):Nh P w K mg base:=by
 refine dfM 5 S Du λhr hu=>?_
 exact(AH (GD (AB 1) (E9 rfl (AN (Ad 3 Du.nd) (AN (Ad 4 Du.nd) (AN (Ad 5 Du.nd) BX)))))
      (AI (CG (Aj (Bq hu) (AL AW (AB 2) AF) BB) (AH (LN (i:=6) (j:=7) rfl Du.nd rfl rfl (by decide) rfl rfl (deM HM hr (AA (AB 0) (AA (AB 3) (AA (AB 2) AD)))) (AL AW (AL AW (AB 3) (AL AW (AB 2) AF)) AF))
      (AH (B7 (AY GF (AL AW (AL AW (AB 3) (AL AW (AB 2) AF)) AF) (AL AW (AB 2) AF)) (AL AW (AB 3) (AL AW (AB 2) AF)) AF)
      (AH (Ik pC rfl (Fs (AB 3)) (Ad 8 Du.nd) (AI (B7 (deM Ey hr (AA (AL AW (AB 8) AF) (AA (AB 6) (AA (AB 7) AD)))) (AB 8) AF)))
      (AI (B7 (deM Ey hr (AA (AB 4) (AA (AB 6) (AA (AB 7) AD)))) (AB 1) AF))))) (AH (Ik pC rfl (Fs (AB 3)) (Ad 8 Du.nd) (AI (B7 (deM F2 hr (AA (AL AW (AB 8) AF) (AA (AB 2) AD))) (AB 8) AF)))
      (AI (B7 (deM F2 hr (AA (AB 4) (AA (AB 2) AD))) (AB 1) AF))))))
theorem Dh:AO ["_law_train_here","_law_state","_law_deed_here","_law_loads","_law_holders","_law_numbers","_law_word","_law_one","_law_other","_law_load","_law_given","_law_kind","_law_got"] ["_law_train_here","_law_state","_law_deed_here"] (AG Hb):=scM
theorem Q2:Aa ["_law_train_here","_law_state","_law_deed_here","_law_loads","_law_holders","_law_numbers","_law_word","_law_one","_law_other","_law_load","_law_given","_law_kind","_law_got"] (AG Hb) ["_law_deed_here","_law_one"] (ixC [2] 1) (LY Hb 0):=csM
theorem Qx:(["_law_deed_here","_law_one"]:Gc Str).Nodup:=by decide+kernel
theorem J5  (S:St.Src K mg "_law_do" Hb)(B:Bts mg)(Fd:LD P w K mg base)(HL:Nh P w K mg base):Ry P w K mg base:=by
 refine dfM 6 S Dh λhr hu=>?_
 exact(AH (GD (AB 1) (E9 rfl (AN (Ad 3 Dh.nd) (AN (Ad 4 Dh.nd) (AN (Ad 5 Dh.nd) BX)))))
      (AH (Ap 6 (AL AW (AB 2) AF) Dh.nd)
      (AI (CG (Aj (Bq hu) (AB 6) BB) (AI (Ct (LO ou pM Ja (AB 3) (AA (Bv (AA (AL AW (AB 2) AF) (AA (AL AW (AB 2) AF) (AA (A6 A7 rfl B.tuple pq (AA (C3 [2] 1 ["_law_deed_here","_law_one"] rfl Q2 (G3 rfl B.range (AA (AL AW (AB 0) AF) AD)) (λs H fp=>⟨Ad 1 Qx,C8,BZ (AA (A6 Mx rfl B.int wL (AA (IA (Bq hu) (AB 1) (AL AW (AB 0) AF)) AD)) (AA AF AD))⟩)) AD)) AD)))) AD)))) (AI (CG (Aj (Bq hu) (AB 6) BB) (AH (LN (i:=7) (j:=8) rfl Dh.nd rfl rfl (by decide) rfl rfl (AL AW (AB 3) (AL AW (AB 2) AF)) (AL AW (AB 3) (AL AW (AB 2) AF)))
      (AH (Ct (LO ou pM Ja (AB 3) (AA (Bv (AA (AL AW (AB 7) AF) (AA (AY Ag (AL AW (AB 7) AF) (AL AW (AB 8) AF)) (AA (deM Fd hr (AA (AB 7) (AA (AB 8) AD))) AD)))) AD)))
      (AH (B7 AF (AB 7) AF)
      (AI (B7 AF (AB 8) AF))))) (AI (CG (Aj N2 (AB 6) (BZ (AA BB (AA BB AD)))) (AH (GD (Ke (AB 2) (O2 HY AF)) (E9 rfl (AN (Ad 9 Dh.nd) (AN (Ad 10 Dh.nd) (AN (Ad 11 Dh.nd) (AN (Ad 12 Dh.nd) BX))))))
      (AH (B7 (AY GF (AL AW (AL AW (AB 3) (AB 9)) AF) (AB 10)) (AL AW (AB 3) (AB 9)) AF)
      (AH (Ct (LO ou pM Ja (AB 3) (AA (Bv (AA (AB 11) (AA (AB 12) (AA (AL AW (AL AW (AB 3) (AB 9)) AF) AD)))) AD)))
      (AI (Ct (LO sg PySem.F.type_list_extend Z6 (AB 5) (AA (AY An (aF (AB 2) AF AF) (A6 Mx rfl B.int wL (AA (IA (Bq hu) (AB 6) BB) AD))) AD))))))) (AI (CG (Aj (Bq hu) (AB 6) BB) (AI (B7 (AY GF (AL AW (AL AW (AB 3) (AL AW (AB 2) AF)) AF) (AL AW (AB 2) AF)) (AL AW (AB 3) (AL AW (AB 2) AF)) AF)) (AI (Ct (deM HL hr (AA (AB 0) (AA (AB 1) (AA (AB 2) AD))))))))))))))))
end
section
open PyProof.Rows (boot_isinstance boot_int boot_bool boot_tuple boot_str boot_list boot_abs boot_all boot_any boot_sum boot_max boot_min boot_range boot_enumerate boot_zip boot_sorted boot_set boot_divmod)
variable{P:nv}{w:oM}{K:KE}{mg:Str->nG Wp}{base:oE}
theorem Eu:AO ["_law_pen_here","_law_most","_law_train_here","_law_first_here","_law_state","_law_deeds","_law_k","_law_deed_here"] ["_law_pen_here","_law_most"] (AG Eo):=scM
theorem Oo:Aa ["_law_pen_here","_law_most","_law_train_here","_law_first_here","_law_state","_law_deeds","_law_k","_law_deed_here"] (AG Eo) ["_law_one"] (ixC [] 1) (LY Eo 0):=csM
theorem Oh:(["_law_one"]:Gc Str).Nodup:=by decide+kernel
theorem F6  (S:St.Src K mg "_law_book" Eo)(B:Bts mg)(AM:Cs P w K mg base)(F9:MG P w K mg base)(GC:Mu P w K mg base)(GB:L6 P w K mg base)(HB:Nu P w K mg base)(J5:Ry P w K mg base):OE P w K mg base:=by
 refine dfM 7 S Eu λhr hu=>?_
 exact(AH (Ap 2 (deM F9 hr (AA (AB 0) AD)) Eu.nd)
      (AH (Ap 3 (deM GC hr (AA (AB 0) (AA (AB 2) AD))) Eu.nd)
      (AH (LN (i:=4) (j:=5) rfl Eu.nd rfl rfl (by decide) rfl rfl (deM GB hr (AA (BZ (AA (AB 2) (AA (AB 3) (AA (BZ AD) AD)))) AD)) (Bv AD))
      (AH (Ik pC rfl (G3 rfl B.range (AA (deM AM hr (AA (AB 0) (AA (AY Ag (AB 1) AF) AD))) AD)) (Ad 6 Eu.nd) (AH (Ap 7 (deM HB hr (AA (AB 0) (AA (AB 2) (AA (AB 4) AD)))) Eu.nd)
      (AI (CG (DW.dt (ZU (Aj (J3 hu) (AL AW (AB 7) AF) BB) (UY (Aj MB (BK C9 rfl B.len rV (AA (C3 [] 1 ["_law_one"] rfl Oo (Fs (AB 5)) (λs H fp=>⟨Ad 0 Oh,Jk (Aj (Bq hu) (AL AW (AB 0) AF) BB),AB 0⟩)) AD)) AF)))) (AH (Ct (deM J5 hr (AA (AB 2) (AA (AB 4) (AA (AB 7) AD)))))
      (AI (Ct (LO ou pM Ja (AB 5) (AA (AB 7) AD))))) Av))))
      (AI (AQ (BZ (AA (AB 2) (AA (AB 3) (AA (A6 A7 rfl B.tuple pq (AA (AB 5) AD)) AD))))))))))
theorem FD:AO ["_law_pen_here","_law_most","_law_word","_law_book_here","_law_turn_here"] ["_law_pen_here","_law_most","_law_word"] (AG Ca):=scM
theorem Le:Aa ["_law_pen_here","_law_most","_law_word","_law_book_here","_law_turn_here"] (AG Ca) ["_law_word","_law_deed_here"] (ixC [2] 1) (LY Ca 0):=csM
theorem Lb:(["_law_word","_law_deed_here"]:Gc Str).Nodup:=by decide+kernel
theorem Eh  (S:St.Src K mg "_law_book_of" Ca)(B:Bts mg)(F6:OE P w K mg base):Js P w K mg base:=by
 refine dfM 8 S FD λhr hu=>?_
 exact(AH (Ap 3 (deM F6 hr (AA (AB 0) (AA (AB 1) AD))) FD.nd)
      (AH (Ik pC rfl (G3 rfl B.range (AA AF AD)) (Ad 4 FD.nd) (AH (CG (Aj (J3 hu) (C3 [2] 1 ["_law_word","_law_deed_here"] rfl Le (Fs (AL AW (AB 3) AF)) (λs H fp=>⟨Ad 1 Lb,Jk (Aj (Bq hu) (AL AW (AB 1) AF) (AB 0)),AB 1⟩)) (Bv AD)) (AI (AQ (AB 3))) Av)
      (AI (Ap 3 (deM F6 hr (AA (AB 0) (AA (AB 1) AD))) FD.nd))))
      (AI (AQ (AB 3)))))
theorem O5:AO ["_law_book_here","_law_word"] ["_law_book_here","_law_word"] (AG C0):=scM
theorem L5:Aa ["_law_book_here","_law_word"] (AG C0) ["_law_word","_law_at","_law_deed_here"] (ixC [1] 2) (LY C0 0):=csM
theorem JD:(["_law_word","_law_at","_law_deed_here"]:Gc Str).Nodup:=by decide+kernel
theorem FX  (S:St.Src K mg "_law_places" C0)(B:Bts mg):K3 P w K mg base:=by
 refine dfM 0 S O5 λhr hu=>?_
 exact(AI (AQ (C3 [1] 2 ["_law_word","_law_at","_law_deed_here"] rfl L5 (UU rfl B.enumerate (AL AW (AB 0) AF)) (λs H fp=>⟨E9 rfl (AN (Ad 1 JD) (AN (Ad 2 JD) BX)),Jk (Aj (Bq hu) (AL AW (AB 2) AF) (AB 0)),AB 1⟩))))
theorem Ig:AO ["_law_pen_here","_law_deep","_law_way","_law_parts"] ["_law_pen_here","_law_deep"] (AG Dv):=scM
theorem NU:Aa ["_law_pen_here","_law_deep","_law_way","_law_parts"] (AG Dv) ["_law_pen_here","_law_deep","_law_k"] (ixC [0,1] 1) (LY Dv 0):=csM
theorem Nb:(["_law_pen_here","_law_deep","_law_k"]:Gc Str).Nodup:=by decide+kernel
theorem C6  (S:St.Src K mg "_law_thing" Dv)(B:Bts mg)(AM:Cs P w K mg base):∀n:Nat,n<=8->St.Dfn P w K mg base "_law_thing" (2+n) ["_law_pen_here","_law_deep"] (spD K 2 (Bl n))
 |0,_=>XA S (λf fd F=>F.binds λ_ _ _ _ _ _ us hl=>match us,hl with| [_,_],_=>rfl)
 |n+1,hn=>by
  have C6:=C6 S B AM n (by omega)
  refine dfM (2+n) S Ig λhr hu=>?_
  exact(AH (Ap 2 (deM AM hr (AA (AB 0) (AA AF AD))) Ig.nd)
   (AH (CG (DW.dt (ZU (Aj MB (AB 2) AF) (UY (Aj (Bq hu) (AB 1) AF)))) (AI (AQ (AL AW (Bv (AA RW (AA Je (AA Je (AA AF (AA AF (AA (O2 HY AF) (AA AF (AA (AY PB AF AF) (AA BB (AA BB (AA (BZ AD) (AA (Bv AD) AD))))))))))))) (deM AM hr (AA (AB 0) (AA AF AD)))))) Av)
   (AH (El [0,1] 1 ["_law_pen_here","_law_deep","_law_k"] rfl Ig.nd rfl rfl NU (G3 rfl B.range (AA (deM AM hr (AA (AB 0) (AA AF AD))) AD)) (λs H fp=>⟨Ad 2 Nb,C8,deM C6 hr (AA (AB 0) (AA (AY GF (AB 1) AF) AD))⟩))
   (AH (CG (Aj (Bq hu) (AB 2) AF) (AI (AQ (AB 3))) Av)
   (AH (CG (Aj (Bq hu) (AB 2) AF) (AI (AQ (ba (XT BB (AB 3) Zy) (List.cons_ne_nil _ _) (by decide)))) Av)
   (AI (AQ (A6 A7 rfl B.tuple pq (AA (AB 3) AD)))))))))
theorem Hj:AO ["_law_script","_law_pen_here","_law_book_here","_law_places_here","_law_thing_here","_law_due","_law_bare"] ["_law_script"] (AG EX):=scM
theorem Ss:Hi ["_law_script","_law_pen_here","_law_book_here","_law_places_here","_law_thing_here","_law_due","_law_bare"] (AG EX) ["_law_book_here","_law_thing_here"] [2,4] (fQ EX 0):=lsM
theorem TQ:Hi ["_law_script","_law_pen_here","_law_book_here","_law_places_here","_law_thing_here","_law_due","_law_bare"] (AG EX) ["_law_book_here","_law_thing_here"] [2,4] (fQ EX 1):=lsM
theorem TC:Hi ["_law_script","_law_pen_here","_law_book_here","_law_places_here","_law_thing_here","_law_due","_law_bare"] (AG EX) ["_law_bare"] [6] (fQ EX 2):=lsM
theorem TM:Hi ["_law_script","_law_pen_here","_law_book_here","_law_places_here","_law_thing_here","_law_due","_law_bare"] (AG EX) ["_law_bare"] [6] (fQ EX 3):=lsM
end
theorem nr{α:Sort _}{a b:α}(h:a=b):a=b:=h
@[simp high] theorem By{α β:Type}(a:α)(f:α->Option β):(some a).bind f=f a:=Eq.mp (congrArg (λz=>z=f a) rfl) (Eq.refl (f a))
@[simp high] theorem iB{α β:Type}(a:α)(f:α->β):(some a).map f=some (f a):=Eq.mp (congrArg (λz=>z=some (f a)) rfl) (Eq.refl (some (f a)))
section
variable{E:En}{S:Sto}{op:OpN}{f g c:Ev}{d:D}{i:Nat}{w:Wv}{a b e h r':D}{r:Gc D}{fs:Gc Ev}
@[simp] theorem mx{o:Option D}{E:En}:at? (o::E) 0=o:=nr rfl
@[simp] theorem mr{o:Option D}{E:En}{i:Nat}:at? (o::E) (i+1)=at? E i:=nr rfl
@[simp] theorem kX:eC d E S=some (d,S):=nr rfl
@[simp] theorem kA:eV i E S=(at? E i).map λd=>(d,S):=nr rfl
@[simp] theorem ZR:evs [] E S=some ([],S):=nr rfl
@[simp] theorem Dq:evs (f::fs) E S=(f E S).bind λr=>(evs fs E r.2).map λq=>(r.1::q.1,q.2):=nr rfl
@[simp] theorem UR{cf:Bool}:PU cf op fs E S=(evs fs E S).bind λr=>(op (r.1.map (dr r.2))).bind λw=>fin cf w r.2:=nr rfl
@[simp] theorem lr{cf:Bool}:fin cf (.val d) S=some (d,S):=by cases cf<;>rfl
@[simp] theorem ky:fin false (.own r) S=some (.lst r,S):=nr rfl
@[simp] theorem kx:fin true (.own r) S=some (.ref S.length,S++[.lst r]):=nr rfl
@[simp] theorem kW:dr S .non=.val .non:=nr rfl
@[simp] theorem lD{b:Bool}:dr S (.bl b)=.val (.bl b):=nr rfl
@[simp] theorem kJ{i:Int}:dr S (.int i)=.val (.int i):=nr rfl
@[simp] theorem jz{x:Str}:dr S (.str x)=.val (.str x):=nr rfl
@[simp] theorem lV{x:String}:dr S (.ty x)=.val (.ty x):=nr rfl
@[simp] theorem kh:dr S (.tup r)=.val (.tup r):=nr rfl
@[simp] theorem kE:dr S (.lst r)=.val (.lst r):=nr rfl
@[simp] theorem kP{ns:List Int}:dr S (.scr ns)=.val (.scr ns):=nr rfl
@[simp] theorem kH{ns:List (Key×D)}:dr S (.dct ns)=.val (.dct ns):=nr rfl
theorem BE{n:Nat}(h:S[n]?=Fk (.lst r)):dr S (.ref n)=.own r:=by
 show(match S[n]? with|some (.lst ds)=>Wv.own ds|_=>.val (.ref n))=_
 rw[h]
theorem AU{n:Nat}(h:S[n]?=Fk (.lst r)):Fo S n=Fk r:=by
 unfold Fo
 rw[h]
@[simp] theorem Yz:fz (.val d)=d:=nr rfl
noncomputable def gn(g:Ev)(E:En)(r:D×Sto):nG (D×Sto):=match r.1 with| .bl true=>g E r.2| .bl false=>Fk (.bl false,r.2)|_=>nD
noncomputable def orK(g:Ev)(E:En)(r:D×Sto):nG (D×Sto):=match r.1 with| .bl false=>g E r.2| .bl true=>Fk (.bl true,r.2)|_=>nD
noncomputable def kO(r:D×Sto):nG (D×Sto):=match r.1 with| .bl b=>Fk (.bl (!b),r.2)|_=>nD
noncomputable def ifK(f g:Ev)(E:En)(r:D×Sto):nG (D×Sto):=match r.1 with| .bl true=>f E r.2| .bl false=>g E r.2|_=>nD
@[simp] theorem j9:gn g E (.bl true,S)=g E S:=nr rfl
@[simp] theorem j6:gn g E (.bl false,S)=some (.bl false,S):=nr rfl
@[simp] theorem mG:orK g E (.bl false,S)=g E S:=nr rfl
@[simp] theorem mH:orK g E (.bl true,S)=some (.bl true,S):=nr rfl
@[simp] theorem kZ{b:Bool}:kO (.bl b,S)=some (.bl (!b),S):=nr rfl
@[simp] theorem mR:ifK f g E (.bl true,S)=f E S:=nr rfl
@[simp] theorem lX:ifK f g E (.bl false,S)=g E S:=nr rfl
@[simp] theorem fm:Lu f g E S=(f E S).bind (gn g E):=nr rfl
@[simp] theorem Qp:eOr f g E S=(f E S).bind (orK g E):=nr rfl
@[simp] theorem fK:Sl f E S=(f E S).bind kO:=nr rfl
@[simp] theorem iX:eIf c f g E S=(c E S).bind (ifK f g E):=nr rfl
@[simp] theorem WV:EM fs E S=(evs fs E S).bind λr=>if r.1.length<=sizeLine then some (.tup r.1,r.2)else none:=nr rfl
@[simp] theorem gY{cf:Bool}:XB cf fs E S=(evs fs E S).bind λr=>if r.1.length<=sizeLine then fin cf (.own r.1) r.2 else none:=nr rfl
@[simp] theorem cj{F:Fn}:AJ F fs E S=(evs fs E S).bind λr=>F r.1 r.2:=nr rfl
noncomputable def j5(op:Mo)(fs:Gc Ev)(E:En)(r:D×Sto):nG (D×Sto):=match r.1 with
 | .ref n=>(Fo r.2 n).bind λ_=>(evs fs E r.2).bind λp=>(Fo p.2 n).bind λds=>(op p.2 ds p.1).map λq=>(q.1,p.2.set n (.lst q.2))
 |_=>nD
@[simp] theorem fJ{op:Mo}{n:Nat}:j5 op fs E (.ref n,S)=(Fo S n).bind λ_=>(evs fs E S).bind λp=>(Fo p.2 n).bind λds=>(op p.2 ds p.1).map λq=>(q.1,p.2.set n (.lst q.2)):=nr rfl
@[simp] theorem gS{op:Mo}:Qg op f fs E S=(f E S).bind (j5 op fs E):=nr rfl
@[simp] theorem fc:Qy S r [d]=if r.length<sizeLine then some (.non,r++[d])else none:=nr rfl
variable{x y:Ex}
noncomputable def cm(y:Ex)(r:Fl×En×Sto):nG (Fl×En×Sto):=match r.1 with| .nx=>y r.2.1 r.2.2| .ret w=>Fk (.ret w,r.2)
noncomputable def iS(x y:Ex)(E:En)(r:D×Sto):nG (Fl×En×Sto):=match r.1 with| .bl true=>x E r.2| .bl false=>y E r.2|_=>nD
@[simp] theorem ao:cm y (.nx,E,S)=y E S:=nr rfl
@[simp] theorem gc{w:D}:cm y (.ret w,E,S)=some (.ret w,E,S):=nr rfl
@[simp] theorem kD:iS x y E (.bl true,S)=x E S:=nr rfl
@[simp] theorem kS:iS x y E (.bl false,S)=y E S:=nr rfl
@[simp] theorem Ru:Ae x y E S=(x E S).bind (cm y):=nr rfl
@[simp] theorem gG:Et E S=some (.nx,E,S):=nr rfl
@[simp] theorem Ql:xIf c x y E S=(c E S).bind (iS x y E):=nr rfl
@[simp] theorem gR:BQ f E S=(f E S).map λr=>(.ret r.1,E,r.2):=nr rfl
@[simp] theorem WN:CA i f E S=(f E S).map λr=>(.nx,E.set i (some r.1),r.2):=nr rfl
@[simp] theorem U4:EV f E S=(f E S).map λr=>(.nx,E,r.2):=nr rfl
noncomputable def jx(d b:D)(E:En)(i:D×Sto):nG (Fl×En×Sto):=match b,i.1 with
 | .ref n,.int j=>(Fo i.2 n).bind λds=>(ixN ds.length j).map λm=>(.nx,E,i.2.set n (.lst (ds.set m d)))
 |_,_=>nD
@[simp] theorem fG{n:Nat}{j:Int}:jx d (.ref n) E (.int j,S)=(Fo S n).bind λds=>(ixN ds.length j).map λm=>(.nx,E,S.set n (.lst (ds.set m d))):=nr rfl
@[simp] theorem fV{k o:Ev}:NI k f o E S=(k E S).bind λr=>(f E r.2).bind λb=>(o E b.2).bind (jx r.1 b.1 E):=nr rfl
@[simp] theorem fX{t:Tf}:PV t f E S=(f E S).bind λr=>(t r.1 E r.2).map λE'=>(.nx,E',r.2):=nr rfl
@[simp] theorem fP{i j:Nat}:Sn i j f g E S=(f E S).bind λr=>(g E r.2).map λq=>(.nx,(E.set i (some r.1)).set j (some q.1),q.2):=by
  unfold Sn
  rw[Dq]
  cases f E S with
  |none=>rfl
  |some r=>
   rw[By,By,Dq]
   cases g E r.2 with
   |none=>rfl
   |some q=>rfl
@[simp] theorem bG:tNm i d E S=some (E.set i (some d)):=nr rfl
@[simp] theorem iM{ts:List Tf}{ds:List D}:tTp ts (.tup ds) E S=tMs ts ds E S:=nr rfl
@[simp] theorem iA{ts:List Tf}{ds:List D}:tTp ts (.lst ds) E S=tMs ts ds E S:=nr rfl
@[simp] theorem jK{ts:List Tf}{n:Nat}:tTp ts (.ref n) E S=(Fo S n).bind λds=>tMs ts ds E S:=nr rfl
@[simp] theorem iE:tMs [] [] E S=some E:=nr rfl
@[simp] theorem fC{t:Tf}{ts:List Tf}{ds:List D}:tMs (t::ts) (d::ds) E S=(t d E S).bind λE1=>tMs ts ds E1 S:=nr rfl
@[simp] theorem dm{N:Nat}{ds:List D}:Aq (A1 N x) ds S=(x (ds.map some++List.replicate (N-ds.length) none) S).map λr=>(flD r.1,r.2.2):=by rw[Jh];rfl
@[simp] theorem kG:flD .nx=.non:=nr rfl
@[simp] theorem iq:flD (.ret d)=d:=nr rfl
@[simp] theorem ju{i j:Int}:EE (.val (.int i)) (.val (.int j))=some (.val (.int (i+j))):=nr rfl
@[simp] theorem jG{xs ys:List D}:EE (.val (.tup xs)) (.val (.tup ys))=if xs.length+ys.length<=sizeLine then some (.val (.tup (xs++ys)))else none:=nr rfl
@[simp] theorem jF{xs ys:List D}:EE (.val (.lst xs)) (.val (.lst ys))=if xs.length+ys.length<=sizeLine then some (.own (xs++ys))else none:=nr rfl
@[simp] theorem fq{i j:Int}:CY (.val (.int i)) (.val (.int j))=if ED i j=true then some (.val (.int (i*j)))else none:=nr rfl
@[simp] theorem fU{k:Int}:CY (.val (.tup r)) (.val (.int k))=if(!r.isEmpty && decide (k<=0) && decide (-(2^63)<=k))=true then some (.val (.tup []))else if(!r.isEmpty && decide (1<=k) && decide (r.length*k.toNat<=sizeLine))=true then some (.val (.tup (List.replicate k.toNat r).flatten))else none:=nr rfl
@[simp] theorem SH{k:Int}:CY (.val (.lst r)) (.val (.int k))=if(decide (k<2^63) && decide (-(2^63)<=k) && decide (r.length*k.toNat<=sizeLine))=true then some (.own (List.replicate k.toNat r).flatten)else none:=nr rfl
@[simp] theorem iJ:asS (.own r)=some r:=nr rfl
@[simp] theorem jQ:asS (.val (.lst r))=some r:=nr rfl
@[simp] theorem jf:asS (.val (.tup r))=some r:=nr rfl
@[simp] theorem gm{ns:List Int}:asS (.val (.scr ns))=some (ns.map .int):=nr rfl
@[simp] theorem bQ{j:Int}:wIx w (.val (.int j))=(asS w).bind λds=>(atI ds j).map .val:=nr rfl
theorem DB{α:Type}{xs:Gc α}{n:Nat}{x:α}(h:xs[n]?=Fk x):atI xs (n:Int)=Fk x:=aw h
theorem Yc{α:Type}{xs:Gc α}{i:Int}(h0:0<=i)(h1:i<xs.length):atI xs i=Fk (xs[i.toNat]'(by lia)):=by
 have:atI xs ((i.toNat:Nat):Int)=Fk (xs[i.toNat]'(by lia)):=DB (nM (by lia))
 rwa [oo h0]at this
@[simp] theorem mD:atI (a::r) 0=some a:=DB (n:=0) rfl
@[simp] theorem lA:atI (a::b::r) 1=some b:=DB (n:=1) rfl
@[simp] theorem mT:atI (a::b::e::r) 2=some e:=DB (n:=2) rfl
@[simp] theorem lE:atI (a::b::e::h::r) 3=some h:=DB (n:=3) rfl
@[simp] theorem lu{k:D}:atI (a::b::e::h::k::r) 4=some k:=DB (n:=4) rfl
theorem L7{n k:Nat}(h:k<n):ixN n (k:Int)=Fk k:=by
 unfold ixN
 simp
 lia
theorem RO{n:Nat}{i:Int}(h0:0<=i)(h1:i<n):ixN n i=Fk i.toNat:=by
 have:=L7 (n:=n) (k:=i.toNat) (by lia)
 rwa [oo h0]at this
@[simp] theorem kz{n:Nat}:ixN (n+1) 0=some 0:=RO (by decide) (by lia)
@[simp] theorem kr{n:Nat}:ixN (n+2) 1=some 1:=RO (by decide) (by lia)
@[simp] theorem lI{n:Nat}:ixN (n+3) 2=some 2:=RO (by decide) (by lia)
@[simp] theorem kF{i j:Int}:deq (.int i) (.int j)=(i==j):=nr rfl
@[simp] theorem gy{i j:Int}:Ej (.int i) (.int j)=true:=nr rfl
@[simp] theorem hV{w':Wv}:wEq w w'=if Ej (fz w) (fz w')=true then some (.val (.bl (deq (fz w) (fz w'))))else none:=nr rfl
@[simp] theorem Qr{w':Wv}:wNe w w'=if Ej (fz w) (fz w')=true then some (.val (.bl (!deq (fz w) (fz w'))))else none:=nr rfl
@[simp] theorem jT{i j:Int}:wLt (.val (.int i)) (.val (.int j))=some (.val (.bl (decide (i<j)))):=nr rfl
@[simp] theorem jh{i j:Int}:wLe (.val (.int i)) (.val (.int j))=some (.val (.bl (decide (i<=j)))):=nr rfl
@[simp] theorem iH{i j:Int}:wGt (.val (.int i)) (.val (.int j))=some (.val (.bl (decide (j<i)))):=nr rfl
@[simp] theorem iN{i j:Int}:wGe (.val (.int i)) (.val (.int j))=some (.val (.bl (decide (j<=i)))):=nr rfl
@[simp] theorem gW{i j:Int}:QS (.val (.int i)) (.val (.int j))=some (.val (.int (i-j))):=nr rfl
@[simp] theorem gX{i:Int}:O6 (.val (.int i))=some (.val (.int (-i))):=nr rfl
@[simp] theorem gk{i j:Int}:Qc (.val (.int i)) (.val (.int j))=(if 0<j then some (.val (.int (i % j)))else none):=by
  show sY Wv.val (if 0<j then Fk (D.int (i % j))else nD)=_
  split<;>rfl
@[simp] theorem dS{i j:Int}:OX (.val (.int i)) (.val (.int j))=(if(decide (0<j) && decide (j.natAbs<Gq))=true then some (.val (.int (i / j)))else none):=by
  show sY Wv.val (if(decide (0<j) && decide (j.natAbs<Gq))=true then Fk (D.int (i / j))else nD)=_
  split<;>rfl
@[simp] theorem gM{i j:Int}:Xl (.val (.int i)) (.val (.int j))=if(decide (0<=j) && decide (j<=1000) && decide (i.natAbs<2^64))=true then some (.val (.int (i^j.toNat)))else none:=by
  show sY Wv.val (if(decide (0<=j) && decide (j<=1000) && decide (i.natAbs<2^64))=true then Fk (D.int (i^j.toNat))else nD)=_
  split<;>rfl
@[simp] theorem fB{i:Int}:bU (.val (.int i))=some (.val (.int (i.natAbs:Int))):=by
  show Fk (Wv.val (D.int (if i<0 then-i else i)))=_
  congr 3
  split<;>lia
@[simp] theorem Wb:Lf (.val (.lst r))=some (.val (.int r.length)):=nr rfl
@[simp] theorem fI:Lf (.val (.tup r))=some (.val (.int r.length)):=nr rfl
@[simp] theorem fF{ns:List Int}:Lf (.val (.scr ns))=some (.val (.int ns.length)):=by
  show Fk (Wv.val (D.int ((ns.map D.int).length:Nat)))=_
  rw[oa]
@[simp] theorem bR:D8 w=(asS w).map λds=>.val (.tup ds):=nr rfl
@[simp] theorem dG:QZ w=(asS w).map λds=>.own ds:=nr rfl
@[simp] theorem kc{b:Bool}:ZZ (.val (.bl b))=some (.val (.int (if b then 1 else 0))):=nr rfl
@[simp] theorem fY{i j:Int}:fN (.val (.int i)) (.val (.int j))=some (.val (.int (if j<i then j else i))):=nr rfl
@[simp] theorem fS{T:String}:X0 w (.val (.ty T))=if So T=true then(kdW w).map λk=>.val (.bl (k.isA T))else none:=nr rfl
@[simp] theorem jS:So "int"=true:=by decide
@[simp] theorem fW:So "bool"=true:=by decide
theorem AS{n:Nat}(h:n<=1000):n<=sizeLine:=nR h (by decide)
@[simp] theorem sz0:(0:Nat)<=sizeLine:=Nat.zero_le _
@[simp] theorem sz1:(1:Nat)<=sizeLine:=AS (by decide)
@[simp] theorem sz2:(2:Nat)<=sizeLine:=AS (by decide)
@[simp] theorem sz3:(3:Nat)<=sizeLine:=AS (by decide)
@[simp] theorem sz4:(4:Nat)<=sizeLine:=AS (by decide)
@[simp] theorem sz5:(5:Nat)<=sizeLine:=AS (by decide)
@[simp] theorem sz6:(6:Nat)<=sizeLine:=AS (by decide)
@[simp] theorem HE:De E S=some (.bl true,S):=nr rfl
@[simp] theorem fw{s:Sr}{t:Tf}{b:Ex}:RF s t b E S=(s E S).bind λr=>NT r.1.2 t b r.1.1 E r.2:=nr rfl
@[simp] theorem Aw:gOk [] S:=λ_ h=>(nomatch h)
theorem PF{gs:Gd}{t:Tf}{b:Ex}(h:gOk gs S):NT gs t b [] E S=Fk (.nx,E,S):=by
 unfold NT
 rw[oP h]
theorem UX {gs : Gd} {t : Tf} {b : Ex} {ds : Gc D} (h : gOk gs S) : NT gs t b (d :: ds) E S = (t d E S).bind fun E1 => (b E1 S).bind fun r => match r.1 with
    | .nx => NT gs t b ds r.2.1 r.2.2
    | .ret w => Fk (.ret w, r.2) := by
  rw [NT, oP h]
  all_goals rfl
theorem HP{gs:Gd}{t:Tf}{b:Ex}{ds:Gc D}(h:gOk gs S):NT gs t b (d::ds) E S=(t d E S).bind λE1=>(b E1 S).bind (cm (NT gs t b ds)):=by
 rw[UX h]
 rfl
@[simp] theorem gL:Lx f E S=(f E S).bind λr=>(sqD r.2 r.1).map λp=>(p,r.2):=nr rfl
@[simp] theorem iK:sqD S (.tup r)=some (r,[]):=nr rfl
@[simp] theorem iL:sqD S (.lst r)=some (r,[]):=nr rfl
theorem Iy{n:Nat}(h:S[n]?=Fk (.lst r)):sqD S (.ref n)=Fk (r,[(n,r)]):=by
 show(Fo S n).map (λds=>(ds,[(n,ds)]))=_
 rw[AU h]
 rfl
@[simp] theorem gH:bW f E S=(f E S).bind λr=>(sqD r.2 r.1).map λp=>((Qh 0 p.1,p.2),r.2):=nr rfl
@[simp] theorem gO:XY f g E S=(f E S).bind λr=>(g E r.2).bind λq=>(sqD q.2 r.1).bind λa=>(sqD q.2 q.1).map λb=>((NF a.1 b.1,a.2++b.2),q.2):=by
  unfold XY
  rw[Dq]
  cases f E S with
  |none=>rfl
  |some r=>
   rw[By,By,Dq]
   cases g E r.2 with
   |none=>rfl
   |some q=>rfl
noncomputable def KP(j:Int):oQ:=decide (-(2^62)<=j) && decide (j<2^62)
theorem FC{j:Int}(h: -1000000<=j)(g:j<=1000000):KP j=true:=by
 unfold KP
 rw[nU]
 exact⟨qW (by lia),qW (by lia)⟩
noncomputable def jw(S:Sto):D->nG ((Gc D×Gd)×Sto)
 | .int j=>if KP j=true then Fk ((Jr 0 j.toNat,[]),S)else nD
 |_=>nD
@[simp] theorem gf{j:Int}:jw S (.int j)=if KP j=true then some ((Jr 0 j.toNat,[]),S)else none:=nr rfl
@[simp] theorem fH:Qe [f] E S=(f E S).bind λr=>jw r.2 r.1:=by
  unfold Qe
  rw[Dq]
  cases f E S with
  |none=>rfl
  |some r=>
   obtain⟨d,S1⟩:=r
   rw[By,ZR,iB,By,By]
   cases d<;>rfl
@[simp] theorem cC{cf:Bool}{cap:List Nat}{m:Nat}{s:Sr}{t:Tf}:OH cf cap m s t c f E S=(s E S).bind λr=>(Cb r.1.2 t c f r.1.1 [] (Qv cap m E) r.2).bind λq=>fin cf (.own q.1) q.2:=nr rfl
@[simp] theorem gd{cap:List Nat}{m:Nat}:Qv cap m E=cap.map (at? E)++List.replicate m none:=nr rfl
@[simp] theorem TB{i:Int}:Lc (.int i::r)=(Lc r).map λns=>i::ns:=by
  unfold Lc
  rw[xh]
  show(do let r1<-Fk i;let rs<-List.mapM intD r;pure (r1::rs))=_
  cases List.mapM intD r<;>rfl
theorem HH:∀(ns:Gc Int),Lc (ns.map D.int)=Fk ns
 | []=>rfl
 |n::ns=>by rw[oG,TB,HH ns];rfl
@[simp] theorem fD:Wa (.own r)=(Lc r).map λns=>.val (.int ns.sum):=nr rfl
@[simp] theorem gQ:Wa (.val (.lst r))=(Lc r).map λns=>.val (.int ns.sum):=nr rfl
@[simp] theorem ki:gZ true w (.val .non)=some (.val (.bl (!isN w))):=nr rfl
@[simp] theorem lQ{i:Int}{w:Wv}:NK true false [w,.val (.int i)]=wSl (some i) none w:=nr rfl
@[simp] theorem mF{i:Int}{w:Wv}:NK false true [w,.val (.int i)]=wSl none (some i) w:=nr rfl
@[simp] theorem mI{i j:Int}{w:Wv}:NK true true [w,.val (.int i),.val (.int j)]=wSl (some i) (some j) w:=nr rfl
@[simp] theorem jZ{lo hi:Option Int}:wSl lo hi (.val (.tup r))=some (.val (.tup (Mg r lo hi))):=nr rfl
end
structure Cv(A:Gc Nat)(S S':Sto):Prop where
 len:S.length<=S'.length
 keep:∀n,n<S.length->n∉A->S'[n]?=S[n]?
theorem Cv.refl{A:Gc Nat}{S:Sto}:Cv A S S:=⟨nS _,λ_ _ _=>rfl⟩
theorem Cv.trans{A:Gc Nat}{S S' S2:Sto}(h:Cv A S S')(g:Cv A S' S2):Cv A S S2:=⟨nR h.len g.len,λn hn ha=>(g.keep n (nQ hn h.len) ha).trans (h.keep n hn ha)⟩
theorem Cv.mono{A B:Gc Nat}{S S':Sto}(h:Cv A S S')(s:∀n∈A,n∈B):Cv B S S':=⟨h.len,λn hn hb=>h.keep n hn λz=>hb (s n z)⟩
theorem Cv.get{A:Gc Nat}{S S':Sto}(h:Cv A S S'){n:Nat}{c:Cl}(e:S[n]?=Fk c)(ha:n∉A):S'[n]?=Fk c:=by
 rw[h.keep n (nP.mp e).1 ha];exact e
theorem Cv.app{A:Gc Nat}{S T:Sto}:Cv A S (S++T):=⟨by simp,λn hn _=>nJ hn⟩
theorem Cv.set{A:Gc Nat}{S:Sto}{n:Nat}{c:Cl}(h:n∈A):Cv A S (S.set n c):=⟨by simp,λm hm ha=>nN (λz=>ha (by rw[<-z];exact h))⟩
theorem Cv.new{A:Gc Nat}{S S' S2:Sto}(h:Cv A S S')(g:Cv (A++B) S' S2)(hb:∀n∈B,S.length<=n):Cv A S S2:=⟨nR h.len g.len,λn hn ha=>(g.keep n (nQ hn h.len) (λz=>by
 rcases oD.mp z with z|z
 .exact ha z
 .have:=hb n z;lia)).trans (h.keep n hn ha)⟩
theorem Ao{S:Sto}{n:Nat}{c:Cl}(h:S[n]?=Fk c):n<S.length:=(nP.mp h).1
section
variable{E:En}{S:Sto}{f g h k l m:Ev}{cf:oQ}{F:Fn}
@[simp high] theorem fO{op:Op1}:PU cf (o1 op) [f] E S=(f E S).bind λr=>(op (dr r.2 r.1)).bind λw=>fin cf w r.2:=by
  rw[UR,Dq];cases f E S<;>rfl
@[simp high] theorem X6{op:Op2}:PU cf (o2 op) [f,g] E S=(f E S).bind λr=>(g E r.2).bind λq=>(op (dr q.2 r.1) (dr q.2 q.1)).bind λw=>fin cf w q.2:=by
  rw[UR,Dq]
  cases f E S with
  |none=>rfl
  |some r=>rw[By,By,Dq];cases g E r.2<;>rfl
theorem kj:evs [f] E S=(f E S).bind λr=>Fk ([r.1],r.2):=by rw[Dq];cases f E S<;>rfl
theorem kf:evs [f,g] E S=(f E S).bind λr=>(g E r.2).bind λq=>Fk ([r.1,q.1],q.2):=by
 rw[Dq];cases f E S with
 |none=>rfl
 |some r=>rw[By,By,kj];cases g E r.2<;>rfl
theorem kQ:evs [f,g,h] E S=(f E S).bind λr=>(g E r.2).bind λq=>(h E q.2).bind λu=>Fk ([r.1,q.1,u.1],u.2):=by
 rw[Dq];cases f E S with
 |none=>rfl
 |some r=>rw[By,By,kf];cases g E r.2 with
  |none=>rfl
  |some q=>rw[By,By];cases h E q.2<;>rfl
theorem lW:evs [f,g,h,k] E S=(f E S).bind λr=>(g E r.2).bind λq=>(h E q.2).bind λu=>(k E u.2).bind λv=>Fk ([r.1,q.1,u.1,v.1],v.2):=by
 rw[Dq];cases f E S with
 |none=>rfl
 |some r=>rw[By,By,kQ];cases g E r.2 with
  |none=>rfl
  |some q=>rw[By,By];cases h E q.2 with
   |none=>rfl
   |some u=>rw[By,By];cases k E u.2<;>rfl
@[simp high] theorem lC:evs [f] E S=(f E S).bind λr=>some ([r.1],r.2):=kj
@[simp high] theorem lG:evs [f,g] E S=(f E S).bind λr=>(g E r.2).bind λq=>some ([r.1,q.1],q.2):=kf
@[simp high] theorem mM:evs [f,g,h] E S=(f E S).bind λr=>(g E r.2).bind λq=>(h E q.2).bind λu=>some ([r.1,q.1,u.1],u.2):=kQ
@[simp high] theorem lL:evs [f,g,h,k] E S=(f E S).bind λr=>(g E r.2).bind λq=>(h E q.2).bind λu=>(k E u.2).bind λv=>some ([r.1,q.1,u.1,v.1],v.2):=lW
@[simp high] theorem mw{d:D}:eV 0 (some d::E) S=some (d,S):=nr rfl
@[simp high] theorem mz{d:D}{o0:Option D}:eV 1 (o0::some d::E) S=some (d,S):=nr rfl
@[simp high] theorem mn{d:D}{o0 o1:Option D}:eV 2 (o0::o1::some d::E) S=some (d,S):=nr rfl
@[simp high] theorem my{d:D}{o0 o1 o2:Option D}:eV 3 (o0::o1::o2::some d::E) S=some (d,S):=nr rfl
@[simp high] theorem md{d:D}{o0 o1 o2 o3:Option D}:eV 4 (o0::o1::o2::o3::some d::E) S=some (d,S):=nr rfl
@[simp high] theorem mv{d:D}{o0 o1 o2 o3 o4:Option D}:eV 5 (o0::o1::o2::o3::o4::some d::E) S=some (d,S):=nr rfl
@[simp high] theorem mq{d:D}{o0 o1 o2 o3 o4 o5:Option D}:eV 6 (o0::o1::o2::o3::o4::o5::some d::E) S=some (d,S):=nr rfl
@[simp high] theorem ml{d:D}{o0 o1 o2 o3 o4 o5 o6:Option D}:eV 7 (o0::o1::o2::o3::o4::o5::o6::some d::E) S=some (d,S):=nr rfl
@[simp high] theorem nB{d:D}{o0 o1 o2 o3 o4 o5 o6 o7:Option D}:eV 8 (o0::o1::o2::o3::o4::o5::o6::o7::some d::E) S=some (d,S):=nr rfl
@[simp high] theorem me{d:D}{o0 o1 o2 o3 o4 o5 o6 o7 o8:Option D}:eV 9 (o0::o1::o2::o3::o4::o5::o6::o7::o8::some d::E) S=some (d,S):=nr rfl
@[simp high] theorem lx{d:D}{o0 o1 o2 o3 o4 o5 o6 o7 o8 o9:Option D}:eV 10 (o0::o1::o2::o3::o4::o5::o6::o7::o8::o9::some d::E) S=some (d,S):=nr rfl
@[simp high] theorem mP{d:D}{o0 o1 o2 o3 o4 o5 o6 o7 o8 o9 o10:Option D}:eV 11 (o0::o1::o2::o3::o4::o5::o6::o7::o8::o9::o10::some d::E) S=some (d,S):=nr rfl
@[simp high] theorem mE{d:D}{o0 o1 o2 o3 o4 o5 o6 o7 o8 o9 o10 o11:Option D}:eV 12 (o0::o1::o2::o3::o4::o5::o6::o7::o8::o9::o10::o11::some d::E) S=some (d,S):=nr rfl
@[simp high] theorem kq{d:D}{o0 o1 o2 o3 o4 o5 o6 o7 o8 o9 o10 o11 o12:Option D}:eV 13 (o0::o1::o2::o3::o4::o5::o6::o7::o8::o9::o10::o11::o12::some d::E) S=some (d,S):=nr rfl
@[simp 20000] theorem kB{op:Op2}{d:D}:PU cf (o2 op) [f,eC d] E S=(f E S).bind λr=>(op (dr r.2 r.1) (dr r.2 d)).bind λw=>fin cf w r.2:=by
  rw[X6];cases f E S<;>rfl
@[simp high] theorem gN{i:Nat}{y:Ex}:Ae (CA i f) y E S=(f E S).bind λr=>y (E.set i (some r.1)) r.2:=by
  rw[Ru,WN];cases f E S<;>rfl
@[simp high] theorem gh{y:Ex}:Ae (EV f) y E S=(f E S).bind λr=>y E r.2:=by
  rw[Ru,U4];cases f E S<;>rfl
end
section
theorem mulL{i j:Int}(h: -18446744073709551616<i)(g:i<18446744073709551616):ED i j=true:=by
 unfold ED
 rw[pA]
 exact .inl (qW (by lia))
theorem mulR{i j:Int}(h: -18446744073709551616<j)(g:j<18446744073709551616):ED i j=true:=by
 unfold ED
 rw[pA,pA]
 exact .inr (.inl (qW (by lia)))
theorem Di{n k:Nat}(h:n<2^k)(hk:k<=8000):n<Gq:=nQ h (oV (by decide) hk)
theorem FJ{n:Int}(h0:0<n)(h1:n<1152921504606846976):n.natAbs<Gq:=Di (k:=60) (show n.natAbs<2^60 by lia) (by decide)
variable{S:Sto}
noncomputable def Qb(a b:Int):Int:=((tM a.natAbs b.natAbs:Nat):Int)
theorem MS{c:Ev}{b:Ex}{k:Nat}{E:En}:Im c b (k+1) E S=(c E S).bind λr=>match r.1 with
 | .bl true=>(b E r.2).bind λp=>match p.1 with
   | .nx=>Im c b k p.2.1 p.2.2
   | .ret w=>Fk (.ret w,p.2)
 | .bl false=>Fk (.nx,E,r.2)
 |_=>none:=rfl
theorem R4{c:Ev}{b:Ex}{k:Nat}{E E2:En}{S1 S2:Sto}(e1:c E S=Fk (.bl true,S1))(e2:b E S1=Fk (.nx,E2,S2)):Im c b (k+1) E S=Im c b k E2 S2:=by
 rw[MS,e1]
 show(b E S1).bind _=_
 rw[e2]
 rfl
theorem SG{c:Ev}{b:Ex}{k:Nat}{E:En}{S1:Sto}(e1:c E S=Fk (.bl false,S1)):Im c b (k+1) E S=Fk (.nx,E,S1):=by
 rw[MS,e1]
 rfl
theorem RU:∀(k:Nat) (x y:Nat),y<k->Im (eOp (o2 wNe) [eV 1,eC (.int 0)]) (Sn 0 1 (eV 1) (eOp (o2 Qc) [eV 0,eV 1])) k [Fk (.int x),Fk (.int y)] S=Fk (.nx,[Fk (.int (tM x y:Nat)),Fk (.int 0)],S)
 |0,x,y,h=>absurd h (xH _)
 |k+1,x,y,h=>by
  by_cases hy:y=0
  .subst hy
   rw[SG (S1:=S) (by simp)]
   simp
  .have hy2:(((y:Nat):Int)==0)=false:=by simpa using hy
   have ih:=RU k y (x % y) (by have:=Nat.mod_lt x (rZ hy);lia)
   rw[show((x % y:Nat):Int)=(x:Int) % (y:Int) by lia]at ih
   have hy4:0<y:=rZ hy
   rw[R4 (S1:=S) (S2:=S) (E2:=[Fk (.int y),Fk (.int ((x:Int) % (y:Int)))]) (by simp[hy2]) (by simp[hy4]),ih]
   rw[uk x y,zt y x,uk]
theorem eK(a b:Int):CD [.int a,.int b] S=Fk (.int (Qb a b),S):=by
 have:=RU (S:=S) (b.natAbs+2) a.natAbs b.natAbs (by lia)
 simp[CD,Fw,QR,TK,this,Qb]
theorem MC:∀(k:Nat) (x y:Nat),y<k->Im (eOp (o2 wGt) [eV 1,eC (.int 0)]) (Sn 0 1 (eV 1) (eOp (o2 Qc) [eV 0,eV 1])) k [Fk (.int x),Fk (.int y)] S=Fk (.nx,[Fk (.int (tM x y:Nat)),Fk (.int 0)],S)
 |0,x,y,h=>absurd h (xH _)
 |k+1,x,y,h=>by
  by_cases hy:y=0
  .subst hy
   rw[SG (S1:=S) (by simp)]
   simp
  .have ih:=MC k y (x % y) (by have:=Nat.mod_lt x (rZ hy);lia)
   rw[show((x % y:Nat):Int)=(x:Int) % (y:Int) by lia]at ih
   have hy4:0<y:=rZ hy
   rw[R4 (S1:=S) (S2:=S) (E2:=[Fk (.int y),Fk (.int ((x:Int) % (y:Int)))]) (by simp[hy4]) (by simp[hy4]),ih]
   rw[uk x y,zt y x,uk]
theorem UB(a b:Int)(ha:0<=a)(hb:0<=b):Gn [.int a,.int b] S=Fk (.int (Qb a b),S):=by
 have:=MC (S:=S) (b.natAbs+2) a.natAbs b.natAbs (by lia)
 have e1:((a.natAbs:Nat):Int)=a:=by lia
 have e2:((b.natAbs:Nat):Int)=b:=by lia
 rw[e1,e2]at this
 simp[Gn,K7,QR,TK,this,Qb]
noncomputable def lowP(t b:Int):Int×Int:=(t / Qb t b,b / Qb t b)
theorem SO{t b:Int}(h:0<b):0<Qb t b:=by
 unfold Qb
 have:0<tM t.natAbs b.natAbs:=Nat.gcd_pos_of_pos_right _ (by lia)
 lia
theorem VC{t b:Int}(h:0<b):(Qb t b).natAbs<=b.natAbs:=by
 unfold Qb
 have:tM t.natAbs b.natAbs<=b.natAbs:=Nat.gcd_le_right _ (by lia)
 lia
noncomputable def amD(p:Int×Int):D:=.tup [.int p.1,.int p.2]
theorem Jy{t b:Int}(h:0<b)(hb:b.natAbs<Gq):Dc [.int t,.int b] S=Fk (amD (lowP t b),S):=by
 have h1:=SO (t:=t) h
 have h2:(Qb t b).natAbs<Gq:=oq (VC h) hb
 simp[Dc,N6,eK,h1,h2,amD,lowP]
theorem Xq{t b:Int}:Qb (t.natAbs:Int) b=Qb t b:=by
 unfold Qb
 rw[qI]
theorem Q9{t b:Int}(h:0<b)(hb:b.natAbs<Gq):Bx [.int t,.int b] S=Fk (amD (lowP t b),S):=by
 have h1:=SO (t:=t) h
 have h2:(Qb t b).natAbs<Gq:=oq (VC h) hb
 have h3:=UB (S:=S) (t.natAbs:Int) b (by lia) (by lia)
 rw[Xq]at h3
 simp[Bx,Np,h3,h1,h2,amD,lowP]
noncomputable def aD(q:Rat):D:=.tup [.int q.num,.int q.den]
def Sz(k:Nat)(q:Rat):Prop:=q.num.natAbs<2^k/\q.den<2^k
theorem Ee(q:Rat):(q.num:Rat) / (q.den:Rat)=q:=by
 rw[<-wm,Rat.mkRat_self]
theorem JX(q:Rat):(q.den:Rat)≠0:=by
 have:=q.den_nz
 exact_mod_cast this
theorem MQ(t:Int)(n:Nat)(h:0<n):((t:Rat) / (n:Rat)).num=t / (tM t.natAbs n:Nat)/\((t:Rat) / (n:Rat)).den=n / tM t.natAbs n:=by
 have e:(t:Rat) / (n:Rat)=mkRat t n:=by rw[wm]
 rw[e,Rat.mkRat_def,dif_neg (by lia),Rat.normalize_eq]
 exact⟨rfl,rfl⟩
theorem JY{t b:Int}(h:0<b):amD (lowP t b)=aD ((t:Rat) / (b:Rat)):=by
 obtain⟨n,rfl⟩:∃n:Nat,b=n:=⟨b.natAbs,by lia⟩
 obtain⟨h1,h2⟩:=MQ t n (by lia)
 unfold amD aD lowP Qb
 rw[show(((n:Nat):Int):Rat)=((n:Nat):Rat)from rfl,h1,h2]
 simp
theorem N4{t b:Int}{k:Nat}(h:0<b)(ht:t.natAbs<2^k)(hb:b.natAbs<2^k):Sz k ((t:Rat) / (b:Rat)):=by
 obtain⟨n,rfl⟩:∃n:Nat,b=n:=⟨b.natAbs,by lia⟩
 obtain⟨h1,h2⟩:=MQ t n (by lia)
 unfold Sz
 rw[show(((n:Nat):Int):Rat)=((n:Nat):Rat)from rfl,h1,h2]
 exact⟨oq (Int.natAbs_ediv_le_natAbs _ _) ht,oq (xI _ _) (by simpa using hb)⟩
theorem D0{a b j k:Nat}(ha:a<2^j)(hb:b<2^k):a*b<2^(j+k):=by
 rw[Nat.pow_add]
 exact Nat.mul_lt_mul'' ha hb
theorem Hg{i j:Int}{k m:Nat}(hi:i.natAbs<2^k)(hj:j.natAbs<2^m)(h:k<=60000)(g:m<=60000):ED i j=true:=by
 unfold ED
 rw[pA,pA,nU]
 exact .inr (.inr ⟨qW (nQ hi (oV (by decide) h)),qW (nQ hj (oV (by decide) g))⟩)
theorem den_pos(q:Rat):0<(q.den:Int):=by have:=q.den_pos;lia
theorem bN{x:Int}{n m:Nat}(h:x.natAbs<2^n)(g:n<=m):x.natAbs<2^m:=nQ h (oV (by decide) g)
section
variable{p q:Rat}{j k:Nat}
theorem D6(hp:Sz j p)(hq:Sz k q):(p.num*q.den+q.num*p.den).natAbs<2^(j+k+1)/\((p.den:Int)*q.den).natAbs<2^(j+k)/\(p.num*q.den-q.num*p.den).natAbs<2^(j+k+1):=by
 have a1:=D0 hp.1 hq.2
 have a2:=D0 hq.1 hp.2
 have a3:=D0 hp.2 hq.2
 rw[ui k j]at a2
 have e:2^(j+k+1)=2^(j+k)+2^(j+k):=by rw[um];lia
 refine⟨?_,?_,?_⟩
 .refine oq (wM _ _) ?_
  rw[qr,qr,qI,qI,e]
  lia
 .rw[qr,qI,qI];exact a3
 .refine oq (Int.natAbs_sub_le _ _) ?_
  rw[qr,qr,qI,qI,e]
  lia
theorem Oi:(((p.num*q.den+q.num*p.den:Int):Rat) / (((p.den:Int)*q.den:Int):Rat))=p+q:=by
 have h1:=Ee p;have h2:=Ee q
 have d1:=JX p;have d2:=JX q
 push_cast
 grind
theorem R7:(((p.num*q.den-q.num*p.den:Int):Rat) / (((p.den:Int)*q.den:Int):Rat))=p-q:=by
 have h1:=Ee p;have h2:=Ee q
 have d1:=JX p;have d2:=JX q
 push_cast
 grind
theorem MU:(((p.num*q.num:Int):Rat) / (((p.den:Int)*q.den:Int):Rat))=p*q:=by
 have h1:=Ee p;have h2:=Ee q
 have d1:=JX p;have d2:=JX q
 push_cast
 grind
theorem bw(hp:Sz j p)(hq:Sz k q):Sz (j+k+1) (p+q):=by
 rw[<-Oi]
 have:=D6 hp hq
 exact N4 (pG (den_pos _) (den_pos _)) this.1 (bN this.2.1 (by lia))
theorem eD(hp:Sz j p)(hq:Sz k q):Sz (j+k+1) (p-q):=by
 rw[<-R7]
 have:=D6 hp hq
 exact N4 (pG (den_pos _) (den_pos _)) this.2.2 (bN this.2.1 (by lia))
theorem OI(hp:Sz j p)(hq:Sz k q):Sz (j+k) (p*q):=by
 rw[<-MU]
 have:=D6 hp hq
 exact N4 (pG (den_pos _) (den_pos _)) (by rw[qr];exact D0 hp.1 hq.1) this.2.1
end
section
variable{p q:Rat}{j k:Nat}
theorem Nv(hp:Sz j p)(hq:Sz k q)(hj:j+k<=7990):ED p.num q.den=true/\ED q.num p.den=true/\ED p.den q.den=true/\ED p.num q.num=true:=by
 refine⟨Hg hp.1 (by simpa using hq.2) (by lia) (by lia),Hg hq.1 (by simpa using hp.2) (by lia) (by lia),Hg (by simpa using hp.2) (by simpa using hq.2) (by lia) (by lia),Hg hp.1 hq.1 (by lia) (by lia)⟩
theorem cS(hp:Sz j p)(hq:Sz k q)(hj:j+k<=7990):Hw [aD p,aD q] S=Fk ((aD (p+q)),S):=by
 obtain⟨m1,m2,m3,m4⟩:=Nv hp hq (by lia)
 have b:=D6 hp hq
 have l:=Jy (S:=S) (t:=p.num*q.den+q.num*p.den) (b:=p.den*q.den) (pG (den_pos _) (den_pos _)) (Di b.2.1 (by lia))
 rw[JY (pG (den_pos _) (den_pos _)),Oi]at l
 simp only[aD]at l⊢
 simp[Hw,RZ,m1,m2,m3,l]
theorem cW(hp:Sz j p)(hq:Sz k q)(hj:j+k<=7990):Hk [aD p,aD q] S=Fk ((aD (p-q)),S):=by
 obtain⟨m1,m2,m3,m4⟩:=Nv hp hq (by lia)
 have b:=D6 hp hq
 have l:=Jy (S:=S) (t:=p.num*q.den-q.num*p.den) (b:=p.den*q.den) (pG (den_pos _) (den_pos _)) (Di b.2.1 (by lia))
 rw[JY (pG (den_pos _) (den_pos _)),R7]at l
 simp only[aD]at l⊢
 simp[Hk,RY,m1,m2,m3,l]
theorem Yu(hp:Sz j p)(hq:Sz k q)(hj:j+k<=7990):GU [aD p,aD q] S=Fk ((aD (p*q)),S):=by
 obtain⟨m1,m2,m3,m4⟩:=Nv hp hq (by lia)
 have b:=D6 hp hq
 have l:=Jy (S:=S) (t:=p.num*q.num) (b:=p.den*q.den) (pG (den_pos _) (den_pos _)) (Di b.2.1 (by lia))
 rw[JY (pG (den_pos _) (den_pos _)),MU]at l
 simp only[aD]at l⊢
 simp[GU,Pb,m3,m4,l]
theorem R5(hp:Sz j p)(hq:Sz k q)(hj:j+k<=7990):CH [aD p,aD q] S=Fk ((aD (p+q)),S):=by
 obtain⟨m1,m2,m3,m4⟩:=Nv hp hq (by lia)
 have b:=D6 hp hq
 have l:=Q9 (S:=S) (t:=p.num*q.den+q.num*p.den) (b:=p.den*q.den) (pG (den_pos _) (den_pos _)) (Di b.2.1 (by lia))
 rw[JY (pG (den_pos _) (den_pos _)),Oi]at l
 simp only[aD]at l⊢
 simp[CH,OA,m1,m2,m3,l]
theorem Kc(hp:Sz j p)(hq:Sz k q)(hj:j+k<=7990):Az [aD p,aD q] S=Fk ((aD (p*q)),S):=by
 obtain⟨m1,m2,m3,m4⟩:=Nv hp hq (by lia)
 have b:=D6 hp hq
 have l:=Q9 (S:=S) (t:=p.num*q.num) (b:=p.den*q.den) (pG (den_pos _) (den_pos _)) (Di b.2.1 (by lia))
 rw[JY (pG (den_pos _) (den_pos _)),MU]at l
 simp only[aD]at l⊢
 simp[Az,Mz,m3,m4,l]
theorem dX:aD (-q)=.tup [.int (0-q.num),.int q.den]:=by
 unfold aD
 rw[show(-q).num=0-q.num by simp,show(-q).den=q.den by simp]
theorem dO(hq:Sz k q):Sz k (-q):=by
 unfold Sz
 rw[show(-q).num= -q.num by simp,show(-q).den=q.den by simp,Int.natAbs_neg]
 exact hq
theorem Y4(hp:Sz j p)(hq:Sz k q)(hj:j+k<=7990):EB [aD p,aD q] S=Fk ((aD (p-q)),S):=by
 have l:=R5 (S:=S) hp (dO hq) hj
 rw[dX]at l
 rw[Rat.sub_eq_add_neg]
 simp only[aD]at l⊢
 simp at l
 simp[EB,N8,l]
end
theorem U1{t b:Int}(h:0<b)(hb:b.natAbs<Gq):Dc [.int t,.int b] S=Fk ((aD (t / b)),S):=by
 rw[Jy h hb,JY h]
theorem YC{t b:Int}(h:0<b)(hb:b.natAbs<Gq):Bx [.int t,.int b] S=Fk ((aD (t / b)),S):=by
 rw[Q9 h hb,JY h]
theorem JI{a b:Int}{k:Nat}(ha:a.natAbs<2^k)(hb:b.natAbs<2^k):(a+b).natAbs<2^(k+1):=by
 have e:2^(k+1)=2^k+2^k:=by rw[um];lia
 have:=wM a b
 lia
theorem KR{a b:Int}{j k:Nat}(ha:a.natAbs<2^j)(hb:b.natAbs<2^k):(a*b).natAbs<2^(j+k):=by
 rw[qr];exact D0 ha hb
theorem VZ{p q:Rat}{w m:Int}(h:0<w+m):((p.num*q.den*w+q.num*p.den*m:Int):Rat) / (((p.den:Int)*q.den*(w+m):Int):Rat)=(p*w+q*m) / (w+m):=by
 have h1:=Ee p;have h2:=Ee q
 have d1:=JX p;have d2:=JX q
 have d3:((w:Rat)+(m:Rat))≠0:=by
  intro e
  have:((w+m:Int):Rat)=0:=by push_cast;exact e
  have:=qt.mp this
  lia
 push_cast
 grind
section
variable{p q:Rat}{w m:Int}{j k n:Nat}
theorem X8(hp:Sz j p)(hq:Sz k q)(hw:w.natAbs<2^n)(hm:m.natAbs<2^n):(p.num*q.den*w+q.num*p.den*m).natAbs<2^(j+k+n+1)/\((p.den:Int)*q.den*(w+m)).natAbs<2^(j+k+(n+1)):=by
 have d1:((p.den:Int)).natAbs<2^j:=by simpa using hp.2
 have d2:((q.den:Int)).natAbs<2^k:=by simpa using hq.2
 refine⟨JI (KR (KR hp.1 d2) hw) ?_,KR (KR d1 d2) (JI hw hm)⟩
 have:=KR (KR hq.1 d1) hm
 rwa [ui k j]at this
theorem dM(hp:Sz j p)(hq:Sz k q)(hw:w.natAbs<2^n)(hm:m.natAbs<2^n)(h:0<w+m)(hj:j+k+n+1<=7990):Iq [aD p,.int w,aD q,.int m] S=Fk ((aD ((p*w+q*m) / (w+m))),S):=by
 obtain⟨m1,m2,m3,m4⟩:=Nv hp hq (by lia)
 have d1:((p.den:Int)).natAbs<2^j:=by simpa using hp.2
 have d2:((q.den:Int)).natAbs<2^k:=by simpa using hq.2
 have b:=X8 hp hq hw hm
 have m5:ED (p.num*q.den) w=true:=Hg (KR hp.1 d2) hw (by lia) (by lia)
 have m6:ED (q.num*p.den) m=true:=Hg (KR hq.1 d1) hm (by lia) (by lia)
 have m7:ED ((p.den:Int)*q.den) (w+m)=true:=Hg (KR d1 d2) (JI hw hm) (by lia) (by lia)
 have l:=U1 (S:=S) (t:=p.num*q.den*w+q.num*p.den*m) (b:=p.den*q.den*(w+m)) (pG (pG (den_pos _) (den_pos _)) h) (Di b.2 (by lia))
 rw[VZ h]at l
 simp only[aD]at l⊢
 simp[Iq,Pf,m1,m2,m3,m5,m6,m7,l]
end
end
section
variable{S:Sto}{p:Nat}
theorem Yw{r:Gc D}(h:p<S.length):dr (S.set p (.lst r)) (.ref p)=.own r:=BE (nZ h)
def Pen(ds:Gc D):Prop:=∃a b c d:Int,ds=[.int a,.int b,.int c,.int d]/\0<=d/\d<1000000007
def Ea(p:Nat)(S:Sto):Prop:=∃ds,S[p]?=Fk (.lst ds)/\Pen ds
structure Pn(p:Nat)(S S':Sto):Prop where
 same:Cv [p] S S'
 pen:Ea p S'
theorem Pn.trans{S S' S2:Sto}(h:Pn p S S')(g:Pn p S' S2):Pn p S S2:=⟨h.same.trans g.same,g.pen⟩
theorem Pn.get{S S':Sto}(h:Pn p S S'){n:Nat}{c:Cl}(e:S[n]?=Fk c)(ha:n≠p):S'[n]?=Fk c:=h.same.get e (by simpa using ha)
theorem Pn.refl(h:Ea p S):Pn p S S:=⟨.refl,h⟩
theorem Ea.lt(h:Ea p S):p<S.length:=by obtain⟨ds,e,_⟩:=h;exact Ao e
theorem Ea.app(h:Ea p S)(T:Sto):Ea p (S++T):=by obtain⟨ds,e,hp⟩:=h;exact⟨ds,by rw[nJ (Ao e)];exact e,hp⟩
theorem Ar(h:Ea p S){n:Int}(h0:0<n)(h1:n<1152921504606846976):∃r S',AK [.ref p,.int n] S=Fk (.int r,S')/\0<=r/\r<n/\Pn p S S':=by
 obtain⟨ds,hp,a,b,c,d,rfl,hd0,hd1⟩:=h
 have hl:=Ao hp
 have hs:=FJ h0 h1
 have hr:=BE hp
 have hc:=AU hp
 by_cases hb:b=1/\0<a
 .obtain⟨rfl,ha⟩:=hb
  refine⟨a % n,S.set p (.lst [.int (a / n),.int 1,.int c,.int d]),?_,qf _ (by lia),qz _ h0,.set (by simp),_,nZ hl,_,_,_,_,rfl,hd0,hd1⟩
  simp[AK,JK,ha,h0,hs,hr,hc]
 .have m1:ED (d+17) (69621+2*(c+1))=true:=mulL (by lia) (by lia)
  have m2:ED 2 (c+1)=true:=mulL (by decide) (by decide)
  generalize ht:(d+17)*(69621+2*(c+1)) % 2147483647=t at*
  have t0:0<=t:=by rw[<-ht];exact qf _ (by decide)
  have t1:t<2147483647:=by rw[<-ht];exact qz _ (by decide)
  have m3:ED t t=true:=mulL (by lia) (by lia)
  have m4:ED 40503 (c+1)=true:=mulL (by decide) (by decide)
  generalize hu:(t*t+40503*(c+1)+5) % 2147483629=u at*
  have u0:0<=u:=by rw[<-hu];exact qf _ (by decide)
  have u1:u<2147483629:=by rw[<-hu];exact qz _ (by decide)
  have m5:ED u 48271=true:=mulL (by lia) (by lia)
  have d32:(32:Int).natAbs<Gq:=FJ (by decide) (by decide)
  have d32':(32:Nat)<Gq:=d32
  refine⟨u*48271 % 2147483647 / 32 % n,S.set p (.lst [.int a,.int b,.int (c+1),.int d]),?_,qf _ (by lia),qz _ h0,.set (by simp),_,nZ hl,_,_,_,_,rfl,hd0,hd1⟩
  by_cases hb1:b=1
  .subst hb1
   have ha:¬0<a:=λz=>hb ⟨rfl,z⟩
   simp[AK,JK,ha,h0,hs,hr,hc,Yw,hl,m1,m2,m3,m4,m5,ht,hu,d32']
  .have hb2:(b==1)=false:=by simpa using hb1
   simp[AK,JK,hb2,h0,hs,hr,hc,Yw,hl,m1,m2,m3,m4,m5,ht,hu,d32']
theorem bf(c:Int):∃p S',Il [.int c] S=Fk (.ref p,S')/\Ea p S'/\Cv [] S S'/\S.length<=p:=by
 refine⟨S.length,S++[.lst [.int c,.int (if(10:Int)^18<=c then 1 else 0),.int 0,.int (c % 1000000007)]],?_,⟨_,oC,_,_,_,_,rfl,qf _ (by decide),qz _ (by decide)⟩,.app,nS _⟩
 simp[Il,QH]
theorem FR{gs:Gd}{t:Tf}{c f:Ev}{acc:Gc D}{E:En}(h:gOk gs S):Cb gs t c f [] acc E S=Fk (acc,S):=by
 unfold Cb
 rw[oP h]
theorem N5 {gs : Gd} {t : Tf} {c f : Ev} {d : D} {ds acc : Gc D} {E : En} (h : gOk gs S) (hz : acc.length < sizeLine) : Cb gs t c f (d :: ds) acc E S = (t d E S).bind fun E1 => (c E1 S).bind fun r => match r.1 with
      | .bl true => (f E1 r.2).bind fun p => Cb gs t c f ds (acc ++ [p.1]) E1 p.2
      | .bl false => Cb gs t c f ds acc E1 r.2
      | _ => none := by
  rw [Cb, oP h, oP hz]
  all_goals rfl
theorem Ip{gs:Gd}{t:Tf}{c f:Ev}{d:D}{ds acc:Gc D}{E E1:En}{S1:Sto}(h:gOk gs S)(hz:acc.length<sizeLine)(e1:t d E S=Fk E1)(e2:c E1 S=Fk (.bl true,S1)):Cb gs t c f (d::ds) acc E S=(f E1 S1).bind λp=>Cb gs t c f ds (acc++[p.1]) E1 p.2:=by
 rw[N5 h hz,e1]
 show(c E1 S).bind _=_
 rw[e2]
 rfl
theorem Jp{gs:Gd}{t:Tf}{c f:Ev}{d:D}{ds acc:Gc D}{E E1:En}{S1:Sto}(h:gOk gs S)(hz:acc.length<sizeLine)(e1:t d E S=Fk E1)(e2:c E1 S=Fk (.bl false,S1)):Cb gs t c f (d::ds) acc E S=Cb gs t c f ds acc E1 S1:=by
 rw[N5 h hz,e1]
 show(c E1 S).bind _=_
 rw[e2]
 rfl
theorem L4{gs:Gd}{t:Tf}{f:Ev}{C:En}{m:Nat}{I:Sto->Prop}{R:D->D->Prop}(hg:∀S,I S->gOk gs S):∀{ds acc:Gc D} {os:En} {S:Sto},os.length=m->I S->acc.length+ds.length<=sizeLine->(∀d∈ds,∀os S,os.length=m->I S->∃us y S',us.length=m/\t d (C++os) S=Fk (C++us)/\f (C++us) S=Fk (y,S')/\I S'/\R d y)->∃ys S',Cb gs t De f ds acc (C++os) S=Fk (acc++ys,S')/\I S'/\ys.length=ds.length/\Paired R ds ys
 | [],acc,os,S,ho,hI,hz,h=>⟨[],S,by rw[FR (hg S hI)];simp,hI,rfl,.nil⟩
 |d::ds,acc,os,S,ho,hI,hz,h=>by
  obtain⟨us,y,S1,hu,e1,e2,I1,r1⟩:=h d nT os S ho hI
  obtain⟨ys,S2,e3,I2,l2,r2⟩:=L4 hg (ds:=ds) (acc:=acc++[y]) (os:=us) (S:=S1) hu I1 (by simp at hz ⊢; lia) λd' hd=>h d' (nK _ hd)
  refine⟨y::ys,S2,?_,I2,by simp[l2],.cons r1 r2⟩
  rw[Ip (hg S hI) (by simp at hz;lia) e1 HE,e2,By,e3]
  simp
theorem comp_map{gs:Gd}{t:Tf}{f:Ev}{C:En}{m:Nat}{g:D->D}{S:Sto}(hg:gOk gs S):∀{ds acc:Gc D} {os:En},os.length=m->acc.length+ds.length<=sizeLine->(∀d∈ds,∀os,os.length=m->∃us,us.length=m/\t d (C++os) S=Fk (C++us)/\f (C++us) S=Fk (g d,S))->Cb gs t De f ds acc (C++os) S=Fk (acc++ds.map g,S)
 | [],acc,os,ho,hz,h=>by rw[FR hg];simp
 |d::ds,acc,os,ho,hz,h=>by
  obtain⟨us,hu,e1,e2⟩:=h d nT os ho
  rw[Ip hg (by simp at hz;lia) e1 HE,e2,By]
  rw[comp_map hg hu (by simp at hz ⊢; lia) λd' hd=>h d' (nK _ hd)]
  simp
theorem IS{gs:Gd}{t:Tf}{b:Ex}{I:Gc D->En->Sto->Prop}(hg:∀ds E S,I ds E S->gOk gs S):∀{ds:Gc D} {E:En} {S:Sto},I ds E S->(∀d ds E S,I (d::ds) E S->∃E1 E2 S2,t d E S=Fk E1/\b E1 S=Fk (.nx,E2,S2)/\I ds E2 S2)->∃E' S',NT gs t b ds E S=Fk (.nx,E',S')/\I [] E' S'
 | [],E,S,hI,h=>⟨E,S,PF (hg _ _ _ hI),hI⟩
 |d::ds,E,S,hI,h=>by
  obtain⟨E1,E2,S2,e1,e2,I2⟩:=h d ds E S hI
  obtain⟨E',S',e3,I3⟩:=IS hg I2 h
  exact⟨E',S',by rw[HP (hg _ _ _ hI),e1];simp[e2,e3],I3⟩
theorem pick{xs:Gc D}{r:Int}(h0:0<=r)(h1:r<xs.length):∃x,atI xs r=Fk x/\x∈xs:=⟨_,Yc h0 h1,qu _⟩
theorem Kw{α β:Type}{P:β->Prop}:∀{xs:Gc α} {ys:Gc β},Paired (λ_ y=>P y) xs ys->∀y∈ys,P y
 |_,_,.nil,y,h=>by cases h
 |_,_,.cons r t,y,h=>by
  rcases nO.mp h with h|h
  .rw[h];exact r
  .exact Kw t y h
theorem Gv{lo:Int}{n:Nat}:(Jr lo n).length=n:=by simp[Jr]
end
def Ok(G B:Nat)(r:Rat):Prop:=∃z:Nat,r*(G:Rat)=(z:Rat)/\z<=B
theorem Nj{n:Nat}(h:0<n):(n:Rat)≠0:=by
 have:n≠0:=by lia
 exact_mod_cast this
theorem Ok.sz{G B k:Nat}{r:Rat}(h:Ok G B r)(hG:0<G)(g:G<2^k)(b:B<2^k):Sz k r:=by
 obtain⟨z,e,hz⟩:=h
 have e2:r=((z:Int):Rat) / ((G:Int):Rat):=by
  have:=Nj hG
  rw[show(((z:Nat):Int):Rat)=(z:Rat)from rfl,show(((G:Nat):Int):Rat)=(G:Rat)from rfl,<-e]
  grind
 rw[e2]
 exact N4 (by lia) (by simpa using oq hz b) (by simpa using g)
theorem Ok.up{G B t B':Nat}{r:Rat}(h:Ok G B r)(hB:B*t<=B'):Ok (G*t) B' r:=by
 obtain⟨z,e,hz⟩:=h
 refine⟨z*t,?_,nR (pS t hz) hB⟩
 push_cast
 rw[<-e]
 grind
theorem Ok.zero{G B:Nat}:Ok G B 0:=⟨0,by simp,qv _⟩
theorem Ok.one{G B:Nat}(h:G<=B):Ok G B 1:=⟨G,by simp,h⟩
theorem Ok.mix{G B a b t:Nat}{r o:Rat}(hr:Ok G B r)(ho:Ok G B o)(ht:a+b=t)(h0:0<t):Ok (G*t) (B*t) ((r*(a:Rat)+o*(b:Rat)) / (t:Rat)):=by
 obtain⟨z,e1,h1⟩:=hr
 obtain⟨y,e2,h2⟩:=ho
 refine⟨z*a+y*b,?_,?_⟩
 .have:=Nj h0
  push_cast
  rw[<-e1,<-e2]
  grind
 .rw[<-ht,Nat.mul_add]
  exact xl (pS a h1) (pS b h2)
structure Tr where
 p:Nat
 k:Nat
 b:Nat
 ho:Gc Rat
 h:Int
 l:Int
structure Ld where
 k:Nat
 n:Int
 ow:Gc Rat
structure Stt where
 AE:Gc Ld
 hold:Gc Rat
 nums:Gc Int
inductive AX where
 |Hu (p k:Nat) (n:Int)
 |JT (a b:Nat)
 |swap (l:Nat) (g:Int) (k:Nat) (n:Int)
 |G4 (t:Int) (l:Nat) (g:Int) (k:Nat) (n:Int)
 |IP (l:Nat) (n:Int)
 |thr (l:Nat) (n:Int) (ws:Gc Int)
 |Ht (p q:Nat) (s:Rat)
noncomputable def shD(rs:Gc Rat):D:=.tup (rs.map aD)
noncomputable def Tr.d(t:Tr):D:=.tup [.int t.p,.int t.k,.int t.b,shD t.ho,.int t.h,.int t.l]
noncomputable def Ld.d(l:Ld):D:=.tup [.int l.k,.int l.n,shD l.ow]
noncomputable def AX.d:AX->D
 | .Hu p k n=>.tup [.str "bring",.int p,.int k,.int n]
 | .JT a b=>.tup [.str "pool",.int a,.int b]
 | .swap l g k n=>.tup [.str "swap",.int l,.int g,.int k,.int n]
 | .G4 t l g k n=>.tup [.str "trade",.int t,.int l,.int g,.int k,.int n]
 | .IP l n=>.tup [.str "spoil",.int l,.int n]
 | .thr l n ws=>.tup [.str "throw",.int l,.int n,.tup (ws.map .int)]
 | .Ht p q s=>.tup [.str "sell",.int p,.int q,aD s]
noncomputable def IQ(x:Rat)(os ss:Gc Rat):Gc Rat:=sN (λs o=>s*(1-x)+o*x) ss os
noncomputable def Hd(p q:Nat)(s:Rat)(ss:Gc Rat):Gc Rat:=(ss.set p (ss.getD p 0-ss.getD p 0*s)).set q (ss.getD q 0+ss.getD p 0*s)
noncomputable def Cc(n m:Int)(ss os:Gc Rat):Gc Rat:=sN (λs o=>(s*n+o*m) / (n+m:Int)) ss os
noncomputable def Ek(t:Tr)(ls:Gc Ld)(ws:Gc Int):Int:=(ls.map λl=>l.n*ws.getD l.k 0).sum+t.b*ws.getD t.k 0
noncomputable def Jn(t:Tr)(ls:Gc Ld)(l:Nat)(n:Int)(ws:Gc Int):Rat:=((n*ws.getD ((ls[l]?.map (·.k)).getD 0) 0:Int):Rat) / (Ek t ls ws:Rat)
noncomputable def AR(ls:Gc Ld)(l:Nat):Ld:=ls.getD l ⟨0,0,[]⟩
noncomputable def less(ls:Gc Ld)(l:Nat)(n:Int):Gc Ld:=ls.set l {AR ls l with n:=(AR ls l).n-n}
noncomputable def VS(p i:Nat):Gc Rat:=(oF p).map λj=>if j=i then 1 else 0
noncomputable def step(t:Tr)(s:Stt):AX->Stt
 | .Hu p k n=>{s with AE:=s.AE++[⟨k,n,VS t.p p⟩]}
 | .JT a b=>{s with AE:=less (less s.AE a (AR s.AE a).n) b (AR s.AE b).n++[⟨(AR s.AE a).k,(AR s.AE a).n+(AR s.AE b).n,Cc (AR s.AE a).n (AR s.AE b).n (AR s.AE a).ow (AR s.AE b).ow⟩]}
 | .swap l g k n=>{s with AE:=less s.AE l g++[⟨k,n,(AR s.AE l).ow⟩]}
 | .G4 u l g k n=>{s with AE:=less s.AE l g++[⟨k,n,(AR s.AE l).ow⟩],nums:=s.nums++[u]}
 | .IP l n=>{s with AE:=less s.AE l n}
 | .thr l n ws=>{s with AE:=(less s.AE l n).map λx=>{x with ow:=IQ (Jn t s.AE l n ws) (AR s.AE l).ow x.ow},hold:=IQ (Jn t s.AE l n ws) (AR s.AE l).ow s.hold}
 | .Ht p q x=>{s with AE:=s.AE.map λy=>{y with ow:=Hd p q x y.ow},hold:=Hd p q x s.hold}
def K4(t:Tr):Prop:=1<=t.p/\t.p<=4/\1<=t.k/\t.k<=5/\1<=t.b/\t.b<=20
def Can(t:Tr)(s:Stt):AX->Prop
 | .Hu p k n=>p<t.p/\k<t.k/\1<=n/\n<2^131
 | .JT a b=>a≠b/\a<s.AE.length/\b<s.AE.length/\0<(AR s.AE a).n/\0<(AR s.AE b).n/\(AR s.AE a).k=(AR s.AE b).k
 | .swap l g k n=>l<s.AE.length/\1<=g/\g<=(AR s.AE l).n/\k<t.k/\k≠(AR s.AE l).k/\1<=n/\n<2^131
 | .G4 u l g k n=>l<s.AE.length/\1<=g/\g<=(AR s.AE l).n/\k<t.k/\k≠(AR s.AE l).k/\1<=n/\n<2^131/\u∉s.nums/\0<=u/\u<=9
 | .IP l n=>l<s.AE.length/\1<=n/\n<=(AR s.AE l).n
 | .thr l n ws=>l<s.AE.length/\1<=n/\n<=(AR s.AE l).n/\ws.length=t.k+1/\∀w∈ws,1<=w/\w<=99
 | .Ht p q x=>p≠q/\p<t.p/\q<t.p/\0<x.num/\x.num<=x.den/\x.den<=12
structure Gb(t:Tr)(k:Nat)(s:Stt):Prop where
 len:s.AE.length<=4+k
 kind:∀l∈s.AE,l.k<t.k
 pcs:∀l∈s.AE,0<=l.n/\l.n<2^(131+k)
 own:∀l∈s.AE,l.ow.length=t.p
 hold:s.hold.length=t.p
 nm:s.nums.length<=k
 gb:∃G B:Nat,0<G/\G<=B/\B<2^(30+170*k)/\(∀l∈s.AE,∀r∈l.ow,Ok G B r)/\∀r∈s.hold,Ok G B r
theorem Gb.sz{t:Tr}{k:Nat}{s:Stt}(h:Gb t k s):(∀l∈s.AE,∀r∈l.ow,Sz (30+170*k) r)/\∀r∈s.hold,Sz (30+170*k) r:=by
 obtain⟨G,B,g0,gb,b,h1,h2⟩:=h.gb
 exact⟨λl hl r hr=>(h1 l hl r hr).sz g0 (oq gb b) b,λr hr=>(h2 r hr).sz g0 (oq gb b) b⟩
theorem Ay{ls:Gc Ld}{l:Nat}(h:l<ls.length):AR ls l∈ls:=by
 unfold AR
 rw[nW,nM h]
 exact qu h
theorem Gm{ls:Gc Ld}{l:Nat}(h:l<ls.length):ls[l]?=Fk (AR ls l):=by
 unfold AR
 rw[nW,nM h]
 rfl
theorem ON{ls:Gc Ld}{l:Nat}{n:Int}{x:Ld}(h:x∈less ls l n)(hl:l<ls.length):x∈ls\/x={AR ls l with n:=(AR ls l).n-n}:=by
 unfold less at h
 rcases qc h with h|h
 .exact .inl h
 .exact .inr h
theorem Eg{ls:Gc Ld}{l:Nat}{n:Int}:(less ls l n).length=ls.length:=by simp[less]
section
variable{S:Sto}{p:Nat}
theorem Q5{P:Int->Prop}:∀{ys:Gc D},(∀y∈ys,∃i:Int,y=.int i/\P i)->∃ns:Gc Int,ys=ns.map D.int/\∀n∈ns,P n
 | [],_=>⟨[],rfl,λn h=>by cases h⟩
 |y::ys,h=>by
  obtain⟨i,rfl,hi⟩:=h y nT
  obtain⟨ns,rfl,hn⟩:=Q5 (P:=P) (ys:=ys) λz hz=>h z (nK _ hz)
  exact⟨i::ns,rfl,λn hn'=>by
   rcases nO.mp hn' with e|e
   .rw[e];exact hi
   .exact hn n e⟩
theorem QN{ns:Gc Int}(h:∀n∈ns,0<=n/\n<=8):0<=ns.sum/\ns.sum<=8*ns.length/\∀n∈ns,n<=ns.sum:=by
 induction ns with
 |nil=>simp
 |cons a l ih=>
  have h1:=h a nT
  obtain⟨i1,i2,i3⟩:=ih λn hn=>h n (nK _ hn)
  rw[rA,pD]
  refine⟨by lia,by push_cast;lia,λn hn=>?_⟩
  rcases nO.mp hn with e|e
  .lia
  .have:=i3 n e;lia
theorem Tg (h : Ea p S) {n : Nat} (hn : n ≤ 20) : ∃ (ns : Gc Int) (S' : Sto), Cb [] (tNm 1) De (eOp (o2 wIx) [(JJ [(eC (.int 0)), (eC (.int 1)), (AJ AK [(eV 0), (eC (.int 4))]), (AJ AK [(eV 0), (eC (.int 9))])]), (AJ AK [(eV 0), (eC (.int 4))])]) (Jr 0 n) [] [Fk (.ref p), nD] S = Fk (ns.map D.int, S') /\ Pn p S S' /\ ns.length = n /\ ∀ i ∈ ns, 0 ≤ i /\ i ≤ 8 := by
  obtain ⟨ys, S', e, hI, l, r⟩ := L4 (gs := []) (t := tNm 1) (f := eOp (o2 wIx) [(JJ [(eC (.int 0)), (eC (.int 1)), (AJ AK [(eV 0), (eC (.int 4))]), (AJ AK [(eV 0), (eC (.int 9))])]), (AJ AK [(eV 0), (eC (.int 4))])]) (C := [Fk (.ref p)]) (m := 1) (I := Pn p S) (R := fun _ y => ∃ i : Int, y = .int i /\ 0 ≤ i /\ i ≤ 8)
    (fun _ _ => Aw) (ds := Jr 0 n) (acc := []) (os := [nD]) rfl (Pn.refl h) (by rw [Gv]; simp; exact AS (by lia)) fun d _ os S0 ho I0 => by
      obtain ⟨o, rfl⟩ := Qz ho
      obtain ⟨r1, S1, e1, a1, b1, p1⟩ := Ar I0.pen (n := 4) (by decide) (by decide)
      obtain ⟨r2, S2, e2, a2, b2, p2⟩ := Ar p1.pen (n := 9) (by decide) (by decide)
      obtain ⟨r3, S3, e3, a3, b3, p3⟩ := Ar p2.pen (n := 4) (by decide) (by decide)
      obtain ⟨x, ex, hx⟩ := pick (xs := [.int 0, .int 1, .int r1, .int r2]) (r := r3) a3 (by simpa using b3)
      refine ⟨[Fk d], x, S3, rfl, by simp, by simp [e1, e2, e3, ex], ((I0.trans p1).trans p2).trans p3, ?_⟩
      simp only [nO, oB, pO] at hx
      rcases hx with rfl | rfl | rfl | rfl
      · exact ⟨0, rfl, by decide, by decide⟩
      · exact ⟨1, rfl, by decide, by decide⟩
      · exact ⟨r1, rfl, by lia, by lia⟩
      · exact ⟨r2, rfl, by lia, by lia⟩
  obtain ⟨ns, rfl, hns⟩ := Q5 (Kw r)
  exact ⟨ns, S', by simpa using e, hI, by simpa [Gv] using l, hns⟩
noncomputable def JS(ns:Gc Int):Gc Rat:=ns.map λ(n:Int)=>(n:Rat) / (ns.sum:Rat)
theorem Mw{ns:Gc Int}(h:∀n∈ns,0<=n/\n<=8)(hs:0<ns.sum):∀r∈JS ns,Ok ns.sum.toNat ns.sum.toNat r:=by
 intro r hr
 obtain⟨n,hn,rfl⟩:=oj.mp hr
 have h1:=h n hn
 have h2:=(QN h).2.2 n hn
 refine⟨n.toNat,?_,by lia⟩
 have e1:((ns.sum.toNat:Nat):Rat)=(ns.sum:Rat):=by
  have:((ns.sum.toNat:Nat):Int)=ns.sum:=by lia
  exact congrArg (λz:Int=>(z:Rat)) this
 have e2:((n.toNat:Nat):Rat)=(n:Rat):=by
  have:((n.toNat:Nat):Int)=n:=by lia
  exact congrArg (λz:Int=>(z:Rat)) this
 rw[e1,e2]
 have:(ns.sum:Rat)≠0:=by
  intro z
  have:=qt.mp z
  lia
 grind
theorem Uh{s:Rat}:∀{ns:Gc Int},(ns.map λ(n:Int)=>(n:Rat) / s).sum=(ns.sum:Rat) / s
 | []=>by simp;grind
 |n::ns=>by
  rw[oG,rA,rA,Uh (ns:=ns)]
  push_cast
  grind
theorem Pc{ns:Gc Int}(hs:0<ns.sum):(JS ns).sum=1:=by
 unfold JS
 rw[Uh]
 have:(ns.sum:Rat)≠0:=by
  intro z
  have:=qt.mp z
  lia
 grind
theorem RT{ns:Gc Int}{q:Nat}(hq:S[q]?=Fk (.lst (ns.map D.int)))(hl:ns.length<=20)(hn:∀n∈ns,0<=n/\n<=8)(hs:0<ns.sum):Cb [(q,ns.map D.int)] (tNm 1) De (AJ Bx [eV 1,eOp (o1 Wa) [eV 0]]) (ns.map D.int) [] [Fk (.ref q),nD] S=Fk ((JS ns).map aD,S):=by
 obtain⟨s1,s2,s3⟩:=QN hn
 have:=comp_map (gs:=[(q,ns.map D.int)]) (t:=tNm 1) (f:=AJ Bx [eV 1,eOp (o1 Wa) [eV 0]]) (C:=[Fk (.ref q)]) (m:=1) (g:=λd=>match d with| .int n=>aD ((n:Rat) / (ns.sum:Rat))|d=>d) (S:=S) (λg hg=>by rw[oJ.mp hg];exact AU hq) (ds:=ns.map D.int) (acc:=[]) (os:=[nD]) rfl (by simp;exact AS (by lia)) λd hd os ho=>by
  obtain⟨o,rfl⟩:=Qz ho
  obtain⟨i,hi,rfl⟩:=oj.mp hd
  have m:=YC (S:=S) (t:=i) hs (FJ (by lia) (by lia))
  exact⟨[Fk (.int i)],rfl,by simp,by simp[BE hq,HH,m]⟩
 have e2:(ns.map D.int).map (λd=>match d with| .int n=>aD ((n:Rat) / (ns.sum:Rat))|d=>d)=(JS ns).map aD:=by
  unfold JS
  rw[om,om]
  rfl
 rw[e2]at this
 simpa using this
theorem Rn(h:Ea p S){n:Nat}(h1:1<=n)(h2:n<=4):∃rs S',Dt [.ref p,.int n] S=Fk (shD rs,S')/\Pn p S S'/\(rs.length=n/\rs.sum=1)/\∃G:Nat,0<G/\G<=32/\∀r∈rs,Ok G G r:=by
 obtain⟨ns,S1,e1,p1,l1,i1⟩:=Tg (n:=n) h (by lia)
 obtain⟨s1,s2,s3⟩:=QN i1
 have hq:(S1++[Cl.lst (ns.map D.int)])[S1.length]?=Fk (.lst (ns.map D.int)):=oC
 have pp:Ea p (S1++[Cl.lst (ns.map D.int)]):=p1.pen.app _
 have hlt:=p1.pen.lt
 have r1:KP (n:Int)=true:=FC (by lia) (by lia)
 by_cases hz:ns.sum=0
 .obtain⟨r,S2,e2,a2,b2,p2⟩:=Ar pp (n:=n) (by lia) (by lia)
  have hq2:S2[S1.length]?=Fk (.lst (ns.map D.int)):=p2.get hq (by lia)
  have hn':∀x∈ns.set r.toNat 1,0<=x/\x<=8:=λx hx=>by
   rcases qc hx with hx|rfl
   .exact i1 x hx
   .exact⟨by decide,by decide⟩
  have hs':0<(ns.set r.toNat 1).sum:=by
   have:=(QN hn').2.2 1 (List.mem_set (by lia) 1)
   lia
  have hq3:(S2.set S1.length (.lst ((ns.set r.toNat 1).map D.int)))[S1.length]?=Fk (.lst ((ns.set r.toNat 1).map D.int)):=nZ (Ao hq2)
  have e3:=RT hq3 (by simp;lia) hn' hs'
  have ix:ixN ns.length r=Fk r.toNat:=RO a2 (by lia)
  refine⟨JS (ns.set r.toNat 1),S2.set S1.length (.lst ((ns.set r.toNat 1).map D.int)),?_,⟨?_,?_⟩,⟨by simp[JS,l1],Pc hs'⟩,_,(show 0<(ns.set r.toNat 1).sum.toNat by lia),?_,Mw hn' hs'⟩
  .have sq3:=Iy hq3
   rw[qT]at e3 sq3 hq3
   simp[Dt,Jf,r1,e1,BE hq,HH,hz,e2,AU hq2,ix,sq3,e3,shD]
  .have g:Cv [p] S (S1++[Cl.lst (ns.map D.int)]):=p1.same.trans .app
   refine⟨nR (g.trans p2.same).len (by simp),λm hm hmp=>?_⟩
   rw[nN (by have:=p1.same.len;lia)]
   exact(g.trans p2.same).keep m hm hmp
  .obtain⟨ds,ed,hd⟩:=p2.pen
   exact⟨ds,by rw[nN (by lia)];exact ed,hd⟩
  .have:=(QN hn').2.1
   rw[qR]at this
   lia
 .have hz':(ns.sum==0)=false:=by simpa using hz
  have e3:=RT hq (by lia) i1 (by lia)
  refine⟨JS ns,S1++[Cl.lst (ns.map D.int)],?_,⟨p1.same.trans .app,pp⟩,⟨by simp[JS,l1],Pc (by lia)⟩,_,(show 0<ns.sum.toNat by lia),by lia,Mw i1 (by lia)⟩
  have sq3:=Iy hq
  simp[Dt,Jf,r1,e1,BE hq,HH,hz',sq3,e3,shD]
end
section
variable{S:Sto}{p:Nat}
theorem bA:(2:Nat)<Gq:=FJ (n:=2) (by decide) (by decide)
theorem J7(h:Ea p S):∃n S',BU [.ref p] S=Fk (.int n,S')/\Pn p S S'/\1<=n/\n<2^131:=by
 obtain⟨r1,S1,e1,a1,b1,p1⟩:=Ar h (n:=99) (by decide) (by decide)
 obtain⟨r2,S2,e2,a2,b2,p2⟩:=Ar p1.pen (n:=4) (by decide) (by decide)
 obtain⟨r3,S3,e3,a3,b3,p3⟩:=Ar p2.pen (n:=40) (by decide) (by decide)
 obtain⟨r4,S4,e4,a4,b4,p4⟩:=Ar p3.pen (n:=999) (by decide) (by decide)
 obtain⟨r5,S5,e5,a5,b5,p5⟩:=Ar p4.pen (n:=7) (by decide) (by decide)
 have pp:=(((p1.trans p2).trans p3).trans p4).trans p5
 have d2:=bA
 have go:∀g:Int,1<=g->g<2^131->∃n:Int,atI [D.int (1+r2),.int (1+r3),.int (1+r4),.int g] (r5 / 2)=Fk (.int n)/\1<=n/\n<2^131:=λg g1 g2=>by
  obtain⟨x,ex,hx⟩:=pick (xs:=[D.int (1+r2),.int (1+r3),.int (1+r4),.int g]) (r:=r5 / 2) (by lia) (by simp;lia)
  simp only[nO,oB,pO]at hx
  rcases hx with rfl|rfl|rfl|rfl
  .exact⟨_,ex,by lia,by lia⟩
  .exact⟨_,ex,by lia,by lia⟩
  .exact⟨_,ex,by lia,by lia⟩
  .exact⟨_,ex,g1,g2⟩
 first
  |(obtain⟨n,en,n1,n2⟩:=go (10^39+r1) (by lia) (by lia)
    exact⟨n,S5,by simp[BU,JE,e1,e2,e3,e4,e5,d2]at en ⊢; simp[en],pp,n1,n2⟩)
  |(obtain⟨n,en,n1,n2⟩:=go (10^30+r1) (by lia) (by lia)
    exact⟨n,S5,by simp[BU,JE,e1,e2,e3,e4,e5,d2]at en ⊢; simp[en],pp,n1,n2⟩)
theorem IJ{r:Int}(h:0<=r):∃m:Nat,r=m:=⟨r.toNat,by lia⟩
theorem W9(h:Ea p S):∃t S',Hr [.ref p] S=Fk (Tr.d t,S')/\Pn p S S'/\K4 t/\(t.ho.length=t.p/\t.ho.sum=1)/\∃G:Nat,0<G/\G<=32/\∀r∈t.ho,Ok G G r:=by
 obtain⟨r1,S1,e1,a1,b1,p1⟩:=Ar h (n:=4) (by decide) (by decide)
 obtain⟨r2,S2,e2,a2,b2,p2⟩:=Ar p1.pen (n:=5) (by decide) (by decide)
 obtain⟨r3,S3,e3,a3,b3,p3⟩:=Ar p2.pen (n:=3) (by decide) (by decide)
 obtain⟨r4,S4,e4,a4,b4,p4⟩:=Ar p3.pen (n:=20) (by decide) (by decide)
 obtain⟨r5,S5,e5,a5,b5,p5⟩:=Ar p4.pen (n:=2) (by decide) (by decide)
 obtain⟨m1,rfl⟩:=IJ a1
 obtain⟨m2,rfl⟩:=IJ a2
 obtain⟨b,eb,hb1,hb2⟩:∃b:Nat,atI [D.int (1+r3),.int (1+r4)] r5=Fk (.int b)/\1<=b/\b<=20:=by
  obtain⟨x,ex,hx⟩:=pick (xs:=[D.int (1+r3),.int (1+r4)]) (r:=r5) a5 (by simpa using b5)
  obtain⟨m3,rfl⟩:=IJ a3
  obtain⟨m4,rfl⟩:=IJ a4
  simp only[nO,oB,pO]at hx
  rcases hx with rfl|rfl
  .exact⟨1+m3,by rw[ex];simp,by lia,by lia⟩
  .exact⟨1+m4,by rw[ex];simp,by lia,by lia⟩
 obtain⟨rs,S6,e6,p6,l6,G,g0,g1,g2⟩:=Rn p5.pen (n:=1+m1) (by lia) (by lia)
 obtain⟨r7,S7,e7,a7,b7,p7⟩:=Ar p6.pen (n:=10) (by decide) (by decide)
 obtain⟨r8,S8,e8,a8,b8,p8⟩:=Ar p7.pen (n:=10) (by decide) (by decide)
 rw[show((1+m1:Nat):Int)=1+(m1:Int) by lia]at e6
 refine⟨⟨1+m1,1+m2,b,rs,r7,r8⟩,S8,?_,((((((p1.trans p2).trans p3).trans p4).trans p5).trans p6).trans p7).trans p8,⟨by simp,by simp;lia,by simp,by simp;lia,hb1,hb2⟩,l6,G,g0,g1,g2⟩
 simp[Hr,NG,e1,e2,e3,e4,e5,eb,e6,e7,e8,Tr.d]
theorem Wh(h:Ea p S):∃x S',GL [.ref p] S=Fk (aD x,S')/\Pn p S S'/\0<x.num/\x.num<=x.den/\x.den<=12:=by
 obtain⟨r1,S1,e1,a1,b1,p1⟩:=Ar h (n:=12) (by decide) (by decide)
 obtain⟨r2,S2,e2,a2,b2,p2⟩:=Ar p1.pen (n:=1+r1) (by lia) (by lia)
 have m:=YC (S:=S2) (t:=1+r2) (b:=1+r1) (by lia) (FJ (by lia) (by lia))
 obtain⟨m1,rfl⟩:=IJ a1
 obtain⟨m2,rfl⟩:=IJ a2
 have rp:=MQ (1+(m2:Int)) (1+m1) (by lia)
 have eb:(((1+(m1:Int):Int)):Rat)=(((1+m1:Nat)):Rat):=by
  have:(1+(m1:Int))=((1+m1:Nat):Int):=by lia
  rw[this];rfl
 have en:(1+(m2:Int)).natAbs=1+m2:=by lia
 have gp:0<tM (1+m2) (1+m1):=Nat.gcd_pos_of_pos_left _ (by lia)
 obtain⟨q,hq⟩:=Nat.gcd_dvd_left (1+m2) (1+m1)
 obtain⟨q',hq'⟩:=Nat.gcd_dvd_right (1+m2) (1+m1)
 refine⟨((1+(m2:Int):Int):Rat) / ((1+(m1:Int):Int):Rat),S2,?_,p1.trans p2,?_,?_,?_⟩
 .simp[GL,Mq,e1,e2,m]
 .rw[eb,rp.1,en]
  generalize tM (1+m2) (1+m1)=g at*
  have:(1+(m2:Int))=((g*q:Nat):Int):=by lia
  rw[this,uv,uK _ (by lia)]
  have:q≠0:=λz=>by subst z;lia
  lia
 .rw[eb,rp.1,rp.2,en]
  generalize tM (1+m2) (1+m1)=g at*
  have t1:(1+(m2:Int))=((g*q:Nat):Int):=by lia
  rw[t1,uv,uK _ (by lia),hq',Nat.mul_div_cancel_left _ gp]
  have:q<=q':=by
   have:g*q<=g*q':=by lia
   exact Nat.le_of_mul_le_mul_left this gp
  lia
 .rw[eb,rp.2]
  exact nR (xI _ _) (by lia)
theorem UG (h : Ea p S) {n : Nat} (hn : n ≤ 6) : ∃ (ws : Gc Int) (S' : Sto), Dx [.ref p, .int n] S = Fk (.tup (ws.map .int), S') /\ Pn p S S' /\ ws.length = n /\ ∀ w ∈ ws, 1 ≤ w /\ w ≤ 99 := by
  obtain ⟨ys, S', e, hI, l, r⟩ := L4 (gs := []) (t := tNm 1) (f := (eOp (o2 EE) [(eC (.int 1)), (eOp (o2 wIx) [(JJ [(AJ AK [(eV 0), (eC (.int 3))]), (AJ AK [(eV 0), (eC (.int 99))])]), (AJ AK [(eV 0), (eC (.int 2))])])])) (C := [Fk (.ref p)]) (m := 1) (I := Pn p S) (R := fun _ y => ∃ i : Int, y = .int i /\ 1 ≤ i /\ i ≤ 99)
    (fun _ _ => Aw) (ds := Jr 0 n) (acc := []) (os := [nD]) rfl (Pn.refl h) (by rw [Gv]; simp; exact AS (by lia)) fun d _ os S0 ho I0 => by
      obtain ⟨o, rfl⟩ := Qz ho
      obtain ⟨r1, S1, e1, a1, b1, p1⟩ := Ar I0.pen (n := 3) (by decide) (by decide)
      obtain ⟨r2, S2, e2, a2, b2, p2⟩ := Ar p1.pen (n := 99) (by decide) (by decide)
      obtain ⟨r3, S3, e3, a3, b3, p3⟩ := Ar p2.pen (n := 2) (by decide) (by decide)
      obtain ⟨x, ex, hx⟩ := pick (xs := [.int r1, .int r2]) (r := r3) a3 (by simpa using b3)
      simp only [nO, oB, pO] at hx
      rcases hx with rfl | rfl
      · exact ⟨[Fk d], .int (1 + r1), S3, rfl, by simp, by simp [e1, e2, e3, ex], ((I0.trans p1).trans p2).trans p3, _, rfl, by lia, by lia⟩
      · exact ⟨[Fk d], .int (1 + r2), S3, rfl, by simp, by simp [e1, e2, e3, ex], ((I0.trans p1).trans p2).trans p3, _, rfl, by lia, by lia⟩
  obtain ⟨ns, rfl, hns⟩ := Q5 (Kw r)
  have r1 : KP (n : Int) = true := FC (by lia) (by lia)
  have e' : Cb [] (tNm 1) De (eOp (o2 EE) [(eC (.int 1)), (eOp (o2 wIx) [(JJ [(AJ AK [(eV 0), (eC (.int 3))]), (AJ AK [(eV 0), (eC (.int 99))])]), (AJ AK [(eV 0), (eC (.int 2))])])]) (Jr 0 n) [] [Fk (.ref p), nD] S = Fk (ns.map D.int, S') := by simpa using e
  exact ⟨ns, S', by simp [Dx, LX, r1, e'], hI, by simpa [Gv] using l, hns⟩
def Hy(t:Tr)(ls:Gc Ld):Prop:=(∀l∈ls,l.k<t.k/\1<=l.n/\l.n<2^131/\l.ow.length=t.p/\l.ow.sum=1)/\∃G:Nat,0<G/\G<=32^ls.length/\∀l∈ls,∀r∈l.ow,Ok G G r
theorem Hy.snoc{t:Tr}{ls:Gc Ld}{l:Ld}(h:Hy t ls)(h1:l.k<t.k/\1<=l.n/\l.n<2^131/\l.ow.length=t.p/\l.ow.sum=1){g:Nat}(g0:0<g)(g1:g<=32)(g2:∀r∈l.ow,Ok g g r):Hy t (ls++[l]):=by
 obtain⟨ha,G,G0,G1,G2⟩:=h
 refine⟨λx hx=>?_,G*g,uF G0 g0,?_,λx hx r hr=>?_⟩
 .rcases oD.mp hx with hx|hx
  .exact ha x hx
  .rw[oJ.mp hx];exact h1
 .rw[pI,u3,um]
  exact tq G1 g1
 .rcases oD.mp hx with hx|hx
  .exact(G2 x hx r hr).up (nS _)
  .rw[oJ.mp hx]at hr
   have:=(g2 r hr).up (t:=G) (B':=G*g) (by rw[qx];exact nS _)
   rwa [qx g G]at this
end
section
variable{S:Sto}{p:Nat}
theorem Hy.nil{t:Tr}:Hy t []:=⟨λl hl=>(nomatch hl),1,by decide,by simp,λl hl=>(nomatch hl)⟩
theorem Wi(h:Ea p S){t:Tr}(ht:K4 t):∃(ls:Gc Ld) (S':Sto),He [.ref p,t.d] S=Fk (.tup (ls.map Ld.d),S')/\Pn p S S'/\Hy t ls/\ls.length<=4:=by
 obtain⟨t1,t2,t3,t4,t5,t6⟩:=ht
 have hlt:=h.lt
 have hq:(S++[Cl.lst []])[S.length]?=Fk (.lst []):=oC
 obtain⟨r1,S1,e1,a1,b1,p1⟩:=Ar (h.app [Cl.lst []]) (n:=5) (by decide) (by decide)
 obtain⟨r2,S2,e2,a2,b2,p2⟩:=Ar p1.pen (n:=3) (by decide) (by decide)
 obtain⟨n,en,hn⟩:∃n:Nat,atI [D.int 0,.int 1,.int r1] r2=Fk (.int n)/\n<=4:=by
  obtain⟨x,ex,hx⟩:=pick (xs:=[D.int 0,.int 1,.int r1]) (r:=r2) a2 (by simpa using b2)
  simp only[nO,oB,pO]at hx
  rcases hx with rfl|rfl|rfl
  .exact⟨0,ex,by decide⟩
  .exact⟨1,ex,by decide⟩
  .exact⟨r1.toNat,by rw[ex,oo a1],by lia⟩
 have q2:S2[S.length]?=Fk (.lst []):=(p1.trans p2).get hq (by lia)
 have rn:KP (n:Int)=true:=FC (by lia) (by lia)
 obtain⟨E',S',ef,ls,o,rfl,f1,f2,f3,f4,f5⟩:=IS (gs:=[]) (t:=tNm 3) (b:=EV (Qg Qy (eV 2) [EM [AJ AK [eV 0,eOp (o2 wIx) [eV 1,eC (.int 1)]],AJ BU [eV 0],AJ Dt [eV 0,eOp (o2 wIx) [eV 1,eC (.int 0)]]]]))
  (I:=λds E S'=>∃(ls:Gc Ld) (o:nG D),E=[Fk (.ref p),Fk t.d,Fk (.ref S.length),o]/\S'[S.length]?=Fk (.lst (ls.map Ld.d))/\Ea p S'/\Cv [p] S S'/\Hy t ls/\ls.length+ds.length<=4)
  (λ_ _ _ _=>Aw) (ds:=Jr 0 n) (E:=[Fk (.ref p),Fk t.d,Fk (.ref S.length),nD]) (S:=S2)
  ⟨[],nD,rfl,q2,p2.pen,Cv.app.trans (p1.trans p2).same,Hy.nil,by simp[Gv];exact hn⟩ (by
    rintro d ds E S0 ⟨ls,o,rfl,i1,i2,i3,i4,i5⟩
    obtain⟨x1,T1,g1,c1,d1,k1⟩:=Ar i2 (n:=t.k) (by lia) (by lia)
    obtain⟨x2,T2,g2,k2,c2,d2⟩:=J7 k1.pen
    obtain⟨rs,T3,g3,k3,l3,G,G0,G1,G2⟩:=Rn k2.pen (n:=t.p) t1 t2
    obtain⟨m1,rfl⟩:=IJ c1
    have kk:=(k1.trans k2).trans k3
    have j1:T3[S.length]?=Fk (.lst (ls.map Ld.d)):=kk.get i1 (by lia)
    have hz:ls.length<sizeLine:=nQ (show ls.length<5 by lia) (AS (by decide))
    refine⟨[Fk (.ref p),Fk t.d,Fk (.ref S.length),Fk d],[Fk (.ref p),Fk t.d,Fk (.ref S.length),Fk d],T3.set S.length (.lst ((ls++[Ld.mk m1 x2 rs]).map Ld.d)),by simp,?_,ls++[Ld.mk m1 x2 rs],Fk d,rfl,nZ (Ao j1),?_,?_,i4.snoc (l:=Ld.mk m1 x2 rs) ⟨show m1<t.k by lia,c2,d2,l3⟩ G0 G1 G2,by simp at i5 ⊢; lia⟩
    .have e3:atI [D.int t.p,.int t.k,.int t.b,shD t.ho,.int t.h,.int t.l] 1=Fk (.int t.k):=by simp
     simp[Tr.d,g1,g2,g3,AU i1,AU j1,hz,Ld.d]
    .obtain⟨ds',ed,hd⟩:=kk.pen
     exact⟨ds',by rw[nN (by lia)];exact ed,hd⟩
    .refine⟨nR (i3.trans kk.same).len (by simp),λm hm hmp=>?_⟩
     rw[nN (by lia)]
     exact(i3.trans kk.same).keep m hm hmp)
 refine⟨ls,S',?_,⟨f3,f2⟩,f4,by simpa using f5⟩
 simp[He,Mh,e1,e2,en,rn,ef,BE f1]
noncomputable def CV(x:Ld):Cl:=.lst [.int x.k,.int x.n,shD x.ow]
structure SAt(S:Sto)(s l m:Nat)(as:Gc Nat)(st:Stt):Prop where
 root:S[s]?=Fk (.lst [.ref l,shD st.hold,.ref m])
 lo:S[l]?=Fk (.lst (as.map .ref))
 nu:S[m]?=Fk (.lst (st.nums.map .int))
 ld:∀(i a:Nat) (x:Ld),as[i]?=Fk a->st.AE[i]?=Fk x->S[a]?=Fk (CV x)
 len:as.length=st.AE.length
 nd:(s::l::m::as).Nodup
theorem Ys:∀{ls:Gc Ld} {acc:Gc D} {o:nG D} {S:Sto},acc.length+ls.length<=100->Cb [] (tNm 0) De (bX (o1 QZ) [eV 0]) (ls.map Ld.d) acc [o] S=Fk (acc++(xC S.length ls.length).map D.ref,S++ls.map CV)
 | [],acc,o,S,h=>by rw[qB,FR Aw];simp
 |x::ls,acc,o,S,h=>by
  rw[oG,Ip (E1:=[Fk x.d]) Aw (nQ (show acc.length<101 by simp at h;lia) (AS (by decide))) (by simp) HE]
  have:bX (o1 QZ) [eV 0] [Fk x.d] S=Fk (.ref S.length,S++[CV x]):=by simp[Ld.d,CV]
  rw[this,By,Ys (by simp at h ⊢; lia)]
  simp[List.range'_succ]
theorem getElem?_at{α:Type}{xs:Gc α}{x:α}{n:Nat}(h:n=xs.length):(xs++[x])[n]?=Fk x:=by subst h;exact oC
theorem Xf{t:Tr}{ls:Gc Ld}{x:D}(hl:ls.length<=20):∃s l m as S',HX [.tup [t.d,.tup (ls.map Ld.d),x]] S=Fk (.ref s,S')/\SAt S' s l m as ⟨ls,t.ho,[]⟩/\Cv [] S S'/\(∀n∈s::l::m::as,S.length<=n):=by
 have e:=Ys (ls:=ls) (acc:=[]) (o:=nD) (S:=S) (by simp;lia)
 refine⟨S.length+ls.length+2,S.length+ls.length,S.length+ls.length+1,xC S.length ls.length,S++ls.map CV++[.lst ((xC S.length ls.length).map D.ref)]++[.lst []]++[.lst [.ref (S.length+ls.length),shD t.ho,.ref (S.length+ls.length+1)]],?_,⟨?_,?_,?_,?_,?_,?_⟩,?_,?_⟩
 .simp[HX,ND,Tr.d,e,shD]
  lia
 .exact getElem?_at (by simp;lia)
 .rw[nJ (by simp),nJ (by simp)]
  exact getElem?_at (by simp)
 .rw[nJ (by simp;lia)]
  exact getElem?_at (by simp;lia)
 .intro i a y ha hy
  have hi:i<ls.length:=(nP.mp hy).1
  have:a=S.length+i:=by
   rw[List.getElem?_range' hi]at ha
   simp at ha;lia
  subst this
  rw[nJ (by simp;lia),nJ (by simp;lia),nJ (by simp;lia),oI (by lia)]
  have hy':ls[i]?=Fk y:=hy
  simp[hy']
 .simp
 .rw[qQ,qQ,qQ]
  refine⟨?_,?_,?_,List.nodup_range'⟩
  .simp only[nO,sO];lia
  .simp only[nO,sO];lia
  .simp only[sO];lia
 .rw[sF,sF,sF]
  exact .app
 .intro n hn
  simp only[nO,sO]at hn
  lia
end
section
variable{S:Sto}{p:Nat}
@[simp] theorem km{rs:List Rat}{S:Sto}:sqD S (shD rs)=some (rs.map aD,[]):=nr rfl
@[simp] theorem iC{S:Sto}{r:List D}:dr (S++[.lst r]) (.ref S.length)=.own r:=BE List.getElem?_concat_length
@[simp] theorem bT{S:Sto}{r:List D}:Fo (S++[.lst r]) S.length=some r:=AU List.getElem?_concat_length
theorem set_same{S:Sto}{q:Nat}{c:Cl}(h:S[q]?=Fk c):S.set q c=S:=by
 apply uG
 intro i
 by_cases e:q=i
 .subst e;rw[nZ (Ao h),h]
 .rw[nN e]
theorem Q0{gs:Gd}{t:Tf}{b:Ex}{C:En}{m q:Nat}{h:D->D}{I:Sto->Prop}(hg:∀S,I S->gOk gs S)(hI:∀S c,I S->I (S.set q c)):∀{ds acc:Gc D} {os:En} {S:Sto},os.length=m->I S->S[q]?=Fk (.lst acc)->acc.length+ds.length<=1000->(∀d∈ds,∀os S acc,os.length=m->I S->S[q]?=Fk (.lst acc)->acc.length<sizeLine->∃us us',t d (C++os) S=Fk (C++us)/\b (C++us) S=Fk (.nx,C++us',S.set q (.lst (acc++[h d])))/\us'.length=m)->∃os',os'.length=m/\NT gs t b ds (C++os) S=Fk (.nx,C++os',S.set q (.lst (acc++ds.map h)))
 | [],acc,os,S,ho,hS,hq,hz,H=>⟨os,ho,by
     rw[PF (hg S hS)]
     have:S.set q (.lst (acc++zv h []))=S:=by
      rw[qB,qP]
      exact set_same hq
     rw[this]⟩
 |d::ds,acc,os,S,ho,hS,hq,hz,H=>by
  have hl:=Ao hq
  obtain⟨us,us',e1,e2,hu⟩:=H d nT os S acc ho hS hq (nQ (show acc.length<1001 by simp at hz;lia) (nR (by decide) (show 1001<=sizeLine by decide)))
  obtain⟨os',ho',e3⟩:=Q0 hg hI (ds:=ds) (acc:=acc++[h d]) (os:=us') (S:=S.set q (.lst (acc++[h d]))) hu (hI S _ hS) (nZ hl) (by simp at hz ⊢; lia) λd' hd=>H d' (nK _ hd)
  refine⟨os',ho',?_⟩
  rw[HP (hg S hS),e1,By,e2,By,ao,e3,List.set_set]
  simp
noncomputable def un:D->Rat
 | .tup [.int n,.int d]=>(n:Rat) / (d:Rat)
 |_=>0
theorem Za(r:Rat):un (aD r)=r:=Ee r
noncomputable def Qq(f:Rat->Rat->Rat):D->D
 | .tup [a,b]=>aD (f (un a) (un b))
 |d=>d
theorem OR{f:Rat->Rat->Rat}:∀{ss os:Gc Rat},(NF (ss.map aD) (os.map aD)).map (Qq f)=(sN f ss os).map aD
 | [],os=>by simp[NF]
 |s::ss,[]=>by simp[NF]
 |s::ss,o::os=>by
  have ih:=OR (f:=f) (ss:=ss) (os:=os)
  unfold NF at ih⊢
  simp only[oG,List.zip_cons_cons,List.zipWith_cons_cons]at ih⊢
  rw[ih]
  simp[Qq,Za]
theorem U0{ss os:Gc Rat}{d:D}(h:d∈NF (ss.map aD) (os.map aD)):∃s∈ss,∃o∈os,d=.tup [aD s,aD o]:=by
 unfold NF at h
 obtain⟨⟨a,b⟩,h1,rfl⟩:=oj.mp h
 have h2:=pf h1
 obtain⟨s,hs,rfl⟩:=oj.mp h2.1
 obtain⟨o,ho,rfl⟩:=oj.mp h2.2
 exact⟨s,hs,o,ho,rfl⟩
theorem dQ:aD 1=.tup [.int 1,.int 1]:=rfl
theorem Yp(n:Int):aD (n:Rat)=.tup [.int n,.int 1]:=by
 unfold aD
 simp
theorem Y9{n:Int}{k:Nat}(h:n.natAbs<2^k)(hk:1<=k):Sz k (n:Rat):=by
 unfold Sz
 have:1<2^k:=tu (by lia)
 simp[h,this]
theorem Yq{k:Nat}(hk:1<=k):Sz k (1:Rat):=by
 have:1<2^k:=tu (by lia)
 exact⟨by simpa using this,by simpa using this⟩
theorem R0{x:Rat}{ss os:Gc Rat}{j i:Nat}(hs:∀r∈ss,Sz j r)(ho:∀r∈os,Sz j r)(hx:Sz i x)(hj:2*j+2*i<=7900)(hl:ss.length<=10):∃S',Ez [shD ss,aD x,shD os] S=Fk (shD (IQ x os ss),S')/\Cv [] S S':=by
 have hq:(S++[Cl.lst []])[S.length]?=Fk (.lst []):=oC
 obtain⟨os',ho',e⟩:=Q0 (gs:=[]) (t:=tTp [tNm 4,tNm 5]) (b:=EV (Qg Qy (eV 3) [AJ CH [AJ Az [eV 4,AJ EB [EM [eC (.int 1),eC (.int 1)],eV 1]],AJ Az [eV 5,eV 1]]])) (C:=[Fk (shD ss),Fk (aD x),Fk (shD os),Fk (.ref S.length)]) (m:=2) (q:=S.length) (h:=Qq λs o=>s*(1-x)+o*x) (I:=λ_=>x5) (λ_ _=>Aw) (λ_ _ _=>trivial)
  (ds:=NF (ss.map aD) (os.map aD)) (acc:=[]) (os:=[nD,nD]) (S:=S++[Cl.lst []]) rfl trivial hq (by simp[Lo];lia) (by
    intro d hd os0 S0 acc h0 _ hq0 hz
    obtain⟨o1,o2,rfl⟩:=Yx h0
    obtain⟨s,hs',o,ho',rfl⟩:=U0 hd
    have l1:=Y4 (S:=S0) (Yq (k:=1) (by decide)) hx (by lia)
    have s1:=(eD (Yq (k:=1) (by decide)) hx)
    have l2:=Kc (S:=S0) (hs s hs') s1 (by lia)
    have l3:=Kc (S:=S0) (ho o ho') hx (by lia)
    have l4:=R5 (S:=S0) (OI (hs s hs') s1) (OI (ho o ho') hx) (by lia)
    rw[dQ]at l1
    refine⟨[Fk (aD s),Fk (aD o)],[Fk (aD s),Fk (aD o)],by simp,?_,rfl⟩
    simp[l1,l2,l3,l4,AU hq0,hz,Qq,Za])
 rw[OR]at e
 refine⟨(S++[Cl.lst []]).set S.length (.lst ((IQ x os ss).map aD)),?_,?_⟩
 .have e':NT [] (tTp [tNm 4,tNm 5]) (EV (Qg Qy (eV 3) [AJ CH [AJ Az [eV 4,AJ EB [EM [eC (.int 1),eC (.int 1)],eV 1]],AJ Az [eV 5,eV 1]]])) (NF (ss.map aD) (os.map aD)) [Fk (shD ss),Fk (aD x),Fk (shD os),Fk (.ref S.length),nD,nD] (S++[Cl.lst []])=Fk (.nx,[Fk (shD ss),Fk (aD x),Fk (shD os),Fk (.ref S.length)]++os',(S++[Cl.lst []]).set S.length (.lst ((IQ x os ss).map aD))):=by simpa[IQ]using e
  simp[Ez,MN,e']
  rfl
 .refine⟨by simp,λn hn _=>?_⟩
  rw[nN (by lia),nJ hn]
end
section
variable{S:Sto}{p:Nat}
theorem getD_get{α:Type}{xs:Gc α}{n:Nat}{d:α}(h:n<xs.length):xs[n]?=Fk (xs.getD n d):=by
 rw[nW,nM h]
 rfl
theorem getD_mem{α:Type}{xs:Gc α}{n:Nat}{d:α}(h:n<xs.length):xs.getD n d∈xs:=ni (getD_get h)
theorem Uu{ss:Gc Rat}{n:Nat}(h:n<ss.length):atI (ss.map aD) (n:Int)=Fk (aD (ss.getD n 0)):=DB (by rw[nY,getD_get h];rfl)
theorem Y8{ss:Gc Rat}{n:Nat}(h:n<ss.length):ixN (ss.map aD).length (n:Int)=Fk n:=L7 (by simpa using h)
theorem Us{p q:Nat}{x:Rat}{ss:Gc Rat}{j i:Nat}(hs:∀r∈ss,Sz j r)(hx:Sz i x)(hj:2*j+i<=7900)(hp:p<ss.length)(hq:q<ss.length)(hpq:p≠q):∃S',Fz [shD ss,(AX.Ht p q x).d] S=Fk (shD (Hd p q x ss),S')/\Cv [] S S':=by
 have sp:=hs _ (getD_mem (d:=0) hp)
 have sq:=hs _ (getD_mem (d:=0) hq)
 have l1:∀S,Az [aD (ss.getD p 0),aD x] S=Fk (aD (ss.getD p 0*x),S):=λS=>Kc sp hx (by lia)
 have s1:=OI sp hx
 have l2:∀S,EB [aD (ss.getD p 0),aD (ss.getD p 0*x)] S=Fk (aD (ss.getD p 0-ss.getD p 0*x),S):=λS=>Y4 sp s1 (by lia)
 have l3:∀S,CH [aD (ss.getD q 0),aD (ss.getD p 0*x)] S=Fk (aD (ss.getD q 0+ss.getD p 0*x),S):=λS=>R5 sq s1 (by lia)
 have a1:=Uu hp
 have i1:=Y8 hp
 have i2:ixN (((ss.map aD).set p (aD (ss.getD p 0-ss.getD p 0*x))).length) (q:Int)=Fk q:=L7 (by simpa using hq)
 have a2:atI ((ss.map aD).set p (aD (ss.getD p 0-ss.getD p 0*x))) (q:Int)=Fk (aD (ss.getD q 0)):=DB (by
  rw[nN hpq,nY,getD_get hq];rfl)
 refine⟨S++[.lst ((Hd p q x ss).map aD)],?_,.app⟩
 simp only[qR,oa]at i1 i2
 have em:(Hd p q x ss).map aD=((ss.map aD).set p (aD (ss.getD p 0-ss.getD p 0*x))).set q (aD (ss.getD q 0+ss.getD p 0*x)):=by rw[Hd,qT,qT]
 unfold shD
 rw[em]
 generalize aD (ss.getD p 0-ss.getD p 0*x)=d1 at*
 generalize aD (ss.getD q 0+ss.getD p 0*x)=d2 at*
 generalize aD (ss.getD p 0*x)=d3 at*
 generalize aD (ss.getD p 0)=d4 at*
 generalize aD (ss.getD q 0)=d5 at*
 simp[Fz,Nf,AX.d,a1,l1,l2,l3,i1,i2,a2]
theorem Ut{x y:Ld}{a b:Nat}{j i:Nat}(ha:S[a]?=Fk (CV x))(hb:S[b]?=Fk (CV y))(hs:∀r∈x.ow,Sz j r)(ho:∀r∈y.ow,Sz j r)(hx:x.n.natAbs<2^i)(hy:y.n.natAbs<2^i)(h0:0<x.n+y.n)(h1:1<=i)(hj:2*j+4*i<=7900)(hl:x.ow.length<=10):∃S',Gu [.ref a,.ref b] S=Fk (shD (Cc x.n y.n x.ow y.ow),S')/\Cv [] S S':=by
 have la:=Ao ha
 have lb:=Ao hb
 have hq:(S++[Cl.lst []])[S.length]?=Fk (.lst []):=oC
 have ha':(S++[Cl.lst []])[a]?=Fk (CV x):=by rw[nJ la];exact ha
 have hb':(S++[Cl.lst []])[b]?=Fk (CV y):=by rw[nJ lb];exact hb
 obtain⟨os',ho',e⟩:=Q0 (gs:=[]) (t:=tTp [tNm 3,tNm 4]) (b:=Ae (CA 5 (AJ CH [AJ Az [EM [eOp (o2 wIx) [eV 0,eC (.int 1)],eC (.int 1)],eV 3],AJ Az [EM [eOp (o2 wIx) [eV 1,eC (.int 1)],eC (.int 1)],eV 4]]))
  (EV (Qg Qy (eV 2) [AJ Az [eV 5,AJ Bx [eC (.int 1),eOp (o2 EE) [eOp (o2 wIx) [eV 0,eC (.int 1)],eOp (o2 wIx) [eV 1,eC (.int 1)]]]]]))) (C:=[Fk (.ref a),Fk (.ref b),Fk (.ref S.length)]) (m:=3) (q:=S.length) (h:=Qq λs o=>(s*x.n+o*y.n) / (x.n+y.n:Int)) (I:=λS'=>S'[a]?=Fk (CV x)/\S'[b]?=Fk (CV y)) (λ_ _=>Aw) (λS' c h=>⟨by rw[nN (by lia)];exact h.1,by rw[nN (by lia)];exact h.2⟩)
  (ds:=NF (x.ow.map aD) (y.ow.map aD)) (acc:=[]) (os:=[nD,nD,nD]) (S:=S++[Cl.lst []]) rfl ⟨ha',hb'⟩ hq (by simp[Lo];lia) (by
    intro d hd os0 S0 acc h0' hI hq0 hz
    obtain⟨o1,o2,o3,rfl⟩:=gu h0'
    obtain⟨s,hs',o,ho',rfl⟩:=U0 hd
    have d1:=BE hI.1
    have d2:=BE hI.2
    have z1:=Y9 hx h1
    have z2:=Y9 hy h1
    have l1:=Kc (S:=S0) z1 (hs s hs') (by lia)
    have l2:=Kc (S:=S0) z2 (ho o ho') (by lia)
    have s1:=OI z1 (hs s hs')
    have s2:=OI z2 (ho o ho')
    have l3:=R5 (S:=S0) s1 s2 (by lia)
    have b1:=JI hx hy
    have l4:=YC (S:=S0) (t:=1) h0 (Di b1 (by lia))
    have s4:Sz (i+1) (((1:Int):Rat) / ((x.n+y.n:Int):Rat)):=N4 h0 (show(1:Int).natAbs<2^(i+1)from tu (by lia)) b1
    have l5:=Kc (S:=S0) (bw s1 s2) s4 (by lia)
    rw[Yp]at l1 l2
    refine⟨[Fk (aD s),Fk (aD o),o3],[Fk (aD s),Fk (aD o),Fk (aD (x.n*s+y.n*o))],by simp,?_,rfl⟩
    have ev:(((x.n:Rat)*s+(y.n:Rat)*o)*(((1:Int):Rat) / ((x.n+y.n:Int):Rat)))=(s*x.n+o*y.n) / (x.n+y.n:Int):=by
     push_cast
     grind
    rw[ev]at l5
    have lf:(Qq λs o=>(s*x.n+o*y.n) / (x.n+y.n:Int)) (.tup [aD s,aD o])=aD ((s*x.n+o*y.n) / (x.n+y.n:Int)):=by simp only[Qq,Za]
    rw[lf]
    generalize aD ((s*x.n+o*y.n) / (x.n+y.n:Int))=e5 at*
    generalize aD (((1:Int):Rat) / ((x.n+y.n:Int):Rat))=e4 at*
    generalize aD (x.n*s+y.n*o)=e3 at*
    simp[d1,d2,CV,l1,l2,l3,l4,l5,AU hq0,hz])
 rw[OR]at e
 refine⟨(S++[Cl.lst []]).set S.length (.lst ((Cc x.n y.n x.ow y.ow).map aD)),?_,?_⟩
 .have e':=e
  simp only[oZ,oY]at e'
  have d1:=BE ha'
  have d2:=BE hb'
  change NT _ _ _ _ _ _=Fk (_,_,List.set _ _ (Cl.lst (zv aD (Cc x.n y.n x.ow y.ow))))at e'
  generalize Cc x.n y.n x.ow y.ow=rs at*
  simp[Gu,LL,d1,d2,e',shD]
 .refine⟨by simp,λn hn _=>?_⟩
  rw[nN (by lia),nJ hn]
end
section
variable{S:Sto}{p:Nat}
theorem FF{α:Type}{gs:Gd}{t:Tf}{f:Ev}{C:En}{m:Nat}{e g:α->D}{S:Sto}(hg:gOk gs S):∀{xs:Gc α} {acc:Gc D} {os:En},os.length=m->acc.length+xs.length<=sizeLine->(∀x∈xs,∀os,os.length=m->∃us,us.length=m/\t (e x) (C++os) S=Fk (C++us)/\f (C++us) S=Fk (g x,S))->Cb gs t De f (xs.map e) acc (C++os) S=Fk (acc++xs.map g,S)
 | [],acc,os,ho,hz,h=>by rw[qB,FR hg];simp
 |x::xs,acc,os,ho,hz,h=>by
  obtain⟨us,hu,e1,e2⟩:=h x nT os ho
  rw[oG,Ip hg (by simp at hz;lia) e1 HE,e2,By]
  rw[FF hg hu (by simp at hz ⊢; lia) λx' hx=>h x' (nK _ hx)]
  simp
theorem Fi{α:Type}{gs:Gd}{t:Tf}{c f:Ev}{C:En}{m:Nat}{e g:α->D}{b:α->oQ}{S:Sto}(hg:gOk gs S):∀{xs:Gc α} {acc:Gc D} {os:En},os.length=m->acc.length+xs.length<=sizeLine->(∀x∈xs,∀os,os.length=m->∃us,us.length=m/\t (e x) (C++os) S=Fk (C++us)/\c (C++us) S=Fk (.bl (b x),S)/\f (C++us) S=Fk (g x,S))->Cb gs t c f (xs.map e) acc (C++os) S=Fk (acc++(xs.filter b).map g,S)
 | [],acc,os,ho,hz,h=>by rw[qB,FR hg];simp
 |x::xs,acc,os,ho,hz,h=>by
  obtain⟨us,hu,e1,e2,e3⟩:=h x nT os ho
  cases hb:b x with
  |true=>
   rw[hb]at e2
   rw[oG,Ip hg (by simp at hz;lia) e1 e2,e3,By,Fi hg hu (by simp at hz ⊢; lia) λd' hd=>h d' (nK _ hd)]
   simp[hb]
  |false=>
   rw[hb]at e2
   rw[oG,Jp hg (by simp at hz;lia) e1 e2,Fi hg hu (by simp at hz ⊢; lia) λd' hd=>h d' (nK _ hd)]
   simp[hb]
theorem X9{as:Gc Nat}{ls:Gc Ld}(h:as.length=ls.length):as.map D.ref=(as.zip ls).map λz=>D.ref z.1:=by
 have:as=(as.zip ls).map zw:=(List.map_fst_zip (by lia)).symm
 conv=>lhs;rw[this]
 rw[om];rfl
theorem Z4{β:Type}{as:Gc Nat}{ls:Gc Ld}(h:as.length=ls.length)(g:Ld->β):ls.map g=(as.zip ls).map λz=>g z.2:=by
 have:ls=(as.zip ls).map zx:=(List.map_snd_zip (by lia)).symm
 conv=>lhs;rw[this]
 rw[om];rfl
section
variable{s l m:Nat}{as:Gc Nat}{st:Stt}
theorem SAt.lN(h:SAt S s l m as st){z:Nat×Ld}(hz:z∈as.zip st.AE):S[z.1]?=Fk (CV z.2):=by
 obtain⟨i,hi⟩:=qZ.mp hz
 have:=rM.mp hi
 exact h.ld i z.1 z.2 this.1 this.2
theorem SAt.at(h:SAt S s l m as st){i:Nat}(hi:i<st.AE.length):∃a,as[i]?=Fk a/\S[a]?=Fk (CV (AR st.AE i))/\atI (as.map D.ref) (i:Int)=Fk (.ref a):=by
 have h1:i<as.length:=by rw[h.len];exact hi
 refine⟨as[i],nM h1,h.ld i _ _ (nM h1) (Gm hi),DB (by rw[nY,nM h1];rfl)⟩
theorem SAt.guard(h:SAt S s l m as st):gOk [(l,as.map D.ref)] S:=by
 intro g hg
 simp only[nO,oB,pO]at hg
 subst hg
 exact AU h.lo
end
theorem VL{M:Int}(hM:0<=M):∀{xs:Gc Int},(∀x∈xs,0<=x/\x<=M)->0<=xs.sum/\xs.sum<=xs.length*M
 | [],_=>by simp
 |x::xs,h=>by
  have h1:=h x nT
  have h2:=VL hM λy hy=>h y (nK _ hy)
  simp only[rA,pD]
  refine⟨by lia,?_⟩
  have:((xs.length+1:Nat):Int)*M=xs.length*M+M:=by push_cast;grind
  lia
theorem Nx:∀{xs:Gc Int} {y:Int},(∀x∈xs,0<=x)->y∈xs->y<=xs.sum
 |x::xs,y,h,hy=>by
  have h1:=h x nT
  have h2:0<=xs.sum:=by
   clear hy
   induction xs with
   |nil=>simp
   |cons z zs ih=>
    have:=h z (by simp)
    have:=ih λw hw=>h w (by simp at hw ⊢; rcases hw with hw|hw<;>simp[hw])
    simp only[rA];lia
  simp only[rA]
  rcases nO.mp hy with e|e
  .lia
  .have:=Nx (λz hz=>h z (nK _ hz)) e
   lia
section
variable{t:Tr}{k:Nat}{st:Stt}{ws:Gc Int}{n:Int}{l:Nat}
theorem MO{i:Nat}(hw:∀w∈ws,1<=w/\w<=99)(hi:i<ws.length):1<=ws.getD i 0/\ws.getD i 0<=99:=hw _ (getD_mem hi)
theorem SN{i:Nat}(hi:i<ws.length):atI (ws.map D.int) (i:Int)=Fk (.int (ws.getD i 0)):=DB (by rw[nY,getD_get hi];rfl)
theorem PJ(hi:ws.length=k+1):atI (ws.map D.int) (-1:Int)=Fk (.int (ws.getD k 0)):=by
 have ix:ixN (ws.map D.int).length (-1)=Fk k:=by
  rw[oa,hi]
  unfold ixN
  simp
  lia
 unfold atI
 rw[ix]
 show(ws.map D.int)[k]?=_
 rw[nY,getD_get (d:=(0:Int)) (by lia)]
 rfl
theorem Jx(ht:K4 t)(h:Gb t k st)(hk:k<=20)(hl:ws.length=t.k+1)(hw:∀w∈ws,1<=w/\w<=99):0<Ek t st.AE ws/\Ek t st.AE ws<2^(145+k):=by
 obtain⟨t1,t2,t3,t4,t5,t6⟩:=ht
 have hP:(0:Int)<=2^(131+k):=Int.le_of_lt (zy (by decide))
 have hs:=VL (M:=2^(131+k)*99) (by lia) (xs:=st.AE.map λl=>l.n*ws.getD l.k 0) (by
  intro x hx
  obtain⟨y,hy,rfl⟩:=oj.mp hx
  have h1:=h.pcs y hy
  have h2:=MO hw (i:=y.k) (by have:=h.kind y hy;lia)
  refine⟨xn h1.1 (by lia),xo (by lia) h2.2 (by lia) hP⟩)
 have hb:=MO hw (i:=t.k) (by lia)
 have hlen:=h.len
 rw[oa]at hs
 have h3:(st.AE.length:Int)*(2^(131+k)*99)<=24*(2^(131+k)*99):=sZ (by lia) (by lia)
 have h4:(1:Int)<=t.b*ws.getD t.k 0:=by
  have:0<(t.b:Int)*ws.getD t.k 0:=pG (by lia) (by lia)
  lia
 have h5:t.b*ws.getD t.k 0<=20*99:=xo (by lia) hb.2 (by lia) (by decide)
 have h6:(2:Int)^(145+k)=2^(131+k)*16384:=by rw[show 145+k=(131+k)+14 by lia,Int.pow_add];rfl
 have h7:(1:Int)<=2^(131+k):=by have:(0:Int)<2^(131+k):=zy (by decide);lia
 have h7':(2:Int)^11<=2^(131+k):=by
  have:(2^11:Nat)<=2^(131+k):=oV (by decide) (by lia)
  exact_mod_cast this
 unfold Ek
 rw[h6]
 generalize (2:Int)^(131+k)=P at*
 lia
theorem Vf(ht:K4 t)(h:Gb t k st)(hl:ws.length=t.k+1)(hw:∀w∈ws,1<=w/\w<=99)(hi:l<st.AE.length)(h1:1<=n)(h2:n<=(AR st.AE l).n):0<n*ws.getD (AR st.AE l).k 0/\n*ws.getD (AR st.AE l).k 0<Ek t st.AE ws:=by
 obtain⟨t1,t2,t3,t4,t5,t6⟩:=ht
 have hw1:=MO hw (i:=(AR st.AE l).k) (by have:=h.kind _ (Ay hi);lia)
 have hb:=MO hw (i:=t.k) (by lia)
 have h4:(1:Int)<=t.b*ws.getD t.k 0:=by
  have:0<(t.b:Int)*ws.getD t.k 0:=pG (by lia) (by lia)
  lia
 have h5:=Nx (xs:=st.AE.map λl=>l.n*ws.getD l.k 0) (y:=(AR st.AE l).n*ws.getD (AR st.AE l).k 0) (by
  intro x hx
  obtain⟨y,hy,rfl⟩:=oj.mp hx
  have h1:=h.pcs y hy
  have h2:=MO hw (i:=y.k) (by have:=h.kind y hy;lia)
  exact xn h1.1 (by lia)) (oj.mpr ⟨_,Ay hi,rfl⟩)
 have h6:n*ws.getD (AR st.AE l).k 0<=(AR st.AE l).n*ws.getD (AR st.AE l).k 0:=sZ h2 (by lia)
 refine⟨pG (by lia) (by lia),?_⟩
 unfold Ek
 lia
theorem Lj(hi:l<st.AE.length):Jn t st.AE l n ws=((n*ws.getD (AR st.AE l).k 0:Int):Rat) / (Ek t st.AE ws:Rat):=by
 unfold Jn
 rw[Gm hi]
 rfl
theorem Gy{x:Int}{j:Nat}(h0:0<=x)(h1:x<2^j):x.natAbs<2^j:=by
 have:((x.natAbs:Nat):Int)<((2^j:Nat):Int):=by
  rw[Int.natAbs_of_nonneg h0];push_cast;exact h1
 exact_mod_cast this
theorem UM(ht:K4 t)(h:Gb t k st)(hk:k<=20)(hl:ws.length=t.k+1)(hw:∀w∈ws,1<=w/\w<=99)(hi:l<st.AE.length)(h1:1<=n)(h2:n<=(AR st.AE l).n):Sz (145+k) (Jn t st.AE l n ws):=by
 have a:=Jx ht h hk hl hw
 have b:=Vf ht h hl hw hi h1 h2
 rw[Lj hi]
 exact N4 a.1 (Gy (by lia) (by lia)) (Gy (by lia) a.2)
theorem Z3{s r m:Nat}{as:Gc Nat}(hS:SAt S s r m as st)(ht:K4 t)(h:Gb t k st)(hk:k<=20)(hl:ws.length=t.k+1)(hw:∀w∈ws,1<=w/\w<=99)(hi:l<st.AE.length)(h1:1<=n)(h2:n<=(AR st.AE l).n):JF [t.d,.ref r,(AX.thr l n ws).d] S=Fk (aD (Jn t st.AE l n ws),S):=by
 have a:=Jx ht h hk hl hw
 obtain⟨x,x1,x2,x3⟩:=hS.at hi
 have hlen:=h.len
 have e:=FF (gs:=[(r,as.map D.ref)]) (t:=tTp [tNm 1,tNm 2,tNm 3]) (f:=eOp (o2 CY) [eV 2,eOp (o2 wIx) [eV 0,eV 1]]) (C:=[Fk (.tup (ws.map D.int))]) (m:=3) (e:=λz:Nat×Ld=>D.ref z.1) (g:=λz=>D.int (z.2.n*ws.getD z.2.k 0)) hS.guard (xs:=as.zip st.AE) (acc:=[]) (os:=[nD,nD,nD]) rfl (nR (show _<=24 by simp;lia) (AS (by decide))) (by
  intro z hz os ho
  obtain⟨q1,q2,q3,rfl⟩:=gu ho
  have c1:=hS.lN hz
  have hm:z.2∈st.AE:=(pf (a:=z.1) (b:=z.2) hz).2
  have hk:=h.kind _ hm
  have w1:=SN (ws:=ws) (i:=z.2.k) (by lia)
  have w2:=MO hw (i:=z.2.k) (by lia)
  have m1:ED z.2.n (ws.getD z.2.k 0)=true:=mulR (by lia) (by lia)
  generalize ws.getD z.2.k 0=wz at*
  refine⟨[Fk (.int z.2.k),Fk (.int z.2.n),Fk (shD z.2.ow)],rfl,?_,?_⟩
  .simp[AU c1,CV]
  .simp[w1,m1])
 rw[<-X9 hS.len,<-Z4 hS.len (λx=>D.int (x.n*ws.getD x.k 0))]at e
 have e':=e
 simp only[oZ,oY]at e'
 rw[Lj hi]
 have es:Lc (st.AE.map λx=>D.int (x.n*ws.getD x.k 0))=Fk (st.AE.map λx=>x.n*ws.getD x.k 0):=by
  have:=HH (st.AE.map λx=>x.n*ws.getD x.k 0)
  rwa [om]at this
 have w1:=SN (ws:=ws) (i:=(AR st.AE l).k) (by have:=h.kind _ (Ay hi);lia)
 have w3:=MO hw (i:=(AR st.AE l).k) (by have:=h.kind _ (Ay hi);lia)
 have w2:=PJ hl
 have w4:=MO hw (i:=t.k) (by lia)
 have m1:ED n (ws.getD (AR st.AE l).k 0)=true:=mulR (by lia) (by lia)
 have m2:ED (t.b:Int) (ws.getD t.k 0)=true:=mulR (by lia) (by lia)
 have l1:=YC (S:=S) (t:=n*ws.getD (AR st.AE l).k 0) a.1 (Di (Gy (by lia) a.2) (by lia))
 have e2:Ek t st.AE ws=(st.AE.map λx=>x.n*ws.getD x.k 0).sum+t.b*ws.getD t.k 0:=rfl
 rw[e2]at l1⊢
 generalize aD (((n*ws.getD (AR st.AE l).k 0:Int):Rat) / (((st.AE.map λx=>x.n*ws.getD x.k 0).sum+t.b*ws.getD t.k 0:Int):Rat))=R at*
 generalize (st.AE.map λx=>x.n*ws.getD x.k 0)=es' at*
 generalize (st.AE.map λx=>D.int (x.n*ws.getD x.k 0))=es2 at*
 generalize ws.getD (AR st.AE l).k 0=wa at*
 generalize ws.getD t.k 0=wb at*
 have dx:=BE x2
 have dl:=BE hS.lo
 simp[JF,Nq,AX.d,Tr.d,Iy hS.lo,e',es,w2,m2,dl,x3,dx,CV,w1,m1,l1]
theorem VI{G B:Nat}(ht:K4 t)(h:Gb t k st)(hk:k<=20)(hl:ws.length=t.k+1)(hw:∀w∈ws,1<=w/\w<=99)(hi:l<st.AE.length)(h1:1<=n)(h2:n<=(AR st.AE l).n){os ss:Gc Rat}(ho:∀r∈os,Ok G B r)(hs:∀r∈ss,Ok G B r):∀r∈IQ (Jn t st.AE l n ws) os ss,Ok (G*(Ek t st.AE ws).toNat) (B*(Ek t st.AE ws).toNat) r:=by
 have a:=Jx ht h hk hl hw
 have b:=Vf ht h hl hw hi h1 h2
 intro r hr
 unfold IQ at hr
 rw[qZ]at hr
 obtain⟨i,hi'⟩:=hr
 rw[sj]at hi'
 obtain⟨x,y,hx,hy,rfl⟩:=hi'
 rw[Lj hi]
 generalize n*ws.getD (AR st.AE l).k 0=c at*
 generalize Ek t st.AE ws=W at*
 have:=Ok.mix (a:=(W-c).toNat) (b:=c.toNat) (t:=W.toNat) (hs x (ni hx)) (ho y (ni hy)) (by lia) (by lia)
 have e1:(((W-c).toNat:Nat):Rat)=(W:Rat)-(c:Rat):=by
  have:(((W-c).toNat:Nat):Int)=W-c:=oo (by lia)
  have:((((W-c).toNat:Nat):Int):Rat)=((W-c:Int):Rat):=by rw[this]
  push_cast at this
  exact this
 have e2:((c.toNat:Nat):Rat)=(c:Rat):=by
  have:((c.toNat:Nat):Int)=c:=oo (by lia)
  have:(((c.toNat:Nat):Int):Rat)=(c:Rat):=by rw[this]
  exact this
 have e3:((W.toNat:Nat):Rat)=(W:Rat):=by
  have:((W.toNat:Nat):Int)=W:=oo (by lia)
  have:(((W.toNat:Nat):Int):Rat)=(W:Rat):=by rw[this]
  exact this
 rw[e1,e2,e3]at this
 have ne:(W:Rat)≠0:=by
  intro z
  have:=qt.mp z
  lia
 have ev:(x*((W:Rat)-(c:Rat))+y*(c:Rat)) / (W:Rat)=x*(1-(c:Rat) / (W:Rat))+y*((c:Rat) / (W:Rat)):=by grind
 rw[ev]at this
 exact this
end
end
section
variable{S:Sto}
theorem Af{x y:Str}(h:pz x=true)(g:pz y=true):Ej (.str x) (.str y)=true:=by
 unfold Ej
 show(pz x && pz y && _)=true
 rw[h,g]
 rfl
theorem DY:pz (pk "bring")=true:=by decide+kernel
theorem Fj:pz (pk "pool")=true:=by decide+kernel
theorem Fm:pz (pk "swap")=true:=by decide+kernel
theorem DU:pz (pk "trade")=true:=by decide+kernel
theorem FE:pz (pk "spoil")=true:=by decide+kernel
theorem Cu:pz (pk "throw")=true:=by decide+kernel
theorem EJ:pz (pk "sell")=true:=by decide+kernel
@[simp] theorem V9:Ej (.str (Str.ofString "bring")) (.str (Str.ofString "bring"))=true:=Af DY DY
@[simp] theorem WH:deq (.str (Str.ofString "bring")) (.str (Str.ofString "bring"))=true:=nr rfl
@[simp] theorem XO:Ej (.str (Str.ofString "bring")) (.str (Str.ofString "pool"))=true:=Af DY Fj
@[simp] theorem W8:deq (.str (Str.ofString "bring")) (.str (Str.ofString "pool"))=false:=nr rfl
@[simp] theorem W5:Ej (.str (Str.ofString "bring")) (.str (Str.ofString "swap"))=true:=Af DY Fm
@[simp] theorem Xd:deq (.str (Str.ofString "bring")) (.str (Str.ofString "swap"))=false:=nr rfl
@[simp] theorem WE:Ej (.str (Str.ofString "bring")) (.str (Str.ofString "trade"))=true:=Af DY DU
@[simp] theorem Vz:deq (.str (Str.ofString "bring")) (.str (Str.ofString "trade"))=false:=nr rfl
@[simp] theorem WI:Ej (.str (Str.ofString "bring")) (.str (Str.ofString "throw"))=true:=Af DY Cu
@[simp] theorem Vs:deq (.str (Str.ofString "bring")) (.str (Str.ofString "throw"))=false:=nr rfl
@[simp] theorem YD:Ej (.str (Str.ofString "bring")) (.str (Str.ofString "sell"))=true:=Af DY EJ
@[simp] theorem XG:deq (.str (Str.ofString "bring")) (.str (Str.ofString "sell"))=false:=nr rfl
@[simp] theorem Xs:wIn false (.val (.str "bring")) (.val (.tup [.str "spoil",.str "throw"]))=some (.val (.bl false)):=nr rfl
@[simp] theorem Xn:Ej (.str (Str.ofString "pool")) (.str (Str.ofString "bring"))=true:=Af Fj DY
@[simp] theorem Wj:deq (.str (Str.ofString "pool")) (.str (Str.ofString "bring"))=false:=nr rfl
@[simp] theorem ZJ:Ej (.str (Str.ofString "pool")) (.str (Str.ofString "pool"))=true:=Af Fj Fj
@[simp] theorem ZQ:deq (.str (Str.ofString "pool")) (.str (Str.ofString "pool"))=true:=nr rfl
@[simp] theorem Xz:Ej (.str (Str.ofString "pool")) (.str (Str.ofString "trade"))=true:=Af Fj DU
@[simp] theorem YL:deq (.str (Str.ofString "pool")) (.str (Str.ofString "trade"))=false:=nr rfl
@[simp] theorem XE:Ej (.str (Str.ofString "pool")) (.str (Str.ofString "throw"))=true:=Af Fj Cu
@[simp] theorem WY:deq (.str (Str.ofString "pool")) (.str (Str.ofString "throw"))=false:=nr rfl
@[simp] theorem Yk:Ej (.str (Str.ofString "pool")) (.str (Str.ofString "sell"))=true:=Af Fj EJ
@[simp] theorem ZO:deq (.str (Str.ofString "pool")) (.str (Str.ofString "sell"))=false:=nr rfl
@[simp] theorem j8:wIn false (.val (.str "pool")) (.val Dl)=some (.val (.bl true)):=nr rfl
@[simp] theorem WQ:Ej (.str (Str.ofString "swap")) (.str (Str.ofString "bring"))=true:=Af Fm DY
@[simp] theorem Wz:deq (.str (Str.ofString "swap")) (.str (Str.ofString "bring"))=false:=nr rfl
@[simp] theorem ZI:Ej (.str (Str.ofString "swap")) (.str (Str.ofString "pool"))=true:=Af Fm Fj
@[simp] theorem Yv:deq (.str (Str.ofString "swap")) (.str (Str.ofString "pool"))=false:=nr rfl
@[simp] theorem Y1:Ej (.str (Str.ofString "swap")) (.str (Str.ofString "swap"))=true:=Af Fm Fm
@[simp] theorem Ym:deq (.str (Str.ofString "swap")) (.str (Str.ofString "swap"))=true:=nr rfl
@[simp] theorem W7:Ej (.str (Str.ofString "swap")) (.str (Str.ofString "trade"))=true:=Af Fm DU
@[simp] theorem YN:deq (.str (Str.ofString "swap")) (.str (Str.ofString "trade"))=false:=nr rfl
@[simp] theorem WW:Ej (.str (Str.ofString "swap")) (.str (Str.ofString "throw"))=true:=Af Fm Cu
@[simp] theorem WX:deq (.str (Str.ofString "swap")) (.str (Str.ofString "throw"))=false:=nr rfl
@[simp] theorem Ye:Ej (.str (Str.ofString "swap")) (.str (Str.ofString "sell"))=true:=Af Fm EJ
@[simp] theorem ZK:deq (.str (Str.ofString "swap")) (.str (Str.ofString "sell"))=false:=nr rfl
@[simp] theorem Ze:wIn false (.val (.str "swap")) (.val (.tup [.str "swap",.str "trade"]))=some (.val (.bl true)):=nr rfl
@[simp] theorem kT:wIn false (.val (.str "swap")) (.val Dl)=some (.val (.bl true)):=nr rfl
@[simp] theorem V3:Ej (.str (Str.ofString "trade")) (.str (Str.ofString "bring"))=true:=Af DU DY
@[simp] theorem V8:deq (.str (Str.ofString "trade")) (.str (Str.ofString "bring"))=false:=nr rfl
@[simp] theorem Xx:Ej (.str (Str.ofString "trade")) (.str (Str.ofString "pool"))=true:=Af DU Fj
@[simp] theorem X7:deq (.str (Str.ofString "trade")) (.str (Str.ofString "pool"))=false:=nr rfl
@[simp] theorem W2:Ej (.str (Str.ofString "trade")) (.str (Str.ofString "swap"))=true:=Af DU Fm
@[simp] theorem WU:deq (.str (Str.ofString "trade")) (.str (Str.ofString "swap"))=false:=nr rfl
@[simp] theorem Vu:Ej (.str (Str.ofString "trade")) (.str (Str.ofString "trade"))=true:=Af DU DU
@[simp] theorem Vy:deq (.str (Str.ofString "trade")) (.str (Str.ofString "trade"))=true:=nr rfl
@[simp] theorem Vx:Ej (.str (Str.ofString "trade")) (.str (Str.ofString "throw"))=true:=Af DU Cu
@[simp] theorem WA:deq (.str (Str.ofString "trade")) (.str (Str.ofString "throw"))=false:=nr rfl
@[simp] theorem X1:Ej (.str (Str.ofString "trade")) (.str (Str.ofString "sell"))=true:=Af DU EJ
@[simp] theorem Wy:deq (.str (Str.ofString "trade")) (.str (Str.ofString "sell"))=false:=nr rfl
@[simp] theorem Yb:wIn false (.val (.str "trade")) (.val (.tup [.str "swap",.str "trade"]))=some (.val (.bl true)):=nr rfl
@[simp] theorem gq:wIn false (.val (.str "trade")) (.val Dl)=some (.val (.bl true)):=nr rfl
@[simp] theorem Vp:Ej (.str (Str.ofString "spoil")) (.str (Str.ofString "bring"))=true:=Af FE DY
@[simp] theorem Vo:deq (.str (Str.ofString "spoil")) (.str (Str.ofString "bring"))=false:=nr rfl
@[simp] theorem W0:Ej (.str (Str.ofString "spoil")) (.str (Str.ofString "pool"))=true:=Af FE Fj
@[simp] theorem W4:deq (.str (Str.ofString "spoil")) (.str (Str.ofString "pool"))=false:=nr rfl
@[simp] theorem Xc:Ej (.str (Str.ofString "spoil")) (.str (Str.ofString "swap"))=true:=Af FE Fm
@[simp] theorem XC:deq (.str (Str.ofString "spoil")) (.str (Str.ofString "swap"))=false:=nr rfl
@[simp] theorem V2:Ej (.str (Str.ofString "spoil")) (.str (Str.ofString "trade"))=true:=Af FE DU
@[simp] theorem WD:deq (.str (Str.ofString "spoil")) (.str (Str.ofString "trade"))=false:=nr rfl
@[simp] theorem WJ:Ej (.str (Str.ofString "spoil")) (.str (Str.ofString "spoil"))=true:=Af FE FE
@[simp] theorem Vw:deq (.str (Str.ofString "spoil")) (.str (Str.ofString "spoil"))=true:=nr rfl
@[simp] theorem Vv:Ej (.str (Str.ofString "spoil")) (.str (Str.ofString "throw"))=true:=Af FE Cu
@[simp] theorem Vr:deq (.str (Str.ofString "spoil")) (.str (Str.ofString "throw"))=false:=nr rfl
@[simp] theorem Xw:Ej (.str (Str.ofString "spoil")) (.str (Str.ofString "sell"))=true:=Af FE EJ
@[simp] theorem XU:deq (.str (Str.ofString "spoil")) (.str (Str.ofString "sell"))=false:=nr rfl
@[simp] theorem Yi:wIn false (.val (.str "spoil")) (.val (.tup [.str "swap",.str "trade"]))=some (.val (.bl false)):=nr rfl
@[simp] theorem Wt:wIn false (.val (.str "spoil")) (.val (.tup [.str "spoil",.str "throw"]))=some (.val (.bl true)):=nr rfl
@[simp] theorem jk:wIn false (.val (.str "spoil")) (.val Dl)=some (.val (.bl false)):=nr rfl
@[simp] theorem V6:Ej (.str (Str.ofString "throw")) (.str (Str.ofString "bring"))=true:=Af Cu DY
@[simp] theorem WK:deq (.str (Str.ofString "throw")) (.str (Str.ofString "bring"))=false:=nr rfl
@[simp] theorem XH:Ej (.str (Str.ofString "throw")) (.str (Str.ofString "pool"))=true:=Af Cu Fj
@[simp] theorem XX:deq (.str (Str.ofString "throw")) (.str (Str.ofString "pool"))=false:=nr rfl
@[simp] theorem XQ:Ej (.str (Str.ofString "throw")) (.str (Str.ofString "swap"))=true:=Af Cu Fm
@[simp] theorem W6:deq (.str (Str.ofString "throw")) (.str (Str.ofString "swap"))=false:=nr rfl
@[simp] theorem V7:Ej (.str (Str.ofString "throw")) (.str (Str.ofString "trade"))=true:=Af Cu DU
@[simp] theorem WL:deq (.str (Str.ofString "throw")) (.str (Str.ofString "trade"))=false:=nr rfl
@[simp] theorem WG:Ej (.str (Str.ofString "throw")) (.str (Str.ofString "spoil"))=true:=Af Cu FE
@[simp] theorem Vt:deq (.str (Str.ofString "throw")) (.str (Str.ofString "spoil"))=false:=nr rfl
@[simp] theorem Vq:Ej (.str (Str.ofString "throw")) (.str (Str.ofString "throw"))=true:=Af Cu Cu
@[simp] theorem V5:deq (.str (Str.ofString "throw")) (.str (Str.ofString "throw"))=true:=nr rfl
@[simp] theorem YX:Ej (.str (Str.ofString "throw")) (.str (Str.ofString "sell"))=true:=Af Cu EJ
@[simp] theorem Wl:deq (.str (Str.ofString "throw")) (.str (Str.ofString "sell"))=false:=nr rfl
@[simp] theorem Yd:wIn false (.val (.str "throw")) (.val (.tup [.str "swap",.str "trade"]))=some (.val (.bl false)):=nr rfl
@[simp] theorem Ya:wIn false (.val (.str "throw")) (.val (.tup [.str "spoil",.str "throw"]))=some (.val (.bl true)):=nr rfl
@[simp] theorem jo:wIn false (.val (.str "throw")) (.val Dl)=some (.val (.bl false)):=nr rfl
@[simp] theorem Xo:Ej (.str (Str.ofString "sell")) (.str (Str.ofString "bring"))=true:=Af EJ DY
@[simp] theorem XN:deq (.str (Str.ofString "sell")) (.str (Str.ofString "bring"))=false:=nr rfl
@[simp] theorem Y7:Ej (.str (Str.ofString "sell")) (.str (Str.ofString "pool"))=true:=Af EJ Fj
@[simp] theorem ZA:deq (.str (Str.ofString "sell")) (.str (Str.ofString "pool"))=false:=nr rfl
@[simp] theorem ZL:Ej (.str (Str.ofString "sell")) (.str (Str.ofString "swap"))=true:=Af EJ Fm
@[simp] theorem Yg:deq (.str (Str.ofString "sell")) (.str (Str.ofString "swap"))=false:=nr rfl
@[simp] theorem XS:Ej (.str (Str.ofString "sell")) (.str (Str.ofString "trade"))=true:=Af EJ DU
@[simp] theorem YZ:deq (.str (Str.ofString "sell")) (.str (Str.ofString "trade"))=false:=nr rfl
@[simp] theorem YK:Ej (.str (Str.ofString "sell")) (.str (Str.ofString "spoil"))=true:=Af EJ FE
@[simp] theorem W3:deq (.str (Str.ofString "sell")) (.str (Str.ofString "spoil"))=false:=nr rfl
@[simp] theorem YB:Ej (.str (Str.ofString "sell")) (.str (Str.ofString "throw"))=true:=Af EJ Cu
@[simp] theorem Xt:deq (.str (Str.ofString "sell")) (.str (Str.ofString "throw"))=false:=nr rfl
@[simp] theorem ZF:Ej (.str (Str.ofString "sell")) (.str (Str.ofString "sell"))=true:=Af EJ EJ
@[simp] theorem Y5:deq (.str (Str.ofString "sell")) (.str (Str.ofString "sell"))=true:=nr rfl
@[simp] theorem Zv:wIn false (.val (.str "sell")) (.val (.tup [.str "swap",.str "trade"]))=some (.val (.bl false)):=nr rfl
@[simp] theorem Yr:wIn false (.val (.str "sell")) (.val (.tup [.str "spoil",.str "throw"]))=some (.val (.bl false)):=nr rfl
@[simp] theorem jv:wIn false (.val (.str "sell")) (.val Dl)=some (.val (.bl false)):=nr rfl
@[simp] theorem cN:dr S Dl=.val Dl:=nr rfl
section
variable{a b c d e f:D}{r:Gc D}
@[simp] theorem gA:Mg [a,b,c,d,e] (some (-4)) none=[b,c,d,e]:=nr rfl
@[simp] theorem gC:Mg [a,b,c,d,e,f] (some (-4)) none=[c,d,e,f]:=nr rfl
@[simp] theorem iT:Mg [a,b,c,d] (some 1) none=[b,c,d]:=nr rfl
@[simp] theorem gj:Mg [a,b,c,d,e] (some 1) (some 2)=[b]:=nr rfl
@[simp] theorem gJ:Mg [a,b,c,d,e,f] (some 1) (some 2)=[b]:=nr rfl
@[simp] theorem fT{ds zs:List D}:gE S ds [.tup zs]=if ds.length+zs.length<=sizeLine then some (.non,ds++zs)else none:=nr rfl
end
end
section
variable{S S':Sto}{s l m:Nat}{as:Gc Nat}{st:Stt}
theorem SAt.same(h:SAt S s l m as st)(g:Cv A S S')(hA:∀n∈A,n∉s::l::m::as):SAt S' s l m as st where
 root:=g.get h.root λz=>hA _ z (by simp)
 lo:=g.get h.lo λz=>hA _ z (by simp)
 nu:=g.get h.nu λz=>hA _ z (by simp)
 ld:=λi a x ha hx=>g.get (h.ld i a x ha hx) λz=>hA _ z (by simp[ni ha])
 len:=h.len
 nd:=h.nd
theorem SAt.Tp(h:SAt S s l m as st)(g:Cv [] S S'):SAt S' s l m as st:=h.same g λ_ z=>(nomatch z)
theorem SAt.ne(h:SAt S s l m as st):s≠l/\s≠m/\l≠m/\s∉as/\l∉as/\m∉as/\as.Nodup:=by
 have:=h.nd
 simp only[qQ,nO,vF]at this
 obtain⟨⟨a,b,c⟩,⟨d,e⟩,f,g⟩:=this
 exact⟨a,b,d,c,e,f,g⟩
theorem SAt.Qi(h:SAt S s l m as st){i a:Nat}{y:Ld}(ha:as[i]?=Fk a):SAt (S.set a (CV y)) s l m as {st with AE:=st.AE.set i y}:=by
 obtain⟨n1,n2,n3,n4,n5,n6,n7⟩:=h.ne
 have ma:=ni ha
 have q1:a≠s:=λe=>n4 (e▸ma)
 have q2:a≠l:=λe=>n5 (e▸ma)
 have q3:a≠m:=λe=>n6 (e▸ma)
 have hi:i<as.length:=(nP.mp ha).1
 have hi':i<st.AE.length:=by rw[<-h.len];exact hi
 refine⟨by rw[nN q1];exact h.root,by rw[nN q2];exact h.lo,by rw[nN q3];exact h.nu,?_,by simp[h.len],h.nd⟩
 intro j b x hb hx
 by_cases e:i=j
 .subst e
  rw[ha]at hb
  cases hb
  have hx':(st.AE.set i y)[i]?=Fk x:=hx
  rw[nZ hi']at hx'
  cases hx'
  have hl:a<S.length:=Ao (h.ld i a _ ha (nM hi'))
  exact nZ hl
 .have hx':(st.AE.set i y)[j]?=Fk x:=hx
  rw[nN e]at hx'
  have:a≠b:=by
   intro z
   subst z
   exact e ((sH hi n7).mp (ha.trans hb.symm))
  rw[nN this]
  exact h.ld j b x hb hx'
theorem SAt.lts(h:SAt S s l m as st):∀n∈s::l::m::as,n<S.length:=by
 intro n hn
 simp only[nO]at hn
 rcases hn with rfl|rfl|rfl|hn
 .exact Ao h.root
 .exact Ao h.lo
 .exact Ao h.nu
 .obtain⟨i,hi⟩:=qZ.mp hn
  have:i<st.AE.length:=by rw[<-h.len];exact(nP.mp hi).1
  exact Ao (h.ld i n _ hi (nM this))
theorem SAt.app(h:SAt S s l m as st)(y:Ld):SAt ((S++[CV y]).set l (.lst (as.map D.ref++[.ref S.length]))) s l m (as++[S.length]) {st with AE:=st.AE++[y]}:=by
 obtain⟨n1,n2,n3,n4,n5,n6,n7⟩:=h.ne
 have lt:=h.lts
 have ls:=lt s (by simp);have ll:=lt l (by simp);have lm:=lt m (by simp)
 have la:∀a∈as,a<S.length:=λa ha=>lt a (by simp[ha])
 refine⟨?_,?_,?_,?_,by simp[h.len],?_⟩
 .rw[nN (pb n1),nJ ls];exact h.root
 .rw[nZ (by simp;lia)];simp
 .rw[nN n3,nJ lm];exact h.nu
 .intro i a x ha hx
  by_cases e:i<as.length
  .rw[nJ e]at ha
   have hx':(st.AE++[y])[i]?=Fk x:=hx
   rw[nJ (by rw[<-h.len];exact e)]at hx'
   have ma:=ni ha
   rw[nN (show l≠a by rintro rfl;exact n5 ma),nJ (la a ma)]
   exact h.ld i a x ha hx'
  .have hx':(st.AE++[y])[i]?=Fk x:=hx
   have:i=as.length:=by
    have:=(nP.mp ha).1
    simp at this;lia
   subst this
   rw[oC]at ha
   cases ha
   rw[h.len,oC]at hx'
   cases hx'
   rw[nN (by lia),oC]
 .have:(s::l::m::(as++[S.length]))=(s::l::m::as)++[S.length]:=by simp
  rw[this,sI]
  refine⟨h.nd,by simp,?_⟩
  intro a ha b hb e
  simp only[nO,oB,pO]at hb
  have:=lt a ha
  lia
theorem SAt.hold(h:SAt S s l m as st)(rs:Gc Rat):SAt (S.set s (.lst [.ref l,shD rs,.ref m])) s l m as {st with hold:=rs}:=by
 obtain⟨n1,n2,n3,n4,n5,n6,n7⟩:=h.ne
 refine⟨nZ (h.lts s (by simp)),by rw[nN n1];exact h.lo,by rw[nN n2];exact h.nu,?_,h.len,h.nd⟩
 intro i a x ha hx
 rw[nN (show s≠a by rintro rfl;exact n4 (ni ha))]
 exact h.ld i a x ha hx
theorem SAt.nums(h:SAt S s l m as st)(us:Gc Int):SAt (S.set m (.lst (us.map D.int))) s l m as {st with nums:=us}:=by
 obtain⟨n1,n2,n3,n4,n5,n6,n7⟩:=h.ne
 refine⟨by rw[nN (pb n2)];exact h.root,by rw[nN (pb n3)];exact h.lo,nZ (h.lts m (by simp)),?_,h.len,h.nd⟩
 intro i a x ha hx
 rw[nN (show m≠a by rintro rfl;exact n6 (ni ha))]
 exact h.ld i a x ha hx
theorem Pl{f:Ld->Ld}{body:Ex}{C:En}{i8:Nat}{o0:nG D}(h:SAt S s l m as st)(hi:C.length=i8)(hb:∀(S':Sto) (a:Nat) (x:Ld),x∈st.AE->S'[a]?=Fk (CV x)->∃S2,body (C++[Fk (.ref a)]) S'=Fk (.nx,C++[Fk (.ref a)],S2.set a (CV (f x)))/\Cv [] S' S2):∃o S',NT [(l,as.map D.ref)] (tNm i8) body (as.map D.ref) (C++[o0]) S=Fk (.nx,C++[o],S')/\SAt S' s l m as {st with AE:=st.AE.map f}/\Cv as S S':=by
 obtain⟨E',S',e,i,o,i1,i2,rfl,i3,i4⟩:=IS (gs:=[(l,as.map D.ref)]) (t:=tNm i8) (b:=body)
  (I:=λds E S'=>∃(i:Nat) (o:nG D),ds=(as.drop i).map D.ref/\i<=as.length/\E=C++[o]/\SAt S' s l m as {st with AE:=(st.AE.take i).map f++st.AE.drop i}/\Cv as S S')
  (λds E S' hI=>by obtain⟨i,o,_,_,_,h1,_⟩:=hI;exact h1.guard) (ds:=as.map D.ref) (E:=C++[o0]) (S:=S)
  ⟨0,o0,by simp,qv _,rfl,by simpa using h,.refl⟩ (by
    rintro d ds E S1 ⟨i,o,i1,i2,rfl,i3,i4⟩
    have hlt:i<as.length:=by
     rcases uo i as.length with w|w
     .exact w
     .rw[qS w]at i1;cases i1
    rw[pH hlt,oG]at i1
    injection i1 with e1 e2
    subst e1 e2
    have hl2:i<st.AE.length:=by rw[<-h.len];exact hlt
    have ha:=nM hlt
    have hx:((st.AE.take i).map f++st.AE.drop i)[i]?=Fk st.AE[i]:=by
     rw[oI (by simp;lia)]
     simp[Nat.min_eq_left (tH hl2)]
    obtain⟨S2,e3,g3⟩:=hb S1 as[i] st.AE[i] (qu hl2) (i3.ld i _ _ ha hx)
    have k:=(i3.Tp g3).Qi (y:=f st.AE[i]) ha
    refine⟨C++[Fk (.ref as[i])],C++[Fk (.ref as[i])],S2.set as[i] (CV (f st.AE[i])),?_,e3,i+1,Fk (.ref as[i]),rfl,hlt,rfl,?_,?_⟩
    .rw[bG]
     congr 1
     subst hi
     rw[u4 _ _ (nS _)]
     simp
    .have:((st.AE.take i).map f++st.AE.drop i).set i (f st.AE[i])=(st.AE.take (i+1)).map f++st.AE.drop (i+1):=by
      rw[u4 _ _ (by simp;lia)]
      have e0:i-((st.AE.take i).map f).length=0:=by simp;lia
      rw[e0,pH hl2,List.set_cons_zero,List.take_succ_eq_append_getElem hl2,pU]
      simp
     rw[<-this]
     exact k
    .exact(i4.trans (g3.mono λ_ z=>(nomatch z))).trans (.set (qu hlt)))
 refine⟨o,S',e,?_,i4⟩
 have hz:i=as.length:=by
  have:=congrArg uB i1
  simp at this
  lia
 have:(st.AE.take i).map f++st.AE.drop i=st.AE.map f:=by
  rw[hz,h.len];simp
 rw[this]at i3
 exact i3
end
section
variable{S S':Sto}{s l m:Nat}{as:Gc Nat}{st:Stt}{t:Tr}{k:Nat}
theorem bE{i:Nat}{n:Int}{j:Nat}(hi:i<st.AE.length)(h:∀x∈st.AE,∀r∈x.ow,Sz j r):∀x∈less st.AE i n,∀r∈x.ow,Sz j r:=by
 intro x hx
 rcases ON hx hi with h1|h1
 .exact h x h1
 .rw[h1];exact h (AR st.AE i) (Ay hi)
theorem VF{i:Nat}{n:Int}{j:Nat}(hi:i<st.AE.length)(h:∀x∈st.AE,x.ow.length=j):∀x∈less st.AE i n,x.ow.length=j:=by
 intro x hx
 rcases ON hx hi with h1|h1
 .exact h x h1
 .rw[h1];exact h (AR st.AE i) (Ay hi)
theorem XF(hS:SAt S s l m as st)(ht:K4 t)(h:Gb t k st)(hk:k<=16){i:Nat}{n:Int}{ws:Gc Int}(hc:Can t st (.thr i n ws)):∃S',F5 [t.d,.ref s,(AX.thr i n ws).d] S=Fk (.non,S')/\SAt S' s l m as (step t st (.thr i n ws))/\Cv (s::l::m::as) S S':=by
 obtain⟨hi,h1,h2,hl,hw⟩:=hc
 have cO:=Z3 hS ht h (by lia) hl hw hi h1 h2
 have cz:=UM ht h (by lia) hl hw hi h1 h2
 have sz:=h.sz
 obtain⟨a,a1,a2,a3⟩:=hS.at hi
 have hS1:=hS.Qi (y:=⟨(AR st.AE i).k,(AR st.AE i).n-n,(AR st.AE i).ow⟩) a1
 have o1:=sz.1 _ (Ay hi)
 have tp:=ht.2.1
 have hdef:step t st (.thr i n ws)={st with AE:=(less st.AE i n).map λx=>{x with ow:=IQ (Jn t st.AE i n ws) (AR st.AE i).ow x.ow},hold:=IQ (Jn t st.AE i n ws) (AR st.AE i).ow st.hold}:=rfl
 rw[hdef]
 generalize hX:Jn t st.AE i n ws=X at*
 obtain⟨o,S2,f1,f2,f3⟩:=Pl (f:=λx=>{x with ow:=IQ X (AR st.AE i).ow x.ow}) (body:=NI (AJ Ez [eOp (o2 wIx) [eV 8,eC (.int 2)],eV 6,eV 7]) (eV 8) (eC (.int 2))) (C:=[Fk t.d,Fk (.ref s),Fk (AX.thr i n ws).d,Fk (.ref l),Fk (shD st.hold),Fk (.ref m),Fk (aD X),Fk (shD (AR st.AE i).ow)]) (i8:=8) (o0:=nD) hS1 rfl (by
  intro S' b x hx hb
  obtain⟨S2,e2,g2⟩:=R0 (S:=S') (x:=X) (ss:=x.ow) (os:=(AR st.AE i).ow) (j:=30+170*k) (i:=145+k) (bE (n:=n) hi sz.1 x hx) o1 cz (by lia) (by rw[VF (n:=n) hi h.own x hx];lia)
  have hb2:=g2.get hb (by simp)
  refine⟨S2,?_,g2⟩
  simp[BE hb,CV,e2,AU hb2])
 obtain⟨S3,e3,g3⟩:=R0 (S:=S2) (x:=X) (ss:=st.hold) (os:=(AR st.AE i).ow) (j:=30+170*k) (i:=145+k) sz.2 o1 cz (by lia) (by rw[h.hold];lia)
 have f4:=(f2.Tp g3)
 have rt:=f4.root
 refine⟨S3.set s (.lst [.ref l,shD (IQ X (AR st.AE i).ow st.hold),.ref m]),?_,f4.hold _,?_⟩
 .have f1':=f1
  simp only[oZ,oY]at f1'
  have rt':Fo S3 s=Fk [.ref l,shD st.hold,.ref m]:=AU rt
  have r0:=AU hS.root
  have lo:=BE hS.lo
  have xx:=BE a2
  have c2:=AU a2
  have sq1:=Iy hS1.lo
  simp only[CV]at f1' sq1 c2 xx
  simp only[AX.d]at f1' cO⊢
  simp[F5,Kg,r0,cO,lo,a3,xx,c2,sq1,f1',e3,rt']
 .have q1:Cv (s::l::m::as) S (S.set a (CV ⟨(AR st.AE i).k,(AR st.AE i).n-n,(AR st.AE i).ow⟩)):=.set (by simp[ni a1])
  exact((q1.trans (f3.mono λn hn=>by simp[hn])).trans (g3.mono λ_ z=>(nomatch z))).trans (.set (by simp))
theorem Uv(hS:SAt S s l m as st)(ht:K4 t)(h:Gb t k st)(hk:k<=16){p q:Nat}{x:Rat}(hc:Can t st (.Ht p q x)):∃S',F5 [t.d,.ref s,(AX.Ht p q x).d] S=Fk (.non,S')/\SAt S' s l m as (step t st (.Ht p q x))/\Cv (s::l::m::as) S S':=by
 obtain⟨hpq,hp,hq,x1,x2,x3⟩:=hc
 have sz:=h.sz
 have hx:Sz 4 x:=by
  refine⟨?_,by lia⟩
  show x.num.natAbs<16
  lia
 have hdef:step t st (.Ht p q x)={st with AE:=st.AE.map λy=>{y with ow:=Hd p q x y.ow},hold:=Hd p q x st.hold}:=rfl
 rw[hdef]
 obtain⟨o,S2,f1,f2,f3⟩:=Pl (f:=λy=>{y with ow:=Hd p q x y.ow}) (body:=NI (AJ Fz [eOp (o2 wIx) [eV 8,eC (.int 2)],eV 2]) (eV 8) (eC (.int 2))) (C:=[Fk t.d,Fk (.ref s),Fk (AX.Ht p q x).d,Fk (.ref l),Fk (shD st.hold),Fk (.ref m),nD,nD]) (i8:=8) (o0:=nD) hS rfl (by
  intro S' b y hy hb
  obtain⟨S2,e2,g2⟩:=Us (S:=S') (p:=p) (q:=q) (x:=x) (ss:=y.ow) (j:=30+170*k) (i:=4) (sz.1 y hy) hx (by lia) (by rw[h.own y hy];exact hp) (by rw[h.own y hy];exact hq) hpq
  have hb2:=g2.get hb (by simp)
  refine⟨S2,?_,g2⟩
  simp[BE hb,CV,e2,AU hb2])
 obtain⟨S3,e3,g3⟩:=Us (S:=S2) (p:=p) (q:=q) (x:=x) (ss:=st.hold) (j:=30+170*k) (i:=4) sz.2 hx (by lia) (by rw[h.hold];exact hp) (by rw[h.hold];exact hq) hpq
 have f4:=(f2.Tp g3)
 have rt:=f4.root
 refine⟨S3.set s (.lst [.ref l,shD (Hd p q x st.hold),.ref m]),?_,f4.hold _,?_⟩
 .have f1':=f1
  simp only[oZ,oY]at f1'
  have rt':Fo S3 s=Fk [.ref l,shD st.hold,.ref m]:=AU rt
  have r0:=AU hS.root
  have sq1:=Iy hS.lo
  simp only[AX.d]at f1' e3⊢
  simp[F5,Kg,r0,sq1,f1',e3,rt']
 .exact((f3.mono λn hn=>by simp[hn]).trans (g3.mono λ_ z=>(nomatch z))).trans (.set (by simp))
end
section
variable{S S':Sto}{s l m:Nat}{as:Gc Nat}{st:Stt}{t:Tr}{k:Nat}
theorem RG{ls:Gc Ld}{l:Nat}{n:Int}:less ls l n=ls.set l ⟨(AR ls l).k,(AR ls l).n-n,(AR ls l).ow⟩:=rfl
theorem Ro{P p:Nat}{cond:Int}{C:En}{dd:D}{f:Ev}(hP:P<=50)(hf:∀(i:Nat),f [Fk dd,Fk (.int i)] S=Fk (aD (if i=p then 1 else 0),S)):Cb [] (tNm 1) De f (Jr 0 P) [] [Fk dd,nD] S=Fk ((VS P p).map aD,S):=by
 have:=FF (gs:=[]) (t:=tNm 1) (f:=f) (C:=[Fk dd]) (m:=1) (e:=λi:Nat=>D.int (0+(i:Int))) (g:=λi=>aD (if i=p then 1 else 0)) (S:=S) Aw (xs:=oF P) (acc:=[]) (os:=[nD]) rfl (nR (show _<=50 by simp;lia) (AS (by decide))) (by
  intro i _ os ho
  obtain⟨o,rfl⟩:=Qz ho
  refine⟨[Fk (.int i)],rfl,by simp,hf i⟩)
 simp only[oZ,oY]at this
 rw[VS,om]
 exact this
theorem XI(hS:SAt S s l m as st)(ht:K4 t)(h:Gb t k st)(hk:k<=16){p kd:Nat}{n:Int}(hc:Can t st (.Hu p kd n)):∃S' as',B0 [t.d,.ref s,(AX.Hu p kd n).d] S=Fk (.non,S')/\SAt S' s l m as' (step t st (.Hu p kd n))/\Cv (s::l::m::as) S S'/\∀n∈as',n∈as\/S.length<=n:=by
 have tp:=ht.2.1
 have e:=Ro (S:=S) (P:=t.p) (p:=p) (cond:=0) (C:=[]) (dd:=(AX.Hu p kd n).d) (f:=EM [eOp (o1 ZZ) [eOp (o2 wEq) [eV 1,eOp (o2 wIx) [eV 0,eC (.int 1)]]],eC (.int 1)]) (by lia) (by
  intro i
  by_cases hi:i=p
  .subst hi;simp[AX.d];rfl
  .have:((i:Int)==(p:Int))=false:=by simp;lia
   simp[AX.d,this,hi];rfl)
 have rn:KP (t.p:Int)=true:=FC (by lia) (by lia)
 have hz:as.length<sizeLine:=nQ (show as.length<50 by rw[hS.len];have:=h.len;lia) (AS (by decide))
 refine⟨_,_,?_,hS.app ⟨kd,n,VS t.p p⟩,?_,?_⟩
 .have r0:=AU hS.root
  have c0:=AU hS.lo
  have c1:Fo (S++[CV ⟨kd,n,VS t.p p⟩]) l=Fk (as.map D.ref):=AU (by rw[nJ (Ao hS.lo)];exact hS.lo)
  simp only[CV]at c1⊢
  simp only[AX.d]at e⊢
  simp[B0,Gk,r0,Tr.d,rn,e,c0,shD]at c1⊢
  simp[c1,hz]
 .exact Cv.app.trans (.set (by simp))
 .intro n hn
  rcases oD.mp hn with w|w
  .exact .inl w
  .simp at w;exact .inr (by lia)
theorem WM(hS:SAt S s l m as st)(ht:K4 t)(h:Gb t k st)(hk:k<=16){i:Nat}{n:Int}(hc:Can t st (.IP i n)):∃S' as',B0 [t.d,.ref s,(AX.IP i n).d] S=Fk (.non,S')/\SAt S' s l m as' (step t st (.IP i n))/\Cv (s::l::m::as) S S'/\∀n∈as',n∈as\/S.length<=n:=by
 obtain⟨hi,h1,h2⟩:=hc
 obtain⟨a,a1,a2,a3⟩:=hS.at hi
 refine⟨_,as,?_,hS.Qi (y:=⟨(AR st.AE i).k,(AR st.AE i).n-n,(AR st.AE i).ow⟩) a1,.set (by simp[ni a1]),λn hn=>.inl hn⟩
 have r0:=AU hS.root
 have lo:=BE hS.lo
 have xx:=BE a2
 have c2:=AU a2
 simp only[CV]at c2 xx⊢
 simp[B0,Gk,AX.d,r0,lo,a3,xx,c2]
theorem cA(hS:SAt S s l m as st)(ht:K4 t)(h:Gb t k st)(hk:k<=16){i:Nat}{n:Int}{ws:Gc Int}(hc:Can t st (.thr i n ws)):∃S' as',B0 [t.d,.ref s,(AX.thr i n ws).d] S=Fk (.non,S')/\SAt S' s l m as' (step t st (.thr i n ws))/\Cv (s::l::m::as) S S'/\∀n∈as',n∈as\/S.length<=n:=by
 obtain⟨S',e,g1,g2⟩:=XF hS ht h hk hc
 refine⟨S',as,?_,g1,g2,λn hn=>.inl hn⟩
 have r0:=AU hS.root
 simp only[AX.d]at e⊢
 simp[B0,Gk,r0,e]
theorem au(hS:SAt S s l m as st)(ht:K4 t)(h:Gb t k st)(hk:k<=16){p q:Nat}{x:Rat}(hc:Can t st (.Ht p q x)):∃S' as',B0 [t.d,.ref s,(AX.Ht p q x).d] S=Fk (.non,S')/\SAt S' s l m as' (step t st (.Ht p q x))/\Cv (s::l::m::as) S S'/\∀n∈as',n∈as\/S.length<=n:=by
 obtain⟨S',e,g1,g2⟩:=Uv hS ht h hk hc
 refine⟨S',as,?_,g1,g2,λn hn=>.inl hn⟩
 have r0:=AU hS.root
 simp only[AX.d]at e⊢
 simp[B0,Gk,r0,e]
theorem ag(hS:SAt S s l m as st)(ht:K4 t)(h:Gb t k st)(hk:k<=16){i kd:Nat}{g n:Int}(hc:Can t st (.swap i g kd n)):∃S' as',B0 [t.d,.ref s,(AX.swap i g kd n).d] S=Fk (.non,S')/\SAt S' s l m as' (step t st (.swap i g kd n))/\Cv (s::l::m::as) S S'/\∀n∈as',n∈as\/S.length<=n:=by
 obtain⟨hi,h1,h2,h3,h4,h5,h6⟩:=hc
 obtain⟨a,a1,a2,a3⟩:=hS.at hi
 have hS1:=hS.Qi (y:=⟨(AR st.AE i).k,(AR st.AE i).n-g,(AR st.AE i).ow⟩) a1
 have hS2:=hS1.app ⟨kd,n,(AR st.AE i).ow⟩
 have hz:as.length<sizeLine:=nQ (show as.length<50 by rw[hS.len];have:=h.len;lia) (AS (by decide))
 have hz2:st.nums.length<=sizeLine:=nR (show _<=20 by have:=h.nm;lia) (AS (by decide))
 refine⟨_,_,?_,hS2,?_,?_⟩
 .have r0:=AU hS.root
  have lo:=BE hS.lo
  have xx:=BE a2
  have c2:=AU a2
  have lo1:=BE hS1.lo
  have co1:=AU hS1.lo
  have x1:=BE (nZ (a:=CV ⟨(AR st.AE i).k,(AR st.AE i).n-g,(AR st.AE i).ow⟩) (Ao a2))
  have c4:Fo ((S.set a (CV ⟨(AR st.AE i).k,(AR st.AE i).n-g,(AR st.AE i).ow⟩))++[CV ⟨kd,n,(AR st.AE i).ow⟩]) l=Fk (as.map D.ref):=AU (by rw[nJ (Ao hS1.lo)];exact hS1.lo)
  have nu:=hS2.nu
  have c5:=AU nu
  have st5:∀{T:Sto},T[m]?=Fk (.lst (st.nums.map D.int))->T.set m (.lst (st.nums.map D.int))=T:=λh=>set_same h
  have st6:=st5 nu
  simp only[CV]at c2 xx lo1 co1 x1 c4 c5 st6⊢
  have hz':(as.map D.ref).length<sizeLine:=by simpa using hz
  generalize (as.map D.ref)=refs at*
  simp[B0,Gk,AX.d,r0,lo,a3,xx,c2,lo1,x1,co1]at c4 c5 st6⊢
  simp[c4,hz',c5,hz2,st6]
 .exact((Cv.set (by simp[ni a1])).trans .app).trans (.set (by simp))
 .intro n hn
  rcases oD.mp hn with w|w
  .exact .inl w
  .simp at w;exact .inr (by lia)
theorem YY(hS:SAt S s l m as st)(ht:K4 t)(h:Gb t k st)(hk:k<=16){i kd:Nat}{u g n:Int}(hc:Can t st (.G4 u i g kd n)):∃S' as',B0 [t.d,.ref s,(AX.G4 u i g kd n).d] S=Fk (.non,S')/\SAt S' s l m as' (step t st (.G4 u i g kd n))/\Cv (s::l::m::as) S S'/\∀n∈as',n∈as\/S.length<=n:=by
 obtain⟨hi,h1,h2,h3,h4,h5,h6,h7,h8⟩:=hc
 obtain⟨a,a1,a2,a3⟩:=hS.at hi
 have hS1:=hS.Qi (y:=⟨(AR st.AE i).k,(AR st.AE i).n-g,(AR st.AE i).ow⟩) a1
 have hS2:=hS1.app ⟨kd,n,(AR st.AE i).ow⟩
 have hz:as.length<sizeLine:=nQ (show as.length<50 by rw[hS.len];have:=h.len;lia) (AS (by decide))
 have hz2:st.nums.length+1<=sizeLine:=nR (show _<=20 by have:=h.nm;lia) (AS (by decide))
 refine⟨_,_,?_,hS2.nums (st.nums++[u]),?_,?_⟩
 .have r0:=AU hS.root
  have lo:=BE hS.lo
  have xx:=BE a2
  have c2:=AU a2
  have lo1:=BE hS1.lo
  have co1:=AU hS1.lo
  have x1:=BE (nZ (a:=CV ⟨(AR st.AE i).k,(AR st.AE i).n-g,(AR st.AE i).ow⟩) (Ao a2))
  have c4:Fo ((S.set a (CV ⟨(AR st.AE i).k,(AR st.AE i).n-g,(AR st.AE i).ow⟩))++[CV ⟨kd,n,(AR st.AE i).ow⟩]) l=Fk (as.map D.ref):=AU (by rw[nJ (Ao hS1.lo)];exact hS1.lo)
  have nu:=hS2.nu
  have c5:=AU nu
  simp only[CV]at c2 xx lo1 co1 x1 c4 c5⊢
  have hz':(as.map D.ref).length<sizeLine:=by simpa using hz
  generalize (as.map D.ref)=refs at*
  simp[B0,Gk,AX.d,r0,lo,a3,xx,c2,lo1,x1,co1]at c4 c5⊢
  simp[c4,hz',c5,hz2]
 .exact(((Cv.set (by simp[ni a1])).trans .app).trans (.set (by simp))).trans (.set (by simp))
 .intro n hn
  rcases oD.mp hn with w|w
  .exact .inl w
  .simp at w;exact .inr (by lia)
theorem Zs(hS:SAt S s l m as st)(ht:K4 t)(h:Gb t k st)(hk:k<=16){i j:Nat}(hc:Can t st (.JT i j)):∃S' as',B0 [t.d,.ref s,(AX.JT i j).d] S=Fk (.non,S')/\SAt S' s l m as' (step t st (.JT i j))/\Cv (s::l::m::as) S S'/\∀n∈as',n∈as\/S.length<=n:=by
 obtain⟨hij,hi,hj,h1,h2,h3⟩:=hc
 obtain⟨a,a1,a2,a3⟩:=hS.at hi
 obtain⟨b,b1,b2,b3⟩:=hS.at hj
 have sz:=h.sz
 have pi:=h.pcs _ (Ay hi)
 have pj:=h.pcs _ (Ay hj)
 obtain⟨S1,e1,g1⟩:=Ut (S:=S) (x:=AR st.AE i) (y:=AR st.AE j) (j:=30+170*k) (i:=131+k) a2 b2 (sz.1 _ (Ay hi)) (sz.1 _ (Ay hj)) (Gy pi.1 pi.2) (Gy pj.1 pj.2) (by lia) (by lia) (by lia) (by rw[h.own _ (Ay hi)];have:=ht.2.1;lia)
 have hS1:=hS.Tp g1
 have hab:a≠b:=by
  rintro rfl
  exact hij ((sH (nP.mp a1).1 hS.ne.2.2.2.2.2.2).mp (a1.trans b1.symm))
 have hS2:=hS1.app ⟨(AR st.AE i).k,(AR st.AE i).n+(AR st.AE j).n,Cc (AR st.AE i).n (AR st.AE j).n (AR st.AE i).ow (AR st.AE j).ow⟩
 have ai:i<as.length:=(nP.mp a1).1
 have bj:j<as.length:=(nP.mp b1).1
 have a1':(as++[S1.length])[i]?=Fk a:=by rw[nJ ai];exact a1
 have b1':(as++[S1.length])[j]?=Fk b:=by rw[nJ bj];exact b1
 have hS3:=hS2.Qi (y:=⟨(AR st.AE i).k,0,(AR st.AE i).ow⟩) a1'
 have hS4:=hS3.Qi (y:=⟨(AR st.AE j).k,0,(AR st.AE j).ow⟩) b1'
 have hz:as.length<sizeLine:=nQ (show as.length<50 by rw[hS.len];have:=h.len;lia) (AS (by decide))
 have est:step t st (.JT i j)={st with AE:=((st.AE++[Ld.mk (AR st.AE i).k ((AR st.AE i).n+(AR st.AE j).n) (Cc (AR st.AE i).n (AR st.AE j).n (AR st.AE i).ow (AR st.AE j).ow)]).set i ⟨(AR st.AE i).k,0,(AR st.AE i).ow⟩).set j ⟨(AR st.AE j).k,0,(AR st.AE j).ow⟩}:=by
  have e0:AR (less st.AE i (AR st.AE i).n) j=AR st.AE j:=by
   unfold AR less
   rw[nW,nN hij,<-nW]
  have e1:less st.AE i (AR st.AE i).n=st.AE.set i ⟨(AR st.AE i).k,0,(AR st.AE i).ow⟩:=by
   unfold less
   rw[y8]
  have e2:less (less st.AE i (AR st.AE i).n) j (AR st.AE j).n=(st.AE.set i ⟨(AR st.AE i).k,0,(AR st.AE i).ow⟩).set j ⟨(AR st.AE j).k,0,(AR st.AE j).ow⟩:=by
   rw[RG (ls:=less st.AE i (AR st.AE i).n),e0,y8,e1]
  show{st with AE:=less (less st.AE i (AR st.AE i).n) j (AR st.AE j).n++_}=_
  rw[e2,vN _ _ hi,vN _ _ (by simpa using hj)]
 refine⟨_,_,?_,est▸hS4,?_,?_⟩
 .have r0:=AU hS.root
  have lo:=BE hS.lo
  have c0:=AU hS.lo
  have xa:=BE a2
  have xb:=BE b2
  have c1:=AU hS1.lo
  have c4:Fo (S1++[CV ⟨(AR st.AE i).k,(AR st.AE i).n+(AR st.AE j).n,Cc (AR st.AE i).n (AR st.AE j).n (AR st.AE i).ow (AR st.AE j).ow⟩]) l=Fk (as.map D.ref):=AU (by rw[nJ (Ao hS1.lo)];exact hS1.lo)
  have c5:=AU (hS2.ld i a (AR st.AE i) a1' (by show(st.AE++_)[i]?=_;rw[nJ hi];exact Gm hi))
  have c6:=AU (hS3.ld j b (AR st.AE j) b1' (by show((st.AE++_).set i _)[j]?=_;rw[nN hij,nJ hj];exact Gm hj))
  simp only[CV]at xa xb c4 c5 c6⊢
  have hz':(as.map D.ref).length<sizeLine:=by simpa using hz
  generalize (as.map D.ref)=refs at*
  generalize Cc (AR st.AE i).n (AR st.AE j).n (AR st.AE i).ow (AR st.AE j).ow=pr at*
  simp[B0,Gk,AX.d,r0,lo,a3,b3,xa,xb,c0,e1]at c4 c5 c6⊢
  simp[c4,hz',c5,c6]
 .exact(((g1.mono λ_ z=>(nomatch z)).trans .app).trans (.set (by simp))).trans ((Cv.set (by simp[ni a1])).trans (.set (by simp[ni b1])))
 .intro n hn
  rcases oD.mp hn with w|w
  .exact .inl w
  .simp at w;subst w;exact .inr g1.len
theorem ir(hS:SAt S s l m as st)(ht:K4 t)(h:Gb t k st)(hk:k<=16){d:AX}(hc:Can t st d):∃S' as',B0 [t.d,.ref s,d.d] S=Fk (.non,S')/\SAt S' s l m as' (step t st d)/\Cv (s::l::m::as) S S'/\∀n∈as',n∈as\/S.length<=n:=by
 cases d with
 |Hu=>exact XI hS ht h hk hc
 |JT=>exact Zs hS ht h hk hc
 |swap=>exact ag hS ht h hk hc
 |G4=>exact YY hS ht h hk hc
 |IP=>exact WM hS ht h hk hc
 |thr=>exact cA hS ht h hk hc
 |Ht=>exact au hS ht h hk hc
end
section
variable{st:Stt}{t:Tr}{k:Nat}
theorem M9{a b:Nat}(h:a<=b):2^a<=2^b:=oV (by decide) h
theorem L9{a b:Nat}(h:a<=b):(2:Int)^a<=2^b:=by
 have:=M9 h
 exact_mod_cast this
theorem IW{c:Int}(h:0<=c):((c.toNat:Nat):Rat)=(c:Rat):=by
 have:((c.toNat:Nat):Int)=c:=oo h
 have:(((c.toNat:Nat):Int):Rat)=(c:Rat):=by rw[this]
 exact this
theorem VD{B T k j:Nat}(hB:B<2^(30+170*k))(hT:T<2^j)(hj:j<=170):B*T<2^(30+170*(k+1)):=by
 have:=D0 hB hT
 exact nQ this (M9 (by lia))
theorem eN{G B P p:Nat}(h:G<=B):∀r∈VS P p,Ok G B r:=by
 intro r hr
 obtain⟨i,_,rfl⟩:=oj.mp hr
 split
 .exact Ok.one h
 .exact Ok.zero
theorem VM{G B:Nat}{n m:Int}{ss os:Gc Rat}(hn:0<n)(hm:0<m)(hs:∀r∈ss,Ok G B r)(ho:∀r∈os,Ok G B r):∀r∈Cc n m ss os,Ok (G*(n+m).toNat) (B*(n+m).toNat) r:=by
 intro r hr
 unfold Cc at hr
 rw[qZ]at hr
 obtain⟨i,hi'⟩:=hr
 rw[sj]at hi'
 obtain⟨x,y,hx,hy,rfl⟩:=hi'
 have:=Ok.mix (a:=n.toNat) (b:=m.toNat) (t:=(n+m).toNat) (hs x (ni hx)) (ho y (ni hy)) (by lia) (by lia)
 rwa [IW (by lia),IW (by lia),IW (by lia)]at this
theorem VO{G B p q:Nat}{x:Rat}{ss:Gc Rat}(hp:p<ss.length)(hq:q<ss.length)(x1:0<x.num)(x2:x.num<=x.den)(hs:∀r∈ss,Ok G B r):∀r∈Hd p q x ss,Ok (G*x.den) (2*B*x.den) r:=by
 have dp:=x.den_pos
 have hsp:=hs _ (getD_mem (d:=0) hp)
 have hsq:=hs _ (getD_mem (d:=0) hq)
 have xs:=Ee x
 have ex:(x.num:Rat)=((x.num.toNat:Nat):Rat):=(IW (by lia)).symm
 have nz:=JX x
 intro r hr
 unfold Hd at hr
 rcases qc hr with hr|hr
 .rcases qc hr with hr|hr
  .exact(hs r hr).up (by rw[uL];lia)
  .rw[hr]
   obtain⟨z,e,hz⟩:=Ok.mix (a:=x.den-x.num.toNat) (b:=x.num.toNat) (t:=x.den) hsp (Ok.zero (G:=G) (B:=B)) (by lia) dp
   refine⟨z,?_,nR hz (by rw[uL];lia)⟩
   rw[<-e]
   have e2:((x.den-x.num.toNat:Nat):Rat)=(x.den:Rat)-(x.num:Rat):=by
    have:(((x.den-x.num.toNat:Nat):Int):Rat)=((x.den-x.num:Int):Rat):=by
     congr 1;lia
    push_cast at this
    exact this
   rw[e2]
   generalize ss.getD p 0=sp at*
   congr 1
   grind
 .rw[hr]
  obtain⟨z,e1,hz⟩:=hsp
  obtain⟨y,e2,hy⟩:=hsq
  refine⟨y*x.den+z*x.num.toNat,?_,?_⟩
  .generalize ss.getD p 0=sp at*
   generalize ss.getD q 0=sq at*
   push_cast
   rw[<-ex,<-e1,<-e2]
   grind
  .have h1:y*x.den<=B*x.den:=pS _ hy
   have h2:z*x.num.toNat<=B*x.den:=tq hz (by lia)
   rw[uL];lia
theorem Jj{f:Rat->Rat->Rat}{a b:Gc Rat}{n:Nat}(h:a.length=n)(g:b.length=n):(sN f a b).length=n:=by rw[List.length_zipWith,h,g];lia
theorem JG{P:Ld->Prop}{i:Nat}{n:Int}(hi:i<st.AE.length)(h:∀x∈st.AE,P x)(g:P ⟨(AR st.AE i).k,(AR st.AE i).n-n,(AR st.AE i).ow⟩):∀x∈less st.AE i n,P x:=by
 intro x hx
 rcases ON hx hi with h1|h1
 .exact h x h1
 .rw[h1];exact g
theorem OW{P:Ld->Prop}{ls:Gc Ld}{y:Ld}(h:∀x∈ls,P x)(g:P y):∀x∈ls++[y],P x:=by
 intro x hx
 rcases oD.mp hx with w|w
 .exact h x w
 .simp at w;rw[w];exact g
structure LOk(t:Tr)(k G B:Nat)(x:Ld):Prop where
 kd:x.k<t.k
 n0:0<=x.n
 n1:x.n<2^(131+k)
 own:x.ow.length=t.p
 ok:∀r∈x.ow,Ok G B r
theorem LOk.up{G B T B':Nat}{x:Ld}(h:LOk t k G B x)(hT:B*T<=B'):LOk t (k+1) (G*T) B' x:=⟨h.kd,h.n0,tw h.n1 (L9 (by lia)),h.own,λr hr=>(h.ok r hr).up hT⟩
theorem LOk.up1{G B:Nat}{x:Ld}(h:LOk t k G B x):LOk t (k+1) G B x:=⟨h.kd,h.n0,tw h.n1 (L9 (by lia)),h.own,h.ok⟩
theorem LOk.less{G B:Nat}{x:Ld}{n:Int}(h:LOk t k G B x)(h0:0<=n)(h1:n<=x.n):LOk t k G B ⟨x.k,x.n-n,x.ow⟩:=⟨h.kd,show 0<=x.n-n by lia,show x.n-n<_ by have:=h.n1;lia,h.own,h.ok⟩
theorem Gb.of{G B:Nat}(h1:st.AE.length<=4+k)(h2:∀x∈st.AE,LOk t k G B x)(h3:st.hold.length=t.p)(h4:st.nums.length<=k)(g0:0<G)(g1:G<=B)(g2:B<2^(30+170*k))(h5:∀r∈st.hold,Ok G B r):Gb t k st:=⟨h1,λx hx=>(h2 x hx).kd,λx hx=>⟨(h2 x hx).n0,(h2 x hx).n1⟩,λx hx=>(h2 x hx).own,h3,h4,G,B,g0,g1,g2,λx hx=>(h2 x hx).ok,h5⟩
theorem gU{n:Int}(h:n<2^131):n<2^(131+k):=tw h (L9 (by lia))
theorem YH(ht:K4 t)(h:Gb t k st)(hk:k<=16){d:AX}(hc:Can t st d):Gb t (k+1) (step t st d):=by
 obtain⟨G,B,g0,g1,g2,hl,hh⟩:=h.gb
 have L:∀x∈st.AE,LOk t k G B x:=λx hx=>⟨h.kind x hx,(h.pcs x hx).1,(h.pcs x hx).2,h.own x hx,hl x hx⟩
 have g2':B<2^(30+170*(k+1)):=nQ g2 (M9 (by lia))
 have hlen:=h.len
 have hnm:=h.nm
 cases d with
 |Hu p kd n=>
  obtain⟨h1,h2,h3,h4⟩:=hc
  refine Gb.of (G:=G) (B:=B) (by simp[step];lia) (OW (λx hx=>(L x hx).up1) ⟨h2,by show 0<=n;lia,gU h4,by simp[VS],eN g1⟩) h.hold (qj hnm) g0 g1 g2' hh
 |JT i j=>
  obtain⟨hij,hi,hj,h1,h2,h3⟩:=hc
  have li:=L _ (Ay hi)
  have lj:=L _ (Ay hj)
  have tl:((AR st.AE i).n+(AR st.AE j).n).toNat<2^(132+k):=by
   have a:=li.n1;have b:=lj.n1
   have e:(2:Int)^(132+k)=2^(131+k)*2:=by rw[show 132+k=(131+k)+1 by lia,y9]
   have:(((AR st.AE i).n+(AR st.AE j).n).toNat:Int)<((2^(132+k):Nat):Int):=by
    rw[oo (by lia)]
    push_cast
    rw[e];lia
   exact_mod_cast this
  have t0:0<((AR st.AE i).n+(AR st.AE j).n).toNat:=by lia
  refine Gb.of (G:=G*((AR st.AE i).n+(AR st.AE j).n).toNat) (B:=B*((AR st.AE i).n+(AR st.AE j).n).toNat) (by simp[step,Eg];lia) (OW ?_ ⟨li.kd,by show 0<=(AR st.AE i).n+(AR st.AE j).n;lia,?_,?_,VM h1 h2 li.ok lj.ok⟩) h.hold (qj hnm) (uF g0 t0) (pS _ g1) (VD g2 tl (by lia)) (λr hr=>(hh r hr).up (nS _))
  .have e0:AR (less st.AE i (AR st.AE i).n) j=AR st.AE j:=by
    unfold AR less
    rw[nW,nN hij,<-nW]
   have A:=JG (P:=LOk t (k+1) (G*((AR st.AE i).n+(AR st.AE j).n).toNat) (B*((AR st.AE i).n+(AR st.AE j).n).toNat)) (n:=(AR st.AE i).n) hi (λx hx=>(L x hx).up (nS _)) ((li.up (nS _)).less (by lia) (z5 _))
   have A2:=JG (st:={st with AE:=less st.AE i (AR st.AE i).n}) (i:=j) (n:=(AR st.AE j).n) (by simpa[Eg]using hj) A (by
    show LOk _ _ _ _ ⟨(AR (less st.AE i (AR st.AE i).n) j).k,(AR (less st.AE i (AR st.AE i).n) j).n-_,(AR (less st.AE i (AR st.AE i).n) j).ow⟩
    rw[e0]
    exact(lj.up (nS _)).less (by lia) (z5 _))
   exact A2
  .show(AR st.AE i).n+(AR st.AE j).n<2^(131+(k+1))
   have a:=li.n1;have b:=lj.n1
   rw[show 131+(k+1)=(131+k)+1 by lia,y9];lia
  .exact Jj li.own lj.own
 |swap i g kd n=>
  obtain⟨hi,h1,h2,h3,h4,h5,h6⟩:=hc
  have li:=L _ (Ay hi)
  refine Gb.of (G:=G) (B:=B) (by simp[step,Eg];lia) (OW (JG hi (λx hx=>(L x hx).up1) (li.up1.less (by lia) h2)) ⟨h3,by show 0<=n;lia,gU h6,li.own,li.ok⟩) h.hold (qj hnm) g0 g1 g2' hh
 |G4 u i g kd n=>
  obtain⟨hi,h1,h2,h3,h4,h5,h6,h7⟩:=hc
  have li:=L _ (Ay hi)
  refine Gb.of (G:=G) (B:=B) (by simp[step,Eg];lia) (OW (JG hi (λx hx=>(L x hx).up1) (li.up1.less (by lia) h2)) ⟨h3,by show 0<=n;lia,gU h6,li.own,li.ok⟩) h.hold (by simp[step];lia) g0 g1 g2' hh
 |IP i n=>
  obtain⟨hi,h1,h2⟩:=hc
  have li:=L _ (Ay hi)
  refine Gb.of (G:=G) (B:=B) (by simp[step,Eg];lia) (JG hi (λx hx=>(L x hx).up1) (li.up1.less (by lia) h2)) h.hold (qj hnm) g0 g1 g2' hh
 |thr i n ws=>
  obtain⟨hi,h1,h2,h3,h4⟩:=hc
  have li:=L _ (Ay hi)
  have W:=Jx ht h (by lia) h3 h4
  have wl:(Ek t st.AE ws).toNat<2^(145+k):=by
   have:((Ek t st.AE ws).toNat:Int)<((2^(145+k):Nat):Int):=by
    rw[oo (by lia)];push_cast;exact W.2
   exact_mod_cast this
  have bo:=λ{ss:Gc Rat} (hs:∀r∈ss,Ok G B r)=>VI ht h (by lia) h3 h4 hi h1 h2 li.ok hs
  refine Gb.of (G:=G*(Ek t st.AE ws).toNat) (B:=B*(Ek t st.AE ws).toNat) (by simp[step,Eg];lia) ?_ (Jj h.hold li.own) (qj hnm) (uF g0 (by lia)) (pS _ g1) (VD g2 wl (by lia)) (bo hh)
  intro x hx
  obtain⟨y,hy,rfl⟩:=oj.mp hx
  have ly:=JG (P:=LOk t k G B) hi L (li.less (n:=n) (by lia) h2) y hy
  exact⟨ly.kd,ly.n0,ly.up1.n1,Jj ly.own li.own,bo ly.ok⟩
 |Ht p q x=>
  obtain⟨h1,h2,h3,h4,h5,h6⟩:=hc
  have dp:=x.den_pos
  refine Gb.of (G:=G*x.den) (B:=2*B*x.den) (by simp[step];lia) ?_ (by simp[step,Hd,h.hold]) (qj hnm) (uF g0 dp) (pS _ (by lia)) ?_ (VO (by rw[h.hold];exact h2) (by rw[h.hold];exact h3) h4 h5 hh)
  .intro y hy
   obtain⟨z,hz,rfl⟩:=oj.mp hy
   have lz:=L z hz
   exact⟨lz.kd,lz.n0,lz.up1.n1,by simp[Hd,lz.own],VO (by rw[lz.own];exact h2) (by rw[lz.own];exact h3) h4 h5 lz.ok⟩
  .have:=VD (B:=B) (T:=2*x.den) (j:=5) g2 (by lia) (by lia)
   rw[show 2*B*x.den=B*(2*x.den) by rw[<-uL,qx 2 B]]
   exact this
end
theorem Li{α:Type}{f:α->D}:∀{xs:Gc α},(∀x∈xs,(f x).lay=true)->D.Qd (xs.map f)=true
 | [],_=>rfl
 |x::xs,h=>by
  show((f x).lay && D.Qd (xs.map f))=true
  rw[h x nT,Li λy hy=>h y (nK _ hy)]
  rfl
theorem SK{ds:Gc D}(h:D.Qd ds=true):Ej (.lst ds) (.lst [])=true:=by
 unfold Ej
 show(D.Qd ds && true && _)=true
 rw[h]
 simp only[Bool.true_and,rD]
 exact nR (wX _ _) (by decide)
noncomputable def HJ(is:Gc Nat):Gc D:=is.map λ(i:Nat)=>D.int i
theorem Me{is:Gc Nat}:Ej (.lst (HJ is)) (.lst [])=true:=SK (Li λ_ _=>rfl)
theorem Ww{d:D}{ds:Gc D}:deq (.lst (d::ds)) (.lst [])=false:=rfl
theorem bF:deq (.lst []) (.lst [])=true:=rfl
theorem OP{is:Gc Nat}:deq (.lst (HJ is)) (.lst [])=is.isEmpty:=by
 cases is with
 |nil=>exact bF
 |cons i is=>exact Ww
theorem M8{ds:Gc D}:Qh 0 ds=(oF ds.length).map λ(i:Nat)=>D.tup [.int i,ds.getD i .non]:=by
 apply uG
 intro i
 rw[Ll,nY]
 by_cases h:i<ds.length
 .rw[nM h,tF h]
  simp[nM h]
 .rw[u6 (by lia),u6 (by simp;lia)]
  rfl
theorem KO{is:Gc Nat}:(HJ is).length=is.length:=by simp[HJ]
theorem My{is:Gc Nat}{r:Int}(h0:0<=r)(h1:r<is.length):∃i∈is,atI (HJ is) r=Fk (.int (i:Nat)):=by
 have h2:r.toNat<is.length:=by lia
 refine⟨is[r.toNat],qu h2,?_⟩
 have:=Yc (xs:=HJ is) h0 (by rw[KO];exact h1)
 rw[this]
 simp[HJ]
theorem Uk{x K:Int}(h0:0<=x)(h1:x<2*K):x % K=if x<K then x else x-K:=by
 split
 .exact wO h0 (by assumption)
 .have:x % K=(x-K) % K:=by rw[Int.sub_emod_right]
  rw[this]
  exact wO (by lia) (by lia)
section
variable{S:Sto}{p s l m:Nat}{as:Gc Nat}{st:Stt}{t:Tr}{k:Nat}
noncomputable def CW(st:Stt):Gc Nat:=(oF st.AE.length).filter λi=>decide (0<(AR st.AE i).n)
theorem aJ(hS:SAt S s l m as st)(hl:st.AE.length<=50):Cb [(l,as.map D.ref)] (tTp [tNm 0,tNm 1]) (eOp (o2 wGt) [eOp (o2 wIx) [eV 1,eC (.int 1)],eC (.int 0)]) (eV 0) (Qh 0 (as.map D.ref)) [] [nD,nD] S=Fk (HJ (CW st),S):=by
 have:=Fi (gs:=[(l,as.map D.ref)]) (t:=tTp [tNm 0,tNm 1]) (c:=eOp (o2 wGt) [eOp (o2 wIx) [eV 1,eC (.int 1)],eC (.int 0)]) (f:=eV 0) (C:=[]) (m:=2) (e:=λi:Nat=>D.tup [.int i,(as.map D.ref).getD i .non]) (g:=λi:Nat=>D.int i) (b:=λi=>decide (0<(AR st.AE i).n)) (S:=S) hS.guard (xs:=oF st.AE.length) (acc:=[]) (os:=[nD,nD]) rfl (nR (show _<=50 by simp;lia) (AS (by decide))) (by
  intro i hi os ho
  obtain⟨o1,o2,rfl⟩:=Yx ho
  obtain⟨a,a1,a2,a3⟩:=hS.at (tO.mp hi)
  have e:(as.map D.ref).getD i .non=.ref a:=by simp[a1]
  rw[e]
  refine⟨[Fk (.int i),Fk (.ref a)],rfl,by simp,?_,by simp⟩
  simp[BE a2,CV])
 rw[M8,oa,hS.len]
 exact this
theorem Ly{i:Nat}(h:i∈CW st):i<st.AE.length/\0<(AR st.AE i).n:=by
 unfold CW at h
 rw[qd]at h
 exact⟨tO.mp h.1,by simpa using h.2⟩
noncomputable def Ft(st:Stt)(j:Nat):Gc Nat:=(CW st).filter λi=> !(i==j) && ((AR st.AE i).k==(AR st.AE j).k)
theorem Oa:(CW st).length<=st.AE.length:=by
 unfold CW
 exact nR (sS _ _) (by simp)
theorem Wx{a b:Nat}:((a:Int)==(b:Int))=(a==b):=by
 by_cases h:a=b
 .subst h;simp
 .have:((a:Int)==(b:Int))=false:=by simp;lia
  rw[this];simp[h]
theorem Z2(hS:SAt S s l m as st)(hl:st.AE.length<=50){j:Nat}(hj:j∈CW st):Cb [] (tNm 2) (Lu (eOp (o2 wNe) [eV 2,eV 1]) (eOp (o2 wEq) [eOp (o2 wIx) [eOp (o2 wIx) [eV 0,eV 2],eC (.int 0)],eOp (o2 wIx) [eOp (o2 wIx) [eV 0,eV 1],eC (.int 0)]])) (eV 2) (HJ (CW st)) [] [Fk (.ref l),Fk (.int j),nD] S=Fk (HJ (Ft st j),S):=by
 have fl:=Oa (st:=st)
 exact Fi (gs:=[]) (t:=tNm 2) (f:=eV 2) (C:=[Fk (.ref l),Fk (.int j)]) (m:=1) (e:=λi:Nat=>D.int i) (g:=λi:Nat=>D.int i) (b:=λi=> !(i==j) && ((AR st.AE i).k==(AR st.AE j).k)) (S:=S) Aw (xs:=CW st) (acc:=[]) (os:=[nD]) rfl (nR (show _<=50 by simp;lia) (AS (by decide))) (by
  intro i hi os ho
  obtain⟨o1,rfl⟩:=Qz ho
  obtain⟨a,a1,a2,a3⟩:=hS.at (Ly hi).1
  obtain⟨b,b1,b2,b3⟩:=hS.at (Ly hj).1
  refine⟨[Fk (.int i)],rfl,by simp,?_,by simp⟩
  by_cases e:i=j
  .subst e
   simp
  .have e':((i:Int)==(j:Int))=false:=by simp;lia
   have e2:(i==j)=false:=by simp[e]
   simp[e',e2,BE hS.lo,a3,b3,BE a2,BE b2,CV,Wx])
theorem WT{i j:Nat}(h:i∈Ft st j):i∈CW st/\i≠j/\(AR st.AE i).k=(AR st.AE j).k:=by
 unfold Ft at h
 rw[qd]at h
 simp at h
 exact⟨h.1,h.2.1,h.2.2⟩
noncomputable def Gp(st:Stt):Gc Nat:=(oF 10).filter λi=> !(st.nums.any λu=>u==(i:Int))
theorem SR{us:Gc Int}{i:Int}:inD (.int i) (us.map D.int)=us.any λu=>u==i:=by
 unfold inD
 rw[List.any_map]
 rfl
@[simp] theorem iP{b:Bool}{w:Wv}{r:List D}:wIn b w (.own r)=if(IT (fz w) && r.all IT)=true then some (.val (.bl (if b then !inD (fz w) r else inD (fz w) r)))else none:=nr rfl
@[simp] theorem jD{b:Bool}{w:Wv}{r:List D}:wIn b w (.val (.lst r))=if(IT (fz w) && r.all IT)=true then some (.val (.bl (if b then !inD (fz w) r else inD (fz w) r)))else none:=nr rfl
theorem P6{us:Gc Int}:(us.map D.int).all IT=true:=by
 rw[List.all_map,wq]
 intro x _;rfl
@[simp] theorem kN{i:Int}:IT (.int i)=true:=nr rfl
theorem Zx(hS:SAt S s l m as st):Cb [] (tNm 1) (eOp (o2 (wIn true)) [eV 1,eV 0]) (eV 1) (Jr 0 10) [] [Fk (.ref m),nD] S=Fk (HJ (Gp st),S):=by
 exact Fi (gs:=[]) (t:=tNm 1) (f:=eV 1) (C:=[Fk (.ref m)]) (m:=1) (e:=λi:Nat=>D.int (0+(i:Int))) (g:=λi:Nat=>D.int i) (b:=λi=> !(st.nums.any λu=>u==(i:Int))) (S:=S) Aw (xs:=oF 10) (acc:=[]) (os:=[nD]) rfl (nR (show _<=50 by simp) (AS (by decide))) (by
  intro i hi os ho
  obtain⟨o1,rfl⟩:=Qz ho
  refine⟨[Fk (.int i)],rfl,by simp,?_,by simp⟩
  have nu:=BE hS.nu
  have fi:=P6 (us:=st.nums)
  have ii:=SR (us:=st.nums) (i:=(i:Int))
  generalize st.nums.map D.int=ud at*
  generalize (st.nums.any λu=>u==(i:Int))=bb at*
  simp[nu,fi,ii])
theorem WS{i:Nat}(h:i∈Gp st):(i:Int)∉st.nums/\i<=9:=by
 unfold Gp at h
 rw[qd]at h
 have h1:=tO.mp h.1
 refine⟨?_,by lia⟩
 intro z
 have h2:=h.2
 have:(st.nums.any λu=>u==(i:Int))=true:=uW.mpr ⟨_,z,by simp⟩
 rw[this]at h2
 cases h2
theorem YU:(Gp st).length<=10:=by
 unfold Gp
 exact nR (sS _ _) (by simp)
theorem YT{j:Nat}:(Ft st j).length<=st.AE.length:=by
 unfold Ft
 exact nR (sS _ _) Oa
end
section
variable{S:Sto}{p s l m:Nat}{as:Gc Nat}{st:Stt}{t:Tr}{k:Nat}
def Oq:Ex:=(Ae (xIf (Lu (eOp (o2 wLt) [eV 7,eC (.int 8)]) (eOp (o2 wGt) [eOp (o2 wIx) [eV 1,eC (.int 1)],eC (.int 1)])) (Ae (CA 11 (eOp (o2 Qc) [eOp (o2 EE) [eOp (o2 EE) [eOp (o2 wIx) [eOp (o2 wIx) [eV 3,eV 8],eC (.int 0)],eC (.int 1)],AJ AK [eV 0,eOp (o2 QS) [eOp (o2 wIx) [eV 1,eC (.int 1)],eC (.int 1)]]],eOp (o2 wIx) [eV 1,eC (.int 1)]]))
    (Ae (CA 12 (EF [5] 1 (Qe [eC (.int 10)]) (tNm 1) (eOp (o2 (wIn true)) [eV 1,eV 0]) (eV 1)))
    (Ae (xIf (Lu (eOp (o2 wEq) [eV 7,eC (.int 7)]) (eOp (o2 wNe) [eV 12,JJ []])) (BQ (EM [eC (.str "trade"),eOp (o2 wIx) [eV 12,AJ AK [eV 0,eOp (o1 Lf) [eV 12]]],eV 8,eV 9,eV 11,AJ BU [eV 0]])) Et)
    (BQ (EM [eC (.str "swap"),eV 8,eV 9,eV 11,AJ BU [eV 0]]))))) Et)
    (Ae (xIf (eOp (o2 wEq) [eV 7,eC (.int 8)]) (BQ (EM [eC (.str "spoil"),eV 8,eV 9])) Et)
    (Ae (xIf (Lu (eOp (o2 wEq) [eV 7,eC (.int 9)]) (eOp (o2 wGt) [eOp (o2 wIx) [eV 1,eC (.int 0)],eC (.int 1)])) (Ae (CA 13 (AJ AK [eV 0,eOp (o2 wIx) [eV 1,eC (.int 0)]]))
    (BQ (EM [eC (.str "sell"),eV 13,eOp (o2 Qc) [eOp (o2 EE) [eOp (o2 EE) [eV 13,eC (.int 1)],AJ AK [eV 0,eOp (o2 QS) [eOp (o2 wIx) [eV 1,eC (.int 0)],eC (.int 1)]]],eOp (o2 wIx) [eV 1,eC (.int 0)]],AJ GL [eV 0]]))) Et)
    (BQ (EM [eC (.str "throw"),eV 8,eV 9,AJ Dx [eV 0,eOp (o2 EE) [eOp (o2 wIx) [eV 1,eC (.int 1)],eC (.int 1)]]])))))
def UN:Ex:=(xIf (eOp (o2 wLt) [eV 7,eC (.int 5)]) (Ae (CA 10 (EF [3,8] 1 (Lx (eV 6)) (tNm 2) (Lu (eOp (o2 wNe) [eV 2,eV 1]) (eOp (o2 wEq) [eOp (o2 wIx) [eOp (o2 wIx) [eV 0,eV 2],eC (.int 0)],eOp (o2 wIx) [eOp (o2 wIx) [eV 0,eV 1],eC (.int 0)]])) (eV 2)))
    (xIf (eOp (o2 wNe) [eV 10,JJ []]) (BQ (EM [eC (.str "pool"),eV 8,eOp (o2 wIx) [eV 10,AJ AK [eV 0,eOp (o1 Lf) [eV 10]]]])) Et)) Et)
theorem O4:Ng=(Ae (PV (tTp [tNm 3,tNm 4,tNm 5]) (eV 2)) (Ae (CA 6 (EF [] 2 (bW (eV 3)) (tTp [tNm 0,tNm 1]) (eOp (o2 wGt) [eOp (o2 wIx) [eV 1,eC (.int 1)],eC (.int 0)]) (eV 0))) (Ae (CA 7 (AJ AK [eV 0,eC (.int 12)])) (Ae (xIf (eOr (eOp (o2 wLt) [eV 7,eC (.int 2)]) (eOp (o2 wEq) [eV 6,JJ []])) (BQ (EM [eC (.str "bring"),AJ AK [eV 0,eOp (o2 wIx) [eV 1,eC (.int 0)]],AJ AK [eV 0,eOp (o2 wIx) [eV 1,eC (.int 1)]],AJ BU [eV 0]])) Et) (Ae (CA 8 (eOp (o2 wIx) [eV 6,AJ AK [eV 0,eOp (o1 Lf) [eV 6]]])) (Ae (CA 9 (eOp (o2 EE) [eC (.int 1),AJ AK [eV 0,eOp (o2 fN) [eOp (o2 wIx) [eOp (o2 wIx) [eV 3,eV 8],eC (.int 1)],eC (.int 2000)]]])) (Ae UN Oq))))))):=rfl
theorem aW(hp:Ea p S)(hS:SAt S s l m as st)(hps:p∉s::l::m::as)(ht:K4 t)(h:Gb t k st)(hk:k<=16):∃d S',EA [.ref p,t.d,.ref s] S=Fk (AX.d d,S')/\Pn p S S'/\Can t st d:=by
 obtain⟨t1,t2,t3,t4,t5,t6⟩:=ht
 have hlen:=h.len
 have st':∀{S':Sto},Pn p S S'->SAt S' s l m as st:=λg=>hS.same g.same (by simpa using hps)
 have r0:=AU hS.root
 have cf:=aJ hS (by lia)
 have fl:=Oa (st:=st)
 have sq:=Iy hS.lo
 obtain⟨way,S1,e1,a1,b1,p1⟩:=Ar hp (n:=12) (by decide) (by decide)
 have okF:=Me (is:=CW st)
 have dqF:=OP (is:=CW st)
 by_cases hb:way<2\/(CW st).isEmpty=true
 .obtain⟨x2,S2,e2,a2,b2,p2⟩:=Ar p1.pen (n:=t.p) (by lia) (by lia)
  obtain⟨x3,S3,e3,a3,b3,p3⟩:=Ar p2.pen (n:=t.k) (by lia) (by lia)
  obtain⟨x4,S4,e4,p4,a4,b4⟩:=J7 p3.pen
  obtain⟨x2,rfl⟩:=IJ a2
  obtain⟨x3,rfl⟩:=IJ a3
  refine⟨.Hu x2 x3 x4,S4,?_,((p1.trans p2).trans p3).trans p4,by lia,by lia,a4,b4⟩
  by_cases hw:way<2
  .simp[EA,O4,r0,sq,cf,e1,Tr.d,hw,e2,e3,e4,AX.d]
  .have hf:=hb.resolve_left hw
   simp[EA,O4,r0,sq,cf,e1,Tr.d,hw,okF,dqF,hf,e2,e3,e4,AX.d]
 .have hw2:¬way<2:=λz=>hb (.inl z)
  have hf:(CW st).isEmpty=false:=by
   cases z:(CW st).isEmpty with
   |true=>exact absurd (.inr z) hb
   |false=>rfl
  have hfl:0<(CW st).length:=by
   cases z:CW st with
   |nil=>rw[z]at hf;cases hf
   |cons a b=>simp
  obtain⟨rl,S2,e2,a2,b2,p2⟩:=Ar p1.pen (n:=(CW st).length) (by lia) (by lia)
  obtain⟨i,mi,ei⟩:=My a2 b2
  have fi:=Ly mi
  have hS1:=st' p1
  have hS2:=st' (p1.trans p2)
  obtain⟨a,x1,x2,x3⟩:=hS2.at fi.1
  have n1:=fi.2
  obtain⟨rs,S3,e3,a3,b3,p3⟩:=Ar p2.pen (n:=if 2000<(AR st.AE i).n then 2000 else(AR st.AE i).n) (by split<;>lia) (by split<;>lia)
  have hsome:1<=1+rs/\1+rs<=(AR st.AE i).n:=by split at b3<;>lia
  have p23:=(p1.trans p2).trans p3
  have hS3:=st' p23
  have lo2:=BE hS2.lo
  have lo3:=BE hS3.lo
  have x2':=BE x2
  have x4:S3[a]?=Fk (CV (AR st.AE i)):=hS3.ld i a _ x1 (Gm fi.1)
  have x4':=BE x4
  have kd:=h.kind _ (Ay fi.1)
  have nl:=KO (is:=CW st)
  have cs:=Z2 hS3 (by lia) mi
  have okS:=Me (is:=Ft st i)
  have dqS:=OP (is:=Ft st i)
  have sl:=YT (st:=st) (j:=i)
  have nls:=KO (is:=Ft st i)
  have pre:EA [.ref p,t.d,.ref s] S=((UN [Fk (.ref p),Fk t.d,Fk (.ref s),Fk (.ref l),Fk (shD st.hold),Fk (.ref m),Fk (.lst (HJ (CW st))),Fk (.int way),Fk (.int i),Fk (.int (1+rs)),nD,nD,nD,nD] S3).bind (cm Oq)).map λr=>(flD r.1,r.2.2):=by
   simp[EA,O4,r0,sq,cf,e1,hw2,okF,dqF,hf,nl,e2,ei,lo2,x3,x2',e3]
  have tail:∀o10,(way<5->(Ft st i).isEmpty=true)->∃d S',(Oq [Fk (.ref p),Fk t.d,Fk (.ref s),Fk (.ref l),Fk (shD st.hold),Fk (.ref m),Fk (.lst (HJ (CW st))),Fk (.int way),Fk (.int i),Fk (.int (1+rs)),o10,nD,nD,nD] S3).map (λr=>(flD r.1,r.2.2))=Fk (AX.d d,S')/\Pn p S S'/\Can t st d:=by
   intro o10 _
   clear pre cs okS dqS
   by_cases hsw:way<8/\1<t.k
   .obtain⟨hw8,hk1⟩:=hsw
    have hk1':(1:Int)<t.k:=by lia
    obtain⟨rk,S4,e4,a4,b4,p4⟩:=Ar p3.pen (n:=(t.k:Int)-1) (by lia) (by lia)
    have hS4:=st' (p23.trans p4)
    have hmod:=Uk (x:=((AR st.AE i).k:Int)+1+rk) (K:=t.k) (by lia) (by lia)
    obtain⟨kd2,ekd⟩:∃q:Nat,((AR st.AE i).k+1+rk) % (t.k:Int)=(q:Int):=⟨_,(oo (qf _ (by lia))).symm⟩
    have hkd:kd2<t.k/\kd2≠(AR st.AE i).k:=by
     rw[ekd]at hmod
     split at hmod<;>lia
    have kp:0<t.k:=by lia
    have cl:=Zx hS4
    have okL:=Me (is:=Gp st)
    have dqL:=OP (is:=Gp st)
    have ll:=YU (st:=st)
    have nll:=KO (is:=Gp st)
    have rt:KP 10=true:=FC (by decide) (by decide)
    by_cases htr:way=7/\(Gp st).isEmpty=false
    .obtain⟨hw7,hle⟩:=htr
     have hll:0<(Gp st).length:=by
      cases z:Gp st with
      |nil=>rw[z]at hle;cases hle
      |cons a b=>simp
     obtain⟨ru,S5,e5,a5,b5,p5⟩:=Ar p4.pen (n:=(Gp st).length) (by lia) (by lia)
     obtain⟨u,mu,eu⟩:=My a5 b5
     obtain⟨x6,S6,e6,p6,a6,b6⟩:=J7 p5.pen
     have fu:=WS mu
     refine⟨.G4 u i (1+rs) kd2 x6,S6,?_,((p23.trans p4).trans p5).trans p6,fi.1,hsome.1,hsome.2,hkd.1,hkd.2,a6,b6,fu.1,by lia,by lia⟩
     subst hw7
     simp[Oq,Tr.d,x3,hk1',lo3,x4',e4,kp,ekd,rt,cl,okL,dqL,hle,nll,e5,eu,e6,AX.d]
    .obtain⟨x6,S6,e6,p6,a6,b6⟩:=J7 p4.pen
     refine⟨.swap i (1+rs) kd2 x6,S6,?_,(p23.trans p4).trans p6,fi.1,hsome.1,hsome.2,hkd.1,hkd.2,a6,b6⟩
     by_cases h7:way=7
     .subst h7
      have hle:(Gp st).isEmpty=true:=by
       cases z:(Gp st).isEmpty with
       |true=>rfl
       |false=>exact absurd ⟨rfl,z⟩ htr
      simp[Oq,Tr.d,x3,hk1',lo3,x4',e4,kp,ekd,rt,cl,okL,dqL,hle,nll,e6,AX.d]
     .have h7':(way==7)=false:=by simpa using h7
      simp[Oq,Tr.d,x3,hw8,hk1',lo3,x4',e4,kp,ekd,rt,cl,h7',e6,AX.d]
   .have sw:∀(x y:Ex) (T:Sto),xIf (Lu (eOp (o2 wLt) [eV 7,eC (.int 8)]) (eOp (o2 wGt) [eOp (o2 wIx) [eV 1,eC (.int 1)],eC (.int 1)])) x y [Fk (.ref p),Fk t.d,Fk (.ref s),Fk (.ref l),Fk (shD st.hold),Fk (.ref m),Fk (.lst (HJ (CW st))),Fk (.int way),Fk (.int i),Fk (.int (1+rs)),o10,nD,nD,nD] T=y [Fk (.ref p),Fk t.d,Fk (.ref s),Fk (.ref l),Fk (shD st.hold),Fk (.ref m),Fk (.lst (HJ (CW st))),Fk (.int way),Fk (.int i),Fk (.int (1+rs)),o10,nD,nD,nD] T:=by
     intro x y T
     by_cases w8:way<8
     .have hk1:¬(1:Int)<t.k:=by lia
      simp[Tr.d,w8,hk1]
     .simp[w8]
    by_cases h8:way=8
    .subst h8
     refine⟨.IP i (1+rs),S3,?_,p23,fi.1,hsome.1,hsome.2⟩
     simp[Oq,-Ql,sw]
     simp[AX.d]
    .have h8':(way==8)=false:=by simpa using h8
     by_cases h9:way=9/\1<t.p
     .obtain⟨h9,hP⟩:=h9
      subst h9
      have hP':(1:Int)<t.p:=by lia
      obtain⟨rp,S4,e4,a4,b4,p4⟩:=Ar p3.pen (n:=t.p) (by lia) (by lia)
      obtain⟨rq,S5,e5,a5,b5,p5⟩:=Ar p4.pen (n:=(t.p:Int)-1) (by lia) (by lia)
      obtain⟨sh,S6,e6,p6,a6,b6,c6⟩:=Wh p5.pen
      have hmod:=Uk (x:=rp+1+rq) (K:=t.p) (by lia) (by lia)
      obtain⟨q,eq⟩:∃q:Nat,(rp+1+rq) % (t.p:Int)=(q:Int):=⟨_,(oo (qf _ (by lia))).symm⟩
      obtain⟨rp,rfl⟩:=IJ a4
      have hq:q<t.p/\q≠rp:=by
       rw[eq]at hmod
       split at hmod<;>lia
      have pp:0<t.p:=by lia
      refine⟨.Ht rp q sh,S6,?_,((p23.trans p4).trans p5).trans p6,λz=>hq.2 z.symm,by lia,hq.1,a6,b6,c6⟩
      simp[Oq,-Ql,sw]
      simp[Tr.d,hP',e4,e5,pp,eq,e6,AX.d]
     .have s9:∀(x y:Ex) (T:Sto),xIf (Lu (eOp (o2 wEq) [eV 7,eC (.int 9)]) (eOp (o2 wGt) [eOp (o2 wIx) [eV 1,eC (.int 0)],eC (.int 1)])) x y [Fk (.ref p),Fk t.d,Fk (.ref s),Fk (.ref l),Fk (shD st.hold),Fk (.ref m),Fk (.lst (HJ (CW st))),Fk (.int way),Fk (.int i),Fk (.int (1+rs)),o10,nD,nD,nD] T=y [Fk (.ref p),Fk t.d,Fk (.ref s),Fk (.ref l),Fk (shD st.hold),Fk (.ref m),Fk (.lst (HJ (CW st))),Fk (.int way),Fk (.int i),Fk (.int (1+rs)),o10,nD,nD,nD] T:=by
       intro x y T
       by_cases z:way=9
       .have hP:¬(1:Int)<t.p:=by have:¬1<t.p:=λw=>h9 ⟨z,w⟩;lia
        subst z
        simp[Tr.d,hP]
       .have z':(way==9)=false:=by simpa using z
        simp[z']
      obtain⟨ws,S4,e4,p4,a4,b4⟩:=UG p3.pen (n:=t.k+1) (by lia)
      have e4':Dx [.ref p,.int ((t.k:Int)+1)] S3=Fk (.tup (ws.map .int),S4):=e4
      refine⟨.thr i (1+rs) ws,S4,?_,p23.trans p4,fi.1,hsome.1,hsome.2,a4,b4⟩
      have s8:∀(x y:Ex) (T:Sto),xIf (eOp (o2 wEq) [eV 7,eC (.int 8)]) x y [Fk (.ref p),Fk t.d,Fk (.ref s),Fk (.ref l),Fk (shD st.hold),Fk (.ref m),Fk (.lst (HJ (CW st))),Fk (.int way),Fk (.int i),Fk (.int (1+rs)),o10,nD,nD,nD] T=y [Fk (.ref p),Fk t.d,Fk (.ref s),Fk (.ref l),Fk (shD st.hold),Fk (.ref m),Fk (.lst (HJ (CW st))),Fk (.int way),Fk (.int i),Fk (.int (1+rs)),o10,nD,nD,nD] T:=by
       intro x y T
       simp[h8']
      simp[Oq,-Ql,sw,s8,s9]
      simp[Tr.d,e4',AX.d]
  by_cases hpool:way<5/\(Ft st i).isEmpty=false
  .obtain⟨hw5,hse⟩:=hpool
   have hsl:0<(Ft st i).length:=by
    cases z:Ft st i with
    |nil=>rw[z]at hse;cases hse
    |cons a b=>simp
   obtain⟨rj,S4,e4,a4,b4,p4⟩:=Ar p3.pen (n:=(Ft st i).length) (by lia) (by lia)
   obtain⟨j,mj,ej⟩:=My a4 b4
   have fj:=WT mj
   have fj':=Ly fj.1
   refine⟨.JT i j,S4,?_,p23.trans p4,λz=>fj.2.1 z.symm,fi.1,fj'.1,n1,fj'.2,fj.2.2.symm⟩
   rw[pre]
   simp[UN,hw5,cs,okS,dqS,hse,nls,e4,ej,AX.d]
  .by_cases w5:way<5
   .have hse:(Ft st i).isEmpty=true:=by
     cases z:(Ft st i).isEmpty with
     |true=>rfl
     |false=>exact absurd ⟨w5,z⟩ hpool
    obtain⟨d,S',e,pn,hc⟩:=tail (Fk (.lst (HJ (Ft st i)))) (λ_=>hse)
    refine⟨d,S',?_,pn,hc⟩
    rw[pre,<-e]
    simp[UN,w5,cs,okS,dqS,hse]
   .obtain⟨d,S',e,pn,hc⟩:=tail nD (λz=>absurd z w5)
    refine⟨d,S',?_,pn,hc⟩
    rw[pre,<-e]
    simp[UN,w5]
end
noncomputable def runs(t:Tr)(st:Stt)(ds:Gc AX):Stt:=ds.foldl (step t) st
def Kr(t:Tr):Stt->Gc AX->Prop
 |_,[]=>x5
 |st,d::ds=>Can t st d/\Kr t (step t st d) ds
theorem N3{t:Tr}{d:AX}:∀{ds:Gc AX} {st:Stt},Kr t st ds->Can t (runs t st ds) d->Kr t st (ds++[d])
 | [],st,_,h=>⟨h,trivial⟩
 |x::ds,st,h,g=>⟨h.1,N3 h.2 g⟩
theorem PK{t:Tr}:∀{ds:Gc AX} {st:Stt} {i:Nat} {d:AX},Kr t st ds->ds[i]?=Fk d->Can t (runs t st (ds.take i)) d
 |x::ds,st,0,d,h,g=>by
  simp at g;subst g
  exact h.1
 |x::ds,st,i+1,d,h,g=>by
  simp at g
  show Can t (runs t (step t st x) (ds.take i)) d
  exact PK h.2 g
theorem Py{t:Tr}{st:Stt}{ds:Gc AX}{d:AX}:runs t st (ds++[d])=step t (runs t st ds) d:=by simp[runs]
theorem P8{t:Tr}{st:Stt}{ds:Gc AX}{i:Nat}{d:AX}(h:ds[i]?=Fk d):runs t st (ds.take (i+1))=step t (runs t st (ds.take i)) d:=by
 rw[vG,h]
 exact Py
theorem PR{t:Tr}(ht:K4 t):∀{ds:Gc AX} {st:Stt} {k:Nat},Gb t k st->Kr t st ds->k+ds.length<=17->Gb t (k+ds.length) (runs t st ds)
 | [],st,k,h,_,_=>h
 |d::ds,st,k,h,g,hl=>by
  have:=PR ht (ds:=ds) (YH ht h (by simp at hl;lia) g.1) g.2 (by simp at hl;lia)
  rw[show k+(d::ds).length=k+1+ds.length by simp;lia]
  exact this
theorem OB{t:Tr}:∀{ds:Gc AX} {st:Stt} {i:Nat},Kr t st ds->Kr t st (ds.take i)
 | [],st,i,h=>by simp;exact trivial
 |d::ds,st,0,h=>trivial
 |d::ds,st,i+1,h=>⟨h.1,OB h.2⟩
noncomputable def st0(t:Tr)(ls:Gc Ld):Stt:=⟨ls,t.ho,[]⟩
structure CZ(t:Tr)(ls:Gc Ld)(ds:Gc AX):Prop where
 tr:K4 t
 inv:Gb t 0 (st0 t ls)
 good:Kr t (st0 t ls) ds
 len:ds.length<=16
theorem CZ.at{t:Tr}{ls:Gc Ld}{ds:Gc AX}(h:CZ t ls ds)(i:Nat):Gb t (ds.take i).length (runs t (st0 t ls) (ds.take i)):=by
 have:=PR h.tr (ds:=ds.take i) h.inv (OB h.good) (by have:=h.len;simp;lia)
 rwa [wI]at this
noncomputable def Ai(t:Tr)(ls:Gc Ld)(ds:Gc AX):D:=.tup [t.d,.tup (ls.map Ld.d),.tup (ds.map AX.d)]
theorem VA{t:Tr}{ls:Gc Ld}(h:Hy t ls)(hl:ls.length<=4)(h1:t.ho.length=t.p){g:Nat}(g0:0<g)(g1:g<=32)(g2:∀r∈t.ho,Ok g g r):Gb t 0 (st0 t ls):=by
 obtain⟨ha,G,G0,G1,G2⟩:=h
 have hG:G<=32^4:=nR G1 (oV (by decide) hl)
 have hB:G*g<2^30:=by
  have:=tq hG g1
  lia
 refine Gb.of (G:=G*g) (B:=G*g) (by simpa[st0]using hl) ?_ h1 (nS _) (uF G0 g0) (nS _) hB ?_
 .intro x hx
  have:=ha x hx
  exact⟨this.1,by lia,gU this.2.2.1,this.2.2.2.1,λr hr=>(G2 x hx r hr).up (nS _)⟩
 .intro r hr
  have:=(g2 r hr).up (t:=G) (B':=G*g) (by rw[qx];exact nS _)
  rwa [qx g G]at this
noncomputable def JP:AX->oQ
 | .thr .. =>true
 |_=>false
section
variable{S:Sto}{p:Nat}
theorem Xr(d:AX)(E:En)(h:E=[Fk d.d]):eOp (o2 wEq) [eOp (o2 wIx) [eV 0,eC (.int 0)],eC (.str "throw")] E S=Fk (.bl (JP d),S):=by
 subst h
 cases d<;>simp[AX.d,JP]
theorem mK{q:Nat}{ds:Gc AX}(hq:S[q]?=Fk (.lst (ds.map AX.d)))(hl:ds.length<=50):Cb [(q,ds.map AX.d)] (tNm 0) (eOp (o2 wEq) [eOp (o2 wIx) [eV 0,eC (.int 0)],eC (.str "throw")]) (eV 0) (ds.map AX.d) [] [nD] S=Fk ((ds.filter JP).map AX.d,S):=
 Fi (gs:=[(q,ds.map AX.d)]) (t:=tNm 0) (f:=eV 0) (C:=[]) (m:=1) (e:=AX.d) (g:=AX.d) (b:=JP) (S:=S) (λg hg=>by rw[oJ.mp hg];exact AU hq) (xs:=ds) (acc:=[]) (os:=[nD]) rfl (nR (show _<=50 by simp;lia) (AS (by decide))) (by
  intro d _ os ho
  obtain⟨o1,rfl⟩:=Qz ho
  exact⟨[Fk d.d],rfl,by simp,Xr d _ rfl,by simp⟩)
theorem SV{M:Nat}(hM:M<=16)(h:Ea p S):∃t ls ds S',EC [.ref p,.int M] S=Fk (Ai t ls ds,S')/\(CZ t ls ds/\ds.length<=M)/\((∀l∈ls,l.ow.sum=1)/\t.ho.sum=1)/\Ea p S'/\∀n c,S[n]?=Fk c->n≠p->S'[n]?=Fk c:=by
 obtain⟨t,S1,e1,p1,ht,hh,g,g0,g1,g2⟩:=W9 h
 obtain⟨ls,S2,e2,p2,hf,hl⟩:=Wi p1.pen ht
 have hi:=VA hf hl hh.1 g0 g1 g2
 obtain⟨s,l,m,as,S3,e3,hS,sm,hn⟩:=Xf (S:=S2) (t:=t) (ls:=ls) (x:=.tup []) (by lia)
 have lp:=p2.pen.lt
 have l02:S.length<=S2.length:=nR p1.same.len p2.same.len
 have pen3:Ea p S3:=by
  obtain⟨ds,e,hp⟩:=p2.pen
  exact⟨ds,sm.get e (by simp),hp⟩
 have hq:(S3++[Cl.lst []])[S3.length]?=Fk (.lst []):=oC
 obtain⟨rn,S4,e4,a4,b4,p4⟩:=Ar (pen3.app [Cl.lst []]) (n:=(M:Int)+1) (by lia) (by lia)
 have lt3:=hS.lts
 have pn:p∉s::l::m::as:=λz=>by have:=hn p z;lia
 have qn:S3.length∉s::l::m::as:=λz=>by have:=lt3 _ z;lia
 have hpq:S3.length≠p:=by have:=pen3.lt;lia
 have hS4:SAt S4 s l m as (st0 t ls):=(hS.Tp (.app)).same p4.same (by simpa using pn)
 have hq4:S4[S3.length]?=Fk (.lst []):=p4.get hq hpq
 obtain⟨rn,rfl⟩:=IJ a4
 have rk:KP (rn:Int)=true:=FC (by lia) (by lia)
 have lqS:S.length<=S3.length:=nR l02 sm.len
 generalize hQ:S3.length=q at*
 obtain⟨E',S',ef,ds,as',o6,o7,rfl,f1,f2,f3,f4,f5,f6,f7,f8,f9⟩:=IS (gs:=[]) (t:=tNm 6) (b:=Ae (CA 7 (AJ EA [eV 0,eV 2,eV 4]))
  (xIf (eOr (eOp (o2 wNe) [eOp (o2 wIx) [eV 7,eC (.int 0)],eC (.str "throw")]) (eOp (o2 wLt) [eOp (o1 Lf) [EF [] 1 (Lx (eV 5)) (tNm 0) (eOp (o2 wEq) [eOp (o2 wIx) [eV 0,eC (.int 0)],eC (.str "throw")]) (eV 0)],eC (.int 3)])) (Ae (EV (AJ B0 [eV 2,eV 4,eV 7]))
  (EV (Qg Qy (eV 5) [eV 7]))) Et))
  (I:=λrs E S'=>∃(ds:Gc AX) (as':Gc Nat) (o6 o7:nG D),E=[Fk (.ref p),Fk (.int M),Fk t.d,Fk (.tup (ls.map Ld.d)),Fk (.ref s),Fk (.ref q),o6,o7]/\S'[q]?=Fk (.lst (ds.map AX.d))/\Ea p S'/\SAt S' s l m as' (runs t (st0 t ls) ds)/\Kr t (st0 t ls) ds/\ds.length+rs.length<=M/\p∉s::l::m::as'/\q∉s::l::m::as'/\(∀n∈s::l::m::as',S.length<=n)/\∀n c,S[n]?=Fk c->n≠p->S'[n]?=Fk c)
  (λ_ _ _ _=>Aw) (ds:=Jr 0 rn) (E:=[Fk (.ref p),Fk (.int M),Fk t.d,Fk (.tup (ls.map Ld.d)),Fk (.ref s),Fk (.ref q),nD,nD]) (S:=S4)
  ⟨[],as,nD,nD,rfl,hq4,p4.pen,hS4,trivial,by rw[Gv];simp;lia,pn,qn,λn z=>nR l02 (hn n z),λn c e ne=>p4.get (Cv.get (A:=[]) .app (sm.get (p2.get (p1.get e ne) ne) (by simp)) (by simp)) ne⟩ (by
    rintro dd rs E T ⟨ds,as',o6,o7,rfl,i1,i2,i3,i4,i5,i6,i7,i8,i9⟩
    simp only[pD]at i5
    have inv:=PR ht hi i4 (by lia)
    rw[wI]at inv
    obtain⟨d,T1,d1,d2,d3⟩:=aW i2 i3 i6 ht inv (by lia)
    have lS:S.length<=T1.length:=by have:=i8 s nT;have:=Ao i3.root;have:=d2.same.len;lia
    have j3:=i3.same d2.same (by simpa using i6)
    have j1:T1[q]?=Fk (.lst (ds.map AX.d)):=d2.get i1 hpq
    have tc:=mK j1 (by lia)
    by_cases hb:JP d=false\/(ds.filter JP).length<3
    .obtain⟨T2,as2,k1,k2,k3,k4⟩:=ir j3 ht inv (by lia) d3
     have lt:=j3.lts
     have q2:T2[q]?=Fk (.lst (ds.map AX.d)):=k3.get j1 i7
     have hz:ds.length<sizeLine:=nQ (show ds.length<50 by lia) (AS (by decide))
     refine⟨_,[Fk (.ref p),Fk (.int M),Fk t.d,Fk (.tup (ls.map Ld.d)),Fk (.ref s),Fk (.ref q),Fk dd,Fk d.d],T2.set q (.lst ((ds++[d]).map AX.d)),by simp;rfl,?_,ds++[d],as2,Fk dd,Fk d.d,rfl,nZ (Ao q2),?_,?_,N3 i4 d3,by simp;lia,?_,?_,?_,?_⟩
     .have kk:=AU q2
      have w1:∀(c:Ev),eOr (eOp (o2 wNe) [eOp (o2 wIx) [eV 7,eC (.int 0)],eC (.str "throw")]) c [Fk (.ref p),Fk (.int M),Fk t.d,Fk (.tup (ls.map Ld.d)),Fk (.ref s),Fk (.ref q),Fk dd,Fk d.d] T1=if JP d=true then c [Fk (.ref p),Fk (.int M),Fk t.d,Fk (.tup (ls.map Ld.d)),Fk (.ref s),Fk (.ref q),Fk dd,Fk d.d] T1 else Fk (.bl true,T1):=by
       intro c
       cases d<;>simp[AX.d,JP]
      have sq:=Iy j1
      have hz':(ds.map AX.d).length<sizeLine:=by simpa using hz
      have hfin:(ds++[d]).map AX.d=ds.map AX.d++[d.d]:=by simp
      rw[hfin]
      generalize hDD:ds.map AX.d=DD at*
      cases ht':JP d with
      |false=>
       simp[d1,-Qp,w1,ht',k1,kk,hz']
      |true=>
       have h3:((ds.filter JP).length:Int)<3:=by
        have:=hb.resolve_left (by rw[ht'];simp)
        lia
       simp[d1,-Qp,w1,ht',sq,tc,h3,k1,kk,hz']
     .obtain⟨pd,pe,ph⟩:=d2.pen
      exact⟨pd,by rw[nN hpq];exact k3.get pe i6,ph⟩
     .rw[Py]
      exact k2.same (A:=[q]) (.set (by simp)) (by
       intro n hn z
       simp at hn;subst hn
       simp only[nO]at z i7
       rcases z with z|z|z|z
       .exact i7 (.inl z)
       .exact i7 (.inr (.inl z))
       .exact i7 (.inr (.inr (.inl z)))
       .rcases k4 _ z with w|w
        .exact i7 (.inr (.inr (.inr w)))
        .have:=Ao j1;lia)
     .intro z
      simp only[nO]at z i6
      rcases z with z|z|z|z
      .exact i6 (.inl z)
      .exact i6 (.inr (.inl z))
      .exact i6 (.inr (.inr (.inl z)))
      .rcases k4 _ z with w|w
       .exact i6 (.inr (.inr (.inr w)))
       .have:=d2.pen.lt;lia
     .intro z
      simp only[nO]at z i7
      rcases z with z|z|z|z
      .exact i7 (.inl z)
      .exact i7 (.inr (.inl z))
      .exact i7 (.inr (.inr (.inl z)))
      .rcases k4 _ z with w|w
       .exact i7 (.inr (.inr (.inr w)))
       .have:=Ao j1;lia
     .intro n z
      simp only[nO]at z i8
      rcases z with z|z|z|z
      .exact i8 n (.inl z)
      .exact i8 n (.inr (.inl z))
      .exact i8 n (.inr (.inr (.inl z)))
      .rcases k4 _ z with w|w
       .exact i8 n (.inr (.inr (.inr w)))
       .exact nR lS w
     .intro n c e ne
      have ln:n<S.length:=Ao e
      rw[nN (λz=>by have:=lqS;lia)]
      exact k3.get (d2.get (i9 n c e ne) ne) λz=>by have:=i8 n z;lia
    .have ht':JP d=true:=by
      cases z:JP d with
      |true=>rfl
      |false=>exact absurd (.inl z) hb
     have h3:¬((ds.filter JP).length:Int)<3:=by
      have:¬(ds.filter JP).length<3:=λz=>hb (.inr z)
      lia
     refine⟨_,[Fk (.ref p),Fk (.int M),Fk t.d,Fk (.tup (ls.map Ld.d)),Fk (.ref s),Fk (.ref q),Fk dd,Fk d.d],T1,by simp;rfl,?_,ds,as',Fk dd,Fk d.d,rfl,j1,d2.pen,j3,i4,by lia,i6,i7,i8,λn c e ne=>d2.get (i9 n c e ne) ne⟩
     have w1:∀(c:Ev),eOr (eOp (o2 wNe) [eOp (o2 wIx) [eV 7,eC (.int 0)],eC (.str "throw")]) c [Fk (.ref p),Fk (.int M),Fk t.d,Fk (.tup (ls.map Ld.d)),Fk (.ref s),Fk (.ref q),Fk dd,Fk d.d] T1=if JP d=true then c [Fk (.ref p),Fk (.int M),Fk t.d,Fk (.tup (ls.map Ld.d)),Fk (.ref s),Fk (.ref q),Fk dd,Fk d.d] T1 else Fk (.bl true,T1):=by
      intro c
      cases d<;>simp[AX.d,JP]
     have sq:=Iy j1
     generalize hDD:ds.map AX.d=DD at*
     simp[d1,-Qp,w1,ht',sq,tc,h3])
 refine⟨t,ls,ds,S',?_,⟨⟨ht,hi,f4,by simp at f5;lia⟩,by simpa using f5⟩,⟨λx hx=>(hf.1 x hx).2.2.2.2,hh.2⟩,f2,f9⟩
 have df:=BE f1
 simp[EC,OC,e1,e2,e3,hQ,e4,rk,ef,df,Ai]
end
section
variable{S:Sto}{s l m:Nat}{as:Gc Nat}{st:Stt}
theorem Ux{rs:Gc Rat}:D.tup (rs.map aD)=shD rs:=rfl
end
theorem RL{n m d:Nat}(h:n<=m):HT.sIx m d (Fk (n:Int))=n:=by
 unfold HT.sIx
 have:¬((n:Int)<0):=by lia
 simp[this]
 lia
theorem L3{α:Type}{ds:Gc α}{n:Nat}(h:n<=ds.length):Mg ds nD (Fk (n:Int))=ds.take n:=by
 unfold Mg
 rw[RL h]
 simp[HT.sIx]
theorem SU{α:Type}{ds:Gc α}{n:Nat}(h:n<=ds.length):Mg ds (Fk (n:Int)) nD=ds.drop n:=by
 unfold Mg
 rw[RL h]
 simp[HT.sIx]
 exact sG (by simp)
noncomputable def hD(x:Ld):D:=.tup [.int x.k,.int x.n]
noncomputable def Bh(ls:Gc Ld):D:=.lst (ls.map hD)
noncomputable def Kf(ls:Gc Ld):D:=.lst (ls.map λx=>shD x.ow)
section
variable{S:Sto}{ls:Gc Ld}{i j:Nat}{n:Int}
@[simp] theorem jW:dr S (Bh ls)=.val (Bh ls):=nr rfl
@[simp] theorem kI:dr S (Kf ls)=.val (Kf ls):=nr rfl
@[simp] theorem fe:asS (.val (Bh ls))=some (ls.map hD):=nr rfl
@[simp] theorem fM:asS (.val (Kf ls))=some (ls.map λx=>shD x.ow):=nr rfl
@[simp] theorem fR:Lf (.val (Bh ls))=some (.val (.int ls.length)):=by
  show Lf (.val (.lst (ls.map hD)))=_
  rw[Wb,oa]
theorem Fp(hi:i<ls.length):atI (ls.map hD) (i:Int)=Fk (hD (AR ls i)):=DB (by rw[nY,Gm hi];rfl)
theorem Mt(hi:i<ls.length):atI (ls.map λx=>shD x.ow) (i:Int)=Fk (shD (AR ls i).ow):=DB (by rw[nY,Gm hi];rfl)
@[simp] theorem lJ{x:Ld}:dr S (hD x)=.val (.tup [.int x.k,.int x.n]):=nr rfl
@[simp] theorem kL{ts:List Tf}{x:Ld}{E:En}:tTp ts (hD x) E S=tMs ts [.int x.k,.int x.n] E S:=nr rfl
theorem QW(hi:i<ls.length)(hn:n<=(AR ls i).n):CB [Bh ls,.int i,.int n] S=Fk (.bl true,S):=by
 have hi':(i:Int)<ls.length:=by lia
 simp[CB,JU,hi',hi,Fp hi,hn]
theorem RN(hi:i<ls.length)(hj:j<ls.length)(h1:0<(AR ls i).n)(h2:0<(AR ls j).n)(hk:(AR ls i).k=(AR ls j).k):Gi [Bh ls,.int i,.int j] S=Fk (.bl true,S):=by
 have e1:=QW (S:=S) (n:=1) hi (by lia)
 have e2:=QW (S:=S) (n:=1) hj (by lia)
 simp[Gi,LH,e1,e2,Fp hi,Fp hj,hk]
theorem L8{k:Nat}(hi:i<ls.length)(hn:n<=(AR ls i).n)(hk:k≠(AR ls i).k):Fe [Bh ls,.int i,.int n,.int k] S=Fk (.bl true,S):=by
 have e1:=QW (S:=S) hi hn
 have e2:(((AR ls i).k:Int)==(k:Int))=false:=by simp;lia
 simp[Fe,K6,e1,Fp hi,e2]
theorem Xa{lo hi:nG Int}:wSl lo hi (.val (Bh ls))=Fk (.own (Mg (ls.map hD) lo hi)):=nr rfl
theorem F0(hi:i<ls.length)(hl:ls.length<=60):Bo [Bh ls,.int i,.int n] S=Fk (Bh (less ls i n),S):=by
 have c1:=L3 (ds:=ls.map hD) (n:=i) (by simp;lia)
 have c2:Mg (ls.map hD) (Fk ((i:Int)+1)) nD=(ls.map hD).drop (i+1):=by
  have:=SU (ds:=ls.map hD) (n:=i+1) (by simp;lia)
  simpa using this
 have ef:Bh (less ls i n)=.lst ((ls.map hD).take i++[.tup [.int (AR ls i).k,.int ((AR ls i).n-n)]]++(ls.map hD).drop (i+1)):=by
  rw[RG,Bh,qT,List.set_eq_take_append_cons_drop,oP (by simpa using hi)]
  simp[hD]
 have z1:(wg i (ls.map hD)).length+1<=sizeLine:=nR (show _<=100 by simp;lia) (AS (by decide))
 have z2:(wg i (ls.map hD)++[D.tup [.int (AR ls i).k,.int ((AR ls i).n-n)]]).length+(yT (i+1) (ls.map hD)).length<=sizeLine:=nR (show _<=100 by simp;lia) (AS (by decide))
 rw[ef]
 have ah:=Fp hi
 have ws:=λ{lo hi:nG Int}=>Xa (ls:=ls) (lo:=lo) (hi:=hi)
 generalize wg i (ls.map hD)=A at*
 generalize yT (i+1) (ls.map hD)=B at*
 simp only[pI,pD,rX]at z2
 simp[Bo,IK,ah,ws,c1,c2,z1,z2]
end
section
variable{S:Sto}{st:Stt}{t:Tr}{k:Nat}
@[simp] theorem FN{ls:List Ld}{r:List D}:EE (.val (Bh ls)) (.val (.lst r))=if(ls.map hD).length+r.length<=sizeLine then some (.own (ls.map hD++r))else none:=nr rfl
theorem L0{ls:Gc Ld}{y:Ld}:D.lst (ls.map hD++[.tup [.int y.k,.int y.n]])=Bh (ls++[y]):=by simp[Bh,hD]
theorem QO(h:Gb t k st)(hk:k<=17){d:AX}(hc:Can t st d):Am [Bh st.AE,d.d] S=Fk (Bh (step t st d).AE,S):=by
 have hlen:=h.len
 have hz:(st.AE.map hD).length+1<=sizeLine:=nR (show _<=100 by simp;lia) (AS (by decide))
 have hz2:∀{i:Nat} {n:Int},((less st.AE i n).map hD).length+1<=sizeLine:=λ{i n}=>nR (show _<=100 by simp[Eg];lia) (AS (by decide))
 cases d with
 |Hu p kd n=>
  have e:=L0 (ls:=st.AE) (y:=⟨kd,n,VS t.p p⟩)
  show _=Fk (Bh (st.AE++[⟨kd,n,VS t.p p⟩]),S)
  rw[<-e]
  have wA:=FN (ls:=st.AE) (r:=[.tup [.int kd,.int n]])
  rw[oP (by simpa using hz)]at wA
  simp[Am,Bc,AX.d,-FN,wA]
 |JT i j=>
  obtain⟨hij,hi,hj,h1,h2,h3⟩:=hc
  have e0:AR (less st.AE i (AR st.AE i).n) j=AR st.AE j:=by
   unfold AR less
   rw[nW,nN hij,<-nW]
  have w1:=F0 (S:=S) (n:=(AR st.AE i).n) hi (by lia)
  have w2:=F0 (S:=S) (ls:=less st.AE i (AR st.AE i).n) (i:=j) (n:=(AR st.AE j).n) (by rw[Eg];exact hj) (by rw[Eg];lia)
  have z3:((less (less st.AE i (AR st.AE i).n) j (AR st.AE j).n).map hD).length+1<=sizeLine:=nR (show _<=100 by simp[Eg];lia) (AS (by decide))
  have e:=L0 (ls:=less (less st.AE i (AR st.AE i).n) j (AR st.AE j).n) (y:=⟨(AR st.AE i).k,(AR st.AE i).n+(AR st.AE j).n,Cc (AR st.AE i).n (AR st.AE j).n (AR st.AE i).ow (AR st.AE j).ow⟩)
  show _=Fk (Bh (less (less st.AE i (AR st.AE i).n) j (AR st.AE j).n++[_]),S)
  rw[<-e]
  have a1:=Fp hi
  have a2:=Fp hj
  have wA:=FN (ls:=less (less st.AE i (AR st.AE i).n) j (AR st.AE j).n) (r:=[.tup [.int (AR st.AE i).k,.int ((AR st.AE i).n+(AR st.AE j).n)]])
  rw[oP (by simpa using z3)]at wA
  generalize (less (less st.AE i (AR st.AE i).n) j (AR st.AE j).n).map hD=A at*
  simp[Am,Bc,AX.d,a1,a2,w1,w2,-FN,wA]
 |swap i g kd n=>
  obtain⟨hi,h1,h2,h3,h4,h5,h6⟩:=hc
  have w1:=F0 (S:=S) (n:=g) hi (by lia)
  have e:=L0 (ls:=less st.AE i g) (y:=⟨kd,n,(AR st.AE i).ow⟩)
  show _=Fk (Bh (less st.AE i g++[⟨kd,n,(AR st.AE i).ow⟩]),S)
  rw[<-e]
  have wA:=FN (ls:=less st.AE i g) (r:=[.tup [.int kd,.int n]])
  rw[oP (by simpa using hz2)]at wA
  simp[Am,Bc,AX.d,w1,-FN,wA]
 |G4 u i g kd n=>
  obtain⟨hi,h1,h2,h3,h4,h5,h6,h7⟩:=hc
  have w1:=F0 (S:=S) (n:=g) hi (by lia)
  have e:=L0 (ls:=less st.AE i g) (y:=⟨kd,n,(AR st.AE i).ow⟩)
  show _=Fk (Bh (less st.AE i g++[⟨kd,n,(AR st.AE i).ow⟩]),S)
  rw[<-e]
  have wA:=FN (ls:=less st.AE i g) (r:=[.tup [.int kd,.int n]])
  rw[oP (by simpa using hz2)]at wA
  simp[Am,Bc,AX.d,w1,-FN,wA]
 |IP i n=>
  obtain⟨hi,h1,h2⟩:=hc
  have w1:=F0 (S:=S) (n:=n) hi (by lia)
  show _=Fk (Bh (less st.AE i n),S)
  simp[Am,Bc,AX.d,w1]
 |thr i n ws=>
  obtain⟨hi,h1,h2,h3,h4⟩:=hc
  have w1:=F0 (S:=S) (n:=n) hi (by lia)
  have e:Bh (step t st (.thr i n ws)).AE=Bh (less st.AE i n):=by
   show D.lst (((less st.AE i n).map _).map hD)=_
   rw[om];rfl
  rw[e]
  simp[Am,Bc,AX.d,w1]
 |Ht p q x=>
  have e:Bh (step t st (.Ht p q x)).AE=Bh st.AE:=by
   show D.lst ((st.AE.map _).map hD)=_
   rw[om];rfl
  rw[e]
  simp[Am,Bc,AX.d]
noncomputable def H0:AX->nG Int
 | .G4 u .. =>Fk u
 |_=>nD
theorem VP{ls:Gc Ld}:∀{ds:Gc AX},(runs t (st0 t ls) ds).nums=ds.filterMap H0:=by
 intro ds
 have:∀(ds:Gc AX) (st:Stt),(runs t st ds).nums=st.nums++ds.filterMap H0:=by
  intro ds
  induction ds with
  |nil=>intro st;simp[runs]
  |cons d ds ih=>
   intro st
   show(runs t (step t st d) ds).nums=_
   rw[ih]
   cases d<;>simp[step,H0,oR]
 rw[this];rfl
theorem K9:∀{ds:Gc AX} {acc:Gc D} {o:nG D},acc.length+ds.length<=100->Cb [] (tNm 0) (eOp (o2 wEq) [eOp (o2 wIx) [eV 0,eC (.int 0)],eC (.str "trade")]) (eOp (o2 wIx) [eV 0,eC (.int 1)]) (ds.map AX.d) acc [o] S=Fk (acc++(ds.filterMap H0).map D.int,S)
 | [],acc,o,h=>by rw[qB,FR Aw];simp
 |d::ds,acc,o,h=>by
  have hz:acc.length<sizeLine:=nQ (show acc.length<101 by simp at h;lia) (AS (by decide))
  have ht:tNm 0 d.d [o] S=Fk [Fk d.d]:=by simp
  rw[oG]
  cases d with
  |G4 u i g kd n=>
   rw[Ip Aw hz ht (S1:=S) (by simp[AX.d])]
   have:eOp (o2 wIx) [eV 0,eC (.int 1)] [Fk (AX.G4 u i g kd n).d] S=Fk (.int u,S):=by simp[AX.d]
   rw[this,By,K9 (by simp at h ⊢; lia)]
   simp[H0,oR]
  |Hu=>rw[Jp Aw hz ht (S1:=S) (by simp[AX.d]),K9 (by simp at h ⊢; lia)];simp[H0,oR]
  |JT=>rw[Jp Aw hz ht (S1:=S) (by simp[AX.d]),K9 (by simp at h ⊢; lia)];simp[H0,oR]
  |swap=>rw[Jp Aw hz ht (S1:=S) (by simp[AX.d]),K9 (by simp at h ⊢; lia)];simp[H0,oR]
  |IP=>rw[Jp Aw hz ht (S1:=S) (by simp[AX.d]),K9 (by simp at h ⊢; lia)];simp[H0,oR]
  |thr=>rw[Jp Aw hz ht (S1:=S) (by simp[AX.d]),K9 (by simp at h ⊢; lia)];simp[H0,oR]
  |Ht=>rw[Jp Aw hz ht (S1:=S) (by simp[AX.d]),K9 (by simp at h ⊢; lia)];simp[H0,oR]
theorem T4{ds:Gc AX}{d:AX}(hd:ds.length<=50)(hn:st.nums=ds.filterMap H0)(hc:Can t st d):CU [Bh st.AE,.tup (ds.map AX.d),d.d] S=Fk (.bl true,S):=by
 cases d with
 |Hu p kd n=>simp[CU,Dz,AX.d]
 |JT i j=>
  obtain⟨hij,hi,hj,h1,h2,h3⟩:=hc
  have e:=RN (S:=S) hi hj h1 h2 h3
  simp[CU,Dz,AX.d,e]
 |swap i g kd n=>
  obtain⟨hi,h1,h2,h3,h4,h5,h6⟩:=hc
  have e:=L8 (S:=S) (k:=kd) hi h2 h4
  simp[CU,Dz,AX.d,e]
 |G4 u i g kd n=>
  obtain⟨hi,h1,h2,h3,h4,h5,h6,h7,h8⟩:=hc
  have e:=L8 (S:=S) (k:=kd) hi h2 h4
  have tc:=K9 (S:=S) (ds:=ds) (acc:=[]) (o:=nD) (by simp;lia)
  rw[<-hn]at tc
  have fi:=P6 (us:=st.nums)
  have ii:=SR (us:=st.nums) (i:=u)
  have iu:(st.nums.any λx=>x==u)=false:=by
   rw[vv]
   intro x hx z
   have:x=u:=by simpa using z
   exact h7 (this▸hx)
  rw[iu]at ii
  generalize st.nums.map D.int=ud at*
  simp[CU,Dz,AX.d,tc,fi,ii,e]
 |IP i n=>
  obtain⟨hi,h1,h2⟩:=hc
  have e:=QW (S:=S) hi h2
  simp[CU,Dz,AX.d,e]
 |thr i n ws=>
  obtain⟨hi,h1,h2,h3,h4⟩:=hc
  have e:=QW (S:=S) hi h2
  simp[CU,Dz,AX.d,e]
 |Ht p q x=>simp[CU,Dz,AX.d]
end
section
variable{S:Sto}{st:Stt}{t:Tr}{k:Nat}
theorem SA{ss os:Gc Rat}:NF (ss.map aD) (os.map aD)=(ss.zip os).map λz=>D.tup [aD z.1,aD z.2]:=by
 unfold NF
 rw[List.zip_map,om]
 rfl
noncomputable def aS(w m:Int)(ss os:Gc Rat):Gc Rat:=sN (λs o=>(s*w+o*m) / (w+m)) ss os
theorem GA{w m:Int}{ss os:Gc Rat}{j n:Nat}(hs:∀r∈ss,Sz j r)(ho:∀r∈os,Sz j r)(hw:w.natAbs<2^n)(hm:m.natAbs<2^n)(h:0<w+m)(hj:2*j+n+1<=7990)(hl:ss.length<=50):Cm [shD ss,.int w,shD os,.int m] S=Fk (shD (aS w m ss os),S):=by
 have e:=FF (gs:=[]) (t:=tTp [tNm 2,tNm 3]) (f:=AJ Iq [eV 2,eV 0,eV 3,eV 1]) (C:=[Fk (.int w),Fk (.int m)]) (m:=2) (e:=λz:Rat×Rat=>D.tup [aD z.1,aD z.2]) (g:=λz=>aD ((z.1*w+z.2*m) / (w+m))) (S:=S) Aw (xs:=ss.zip os) (acc:=[]) (os:=[nD,nD]) rfl (nR (show _<=50 by simp;lia) (AS (by decide))) (by
  intro z hz os' ho'
  obtain⟨q1,q2,rfl⟩:=Yx ho'
  have hm2:=pf (a:=z.1) (b:=z.2) hz
  have l:=dM (S:=S) (hs _ hm2.1) (ho _ hm2.2) hw hm h (by lia)
  refine⟨[Fk (aD z.1),Fk (aD z.2)],rfl,by simp,?_⟩
  simp[l])
 rw[<-SA]at e
 have em:(ss.zip os).map (λz=>aD ((z.1*w+z.2*m) / (w+m)))=(aS w m ss os).map aD:=by
  unfold aS
  rw[<-sP,om]
  rfl
 rw[em]at e
 simp only[oZ,oY]at e
 simp[Cm,IB,e,Ux]
theorem Oy{P p:Nat}(hP:P<=50):FG [.int P,.int p] S=Fk (shD (VS P p),S):=by
 have e:=Ro (S:=S) (P:=P) (p:=p) (cond:=0) (C:=[]) (dd:=.int p) (f:=eIf (eOp (o2 wEq) [eV 1,eV 0]) (eC Ui) (eC Ef)) hP (by
  intro i
  by_cases hi:i=p
  .subst hi;simp;rfl
  .have:((i:Int)==(p:Int))=false:=by simp;lia
   simp[this,hi];rfl)
 have rn:KP (P:Int)=true:=FC (by lia) (by lia)
 simp[FG,JR,rn,e,Ux]
theorem MP{n m:Int}{ss os:Gc Rat}:aS n m ss os=Cc n m ss os:=by
 unfold aS Cc
 congr 1
 funext s o
 push_cast
 rfl
theorem Qn{n m:Int}{ss os:Gc Rat}:Cc n m ss os=Cc m n os ss:=by
 unfold Cc
 rw[List.zipWith_comm]
 congr 1
 funext o s
 push_cast
 grind
@[simp] theorem VY{a b:Int}:NX [a,b]=if a<=b then [a,b]else [b,a]:=by
  unfold NX
  simp[List.mergeSort,vk,List.merge]
@[simp] theorem Z7{a b:Int}:PD (.val (.lst [.int a,.int b]))=some (.own ((if a<=b then [a,b]else [b,a]).map D.int)):=by
  have:PD (.val (.lst [.int a,.int b]))=Fk (.own ((NX [a,b]).map D.int)):=rfl
  rw[this,VY]
@[simp] theorem gB{a b c d e:D}:atI [a,b,c,d,e] (-4)=some b:=nr rfl
@[simp] theorem gg{a b c d e f:D}:atI [a,b,c,d,e,f] (-4)=some c:=nr rfl
theorem UJ{i j:Nat}(ht:K4 t)(h:Gb t k st)(hk:k<=17)(hc:Can t st (.JT i j)):BN [Bh st.AE,Kf st.AE,(AX.JT i j).d] S=Fk (shD (Cc (AR st.AE i).n (AR st.AE j).n (AR st.AE i).ow (AR st.AE j).ow),S):=by
 obtain⟨hij,hi,hj,h1,h2,h3⟩:=hc
 have sz:=h.sz
 have pi:=h.pcs _ (Ay hi)
 have pj:=h.pcs _ (Ay hj)
 have ti:=h.own _ (Ay hi)
 have tj:=h.own _ (Ay hj)
 have zi:=sz.1 _ (Ay hi)
 have zj:=sz.1 _ (Ay hj)
 have hp:t.p<=10:=by have:=ht.2.1;lia
 .by_cases hle:i<=j
  .have hle':(i:Int)<=j:=by lia
   have e:=GA (S:=S) (j:=30+170*k) (n:=131+k) zi zj (Gy pi.1 pi.2) (Gy pj.1 pj.2) (by lia) (by lia) (by lia)
   rw[MP]at e
   have a1:=Fp hi
   have a2:=Fp hj
   have b1:=Mt hi
   have b2:=Mt hj
   have mf:B5 [(AX.JT i j).d] S=Fk (.lst [.int i,.int j],S):=by
    simp[B5,Eb,AX.d,hle,hle']
   simp only[AX.d]at mf⊢
   simp[BN,DL,mf,a1,a2,b1,b2,e]
  .have hle':¬(i:Int)<=j:=by lia
   have e:=GA (S:=S) (j:=30+170*k) (n:=131+k) zj zi (Gy pj.1 pj.2) (Gy pi.1 pi.2) (by lia) (by lia) (by lia)
   rw[MP,Qn]at e
   have a1:=Fp hi
   have a2:=Fp hj
   have b1:=Mt hi
   have b2:=Mt hj
   have mf:B5 [(AX.JT i j).d] S=Fk (.lst [.int j,.int i],S):=by
    simp[B5,Eb,AX.d,hle,hle']
   simp only[AX.d]at mf⊢
   simp[BN,DL,mf,a1,a2,b1,b2,e]
theorem UD{i kd:Nat}{g n:Int}(hi:i<st.AE.length):BN [Bh st.AE,Kf st.AE,(AX.swap i g kd n).d] S=Fk (shD (AR st.AE i).ow,S):=by
 have b1:=Mt hi
 simp[BN,DL,B5,Eb,AX.d,b1]
theorem Ta{i kd:Nat}{u g n:Int}(hi:i<st.AE.length):BN [Bh st.AE,Kf st.AE,(AX.G4 u i g kd n).d] S=Fk (shD (AR st.AE i).ow,S):=by
 have b1:=Mt hi
 simp[BN,DL,B5,Eb,AX.d,b1]
theorem Wf{ws:Gc Int}(h:Gb t k st)(hk:k<=17)(hl:ws.length=t.k+1)(hw:∀w∈ws,1<=w/\w<=99):Dp [t.d,Bh st.AE,.tup (ws.map D.int)] S=Fk (.int (Ek t st.AE ws),S):=by
 have hlen:=h.len
 have e:=FF (gs:=[]) (t:=tTp [tNm 1,tNm 2]) (f:=eOp (o2 CY) [eV 2,eOp (o2 wIx) [eV 0,eV 1]]) (C:=[Fk (.tup (ws.map D.int))]) (m:=2) (e:=hD) (g:=λx=>D.int (x.n*ws.getD x.k 0)) (S:=S) Aw (xs:=st.AE) (acc:=[]) (os:=[nD,nD]) rfl (nR (show _<=50 by simp;lia) (AS (by decide))) (by
  intro x hx os ho
  obtain⟨q1,q2,rfl⟩:=Yx ho
  have hkk:=h.kind _ hx
  have w1:=SN (ws:=ws) (i:=x.k) (by lia)
  have w2:=MO hw (i:=x.k) (by lia)
  have m1:ED x.n (ws.getD x.k 0)=true:=mulR (by lia) (by lia)
  generalize ws.getD x.k 0=wz at*
  refine⟨[Fk (.int x.k),Fk (.int x.n)],rfl,by simp,?_⟩
  simp[w1,m1])
 simp only[oZ,oY]at e
 have es:Lc (st.AE.map λx=>D.int (x.n*ws.getD x.k 0))=Fk (st.AE.map λx=>x.n*ws.getD x.k 0):=by
  have:=HH (st.AE.map λx=>x.n*ws.getD x.k 0)
  rwa [om]at this
 have w2:=PJ hl
 have w4:=MO hw (i:=t.k) (by lia)
 have m2:ED (t.b:Int) (ws.getD t.k 0)=true:=mulR (by lia) (by lia)
 have e2:Ek t st.AE ws=(st.AE.map λx=>x.n*ws.getD x.k 0).sum+t.b*ws.getD t.k 0:=rfl
 rw[e2]
 have sq:sqD S (Bh st.AE)=Fk (st.AE.map hD,[]):=rfl
 generalize (st.AE.map λx=>x.n*ws.getD x.k 0)=es' at*
 generalize (st.AE.map λx=>D.int (x.n*ws.getD x.k 0))=es2 at*
 generalize ws.getD t.k 0=wb at*
 simp[Dp,IC,Tr.d,sq,e,es,w2,m2]
theorem bC{i:Nat}{n:Int}{ws:Gc Int}(ht:K4 t)(h:Gb t k st)(hk:k<=17)(hc:Can t st (.thr i n ws)):EH [t.d,Bh st.AE,(AX.thr i n ws).d] S=Fk (aD (Jn t st.AE i n ws),S):=by
 obtain⟨hi,h1,h2,hl,hw⟩:=hc
 have a:=Jx ht h (by lia) hl hw
 have w1:=SN (ws:=ws) (i:=(AR st.AE i).k) (by have:=h.kind _ (Ay hi);lia)
 have w3:=MO hw (i:=(AR st.AE i).k) (by have:=h.kind _ (Ay hi);lia)
 have m1:ED n (ws.getD (AR st.AE i).k 0)=true:=mulR (by lia) (by lia)
 have l1:=U1 (S:=S) (t:=n*ws.getD (AR st.AE i).k 0) a.1 (Di (Gy (by lia) a.2) (by lia))
 have wo:=Wf (S:=S) h hk hl hw
 have ah:=Fp hi
 rw[Lj hi]
 generalize aD (((n*ws.getD (AR st.AE i).k 0:Int):Rat) / (Ek t st.AE ws:Rat))=R at*
 generalize ws.getD (AR st.AE i).k 0=wa at*
 simp[EH,IX,AX.d,ah,w1,m1,wo,l1]
theorem VJ{X:Rat}{ss os:Gc Rat}:aS ((X.den:Int)-X.num) X.num ss os=IQ X os ss:=by
 unfold aS IQ
 congr 1
 funext s o
 have h1:=Ee X
 have h2:=JX X
 push_cast
 have e:((X.den:Rat)-(X.num:Rat)+(X.num:Rat))=(X.den:Rat):=by grind
 rw[e]
 grind
theorem VQ{i:Nat}{n:Int}{ws:Gc Int}{ss:Gc Rat}(ht:K4 t)(h:Gb t k st)(hk:k<=17)(hc:Can t st (.thr i n ws))(hs:∀r∈ss,Sz (30+170*k) r)(hl:ss.length<=50):DV [t.d,Bh st.AE,Kf st.AE,(AX.thr i n ws).d,shD ss] S=Fk (shD (IQ (Jn t st.AE i n ws) (AR st.AE i).ow ss),S):=by
 have pt:=bC (S:=S) ht h hk hc
 obtain⟨hi,h1,h2,hl',hw⟩:=hc
 have cz:=UM ht h (by lia) hl' hw hi h1 h2
 have b1:=Mt hi
 generalize Jn t st.AE i n ws=X at*
 have d0:=den_pos X
 have c2:=cz.2
 have e:=GA (S:=S) (w:=(X.den:Int)-X.num) (m:=X.num) (j:=30+170*k) (n:=146+k) hs (h.sz.1 _ (Ay hi)) (by
  have c1:=cz.1
  have:2^(146+k)=2^(145+k)*2:=by rw[show 146+k=(145+k)+1 by lia,um]
  generalize 2^(145+k)=P at*
  lia) (bN cz.1 (by lia)) (by lia) (by lia) hl
 rw[VJ]at e
 generalize IQ X (AR st.AE i).ow ss=rs at*
 simp only[aD,AX.d]at pt⊢
 simp[DV,HA,pt,b1,e]
theorem Uz{p q:Nat}{x:Rat}{ss:Gc Rat}{j i:Nat}(hs:∀r∈ss,Sz j r)(hx:Sz i x)(hj:2*j+i<=7900)(hp:p<ss.length)(hq:q<ss.length)(hpq:p≠q):∃S',Ed [(AX.Ht p q x).d,shD ss] S=Fk (shD (Hd p q x ss),S')/\Cv [] S S':=by
 have sp:=hs _ (getD_mem (d:=0) hp)
 have sq:=hs _ (getD_mem (d:=0) hq)
 have l1:∀S,GU [aD (ss.getD p 0),aD x] S=Fk (aD (ss.getD p 0*x),S):=λS=>Yu sp hx (by lia)
 have s1:=OI sp hx
 have l2:∀S,Hk [aD (ss.getD p 0),aD (ss.getD p 0*x)] S=Fk (aD (ss.getD p 0-ss.getD p 0*x),S):=λS=>cW sp s1 (by lia)
 have l3:∀S,Hw [aD (ss.getD q 0),aD (ss.getD p 0*x)] S=Fk (aD (ss.getD q 0+ss.getD p 0*x),S):=λS=>cS sq s1 (by lia)
 have a1:=Uu hp
 have a2:=Uu hq
 have i1:=Y8 hp
 have i2:ixN (((ss.map aD).set p (aD (ss.getD p 0-ss.getD p 0*x))).length) (q:Int)=Fk q:=L7 (by simpa using hq)
 refine⟨S++[.lst ((Hd p q x ss).map aD)],?_,.app⟩
 simp only[qR,oa]at i1 i2
 have em:(Hd p q x ss).map aD=((ss.map aD).set p (aD (ss.getD p 0-ss.getD p 0*x))).set q (aD (ss.getD q 0+ss.getD p 0*x)):=by rw[Hd,qT,qT]
 unfold shD
 rw[em]
 generalize aD (ss.getD p 0-ss.getD p 0*x)=d1 at*
 generalize aD (ss.getD q 0+ss.getD p 0*x)=d2 at*
 generalize aD (ss.getD p 0*x)=d3 at*
 generalize aD (ss.getD p 0)=d4 at*
 generalize aD (ss.getD q 0)=d5 at*
 simp[Ed,JC,AX.d,a1,a2,l1,l2,l3,i1,i2]
end
theorem Pr{α:Type}{gs:Gd}{t:Tf}{f:Ev}{C:En}{m:Nat}{e g:α->D}(hg:∀S,gOk gs S):∀{xs:Gc α} {acc:Gc D} {os:En} {S:Sto},os.length=m->acc.length+xs.length<=sizeLine->(∀x∈xs,∀os S,os.length=m->∃us S',us.length=m/\t (e x) (C++os) S=Fk (C++us)/\f (C++us) S=Fk (g x,S')/\Cv [] S S')->∃S',Cb gs t De f (xs.map e) acc (C++os) S=Fk (acc++xs.map g,S')/\Cv [] S S'
 | [],acc,os,S,ho,hz,h=>⟨S,by rw[qB,FR (hg S)];simp,.refl⟩
 |x::xs,acc,os,S,ho,hz,h=>by
  obtain⟨us,S1,hu,e1,e2,s1⟩:=h x nT os S ho
  obtain⟨S2,e3,s2⟩:=Pr hg (xs:=xs) (acc:=acc++[g x]) (os:=us) (S:=S1) hu (by simp at hz ⊢; lia) λx' hx=>h x' (nK _ hx)
  refine⟨S2,?_,s1.trans s2⟩
  rw[oG,Ip (hg S) (by simp at hz;lia) e1 HE,e2,By,e3]
  simp
section
variable{S:Sto}{st:Stt}{t:Tr}{k:Nat}
noncomputable def shB(t:Tr)(st:Stt):AX->Gc Rat->Gc Rat
 | .thr i n ws,ss=>IQ (Jn t st.AE i n ws) (AR st.AE i).ow ss
 | .Ht p q x,ss=>Hd p q x ss
 |_,ss=>ss
theorem PY{d:AX}{ss:Gc Rat}(ht:K4 t)(h:Gb t k st)(hk:k<=17)(hc:Can t st d)(hs:∀r∈ss,Sz (30+170*k) r)(hl:ss.length=t.p):∃S',Ac [t.d,Bh st.AE,Kf st.AE,d.d,shD ss] S=Fk (shD (shB t st d ss),S')/\Cv [] S S':=by
 have tp:=ht.2.1
 cases d with
 |thr i n ws=>
  have e:=VQ (S:=S) ht h hk hc hs (by lia)
  refine⟨S,?_,.refl⟩
  simp only[AX.d]at e⊢
  simp[Ac,BF,e,shB]
 |Ht p q x=>
  obtain⟨hpq,hp,hq,x1,x2,x3⟩:=hc
  have hx:Sz 4 x:=by
   refine⟨?_,by lia⟩
   show x.num.natAbs<16
   lia
  obtain⟨S',e,sm⟩:=Uz (S:=S) (p:=p) (q:=q) hs hx (by lia) (by lia) (by lia) hpq
  refine⟨S',?_,sm⟩
  simp only[AX.d]at e⊢
  simp[Ac,BF,e,shB]
 |Hu p kd n=>exact⟨S,by simp[Ac,BF,AX.d,shB],.refl⟩
 |JT i j=>exact⟨S,by simp[Ac,BF,AX.d,shB],.refl⟩
 |swap i g kd n=>exact⟨S,by simp[Ac,BF,AX.d,shB],.refl⟩
 |G4 u i g kd n=>exact⟨S,by simp[Ac,BF,AX.d,shB],.refl⟩
 |IP i n=>exact⟨S,by simp[Ac,BF,AX.d,shB],.refl⟩
theorem VG{d:AX}:(step t st d).hold=shB t st d st.hold:=by cases d<;>rfl
theorem Kv{i:Nat}{n:Int}{ls:Gc Ld}(hi:i<ls.length){β:Type}(f:Gc Rat->β):(less ls i n).map (λx=>f x.ow)=ls.map λx=>f x.ow:=by
 rw[RG,qT]
 have:(ls.map λx=>f x.ow)[i]?=Fk (f (AR ls i).ow):=by rw[nY,Gm hi];rfl
 apply uG
 intro j
 by_cases e:i=j
 .subst e;rw[nZ (by simpa using hi),this]
 .rw[nN e]
@[simp] theorem j7{ls:List Ld}:sqD S (Kf ls)=some (ls.map λx=>shD x.ow,[]):=nr rfl
theorem Up{d:AX}(ht:K4 t)(h:Gb t k st)(hk:k<=17)(hc:Can t st d):∃S',Al [t.d,Bh st.AE,Kf st.AE,d.d] S=Fk (Kf (step t st d).AE,S')/\Cv [] S S':=by
 have hlen:=h.len
 have sz:=h.sz
 have tp:=ht.2.1
 obtain⟨S',e,sm⟩:=Pr (gs:=[]) (t:=tNm 4) (f:=AJ Ac [eV 0,eV 1,eV 2,eV 3,eV 4]) (C:=[Fk t.d,Fk (Bh st.AE),Fk (Kf st.AE),Fk d.d]) (m:=1) (e:=λx:Ld=>shD x.ow) (g:=λx=>shD (shB t st d x.ow)) (λ_=>Aw) (xs:=st.AE) (acc:=[]) (os:=[nD]) (S:=S) rfl (nR (show _<=50 by simp;lia) (AS (by decide))) (by
  intro x hx os S0 ho
  obtain⟨q1,rfl⟩:=Qz ho
  obtain⟨S1,e1,s1⟩:=PY (S:=S0) (d:=d) (ss:=x.ow) ht h hk hc (sz.1 x hx) (h.own x hx)
  refine⟨[Fk (shD x.ow)],S1,rfl,by simp,?_,s1⟩
  simp[e1])
 simp only[oZ,oY]at e
 refine⟨S',?_,sm⟩
 have hz:(st.AE.map λx=>shD (shB t st d x.ow)).length+1<=sizeLine:=nR (show _<=100 by simp;lia) (AS (by decide))
 cases d with
 |Hu p kd n=>
  have a1:=Oy (S:=S') (P:=t.p) (p:=p) (by lia)
  have ef:Kf (step t st (.Hu p kd n)).AE=.lst ((st.AE.map λx=>shD (shB t st (.Hu p kd n) x.ow))++[shD (VS t.p p)]):=by simp[Kf,step,shB]
  rw[ef]
  generalize (st.AE.map λx=>shD (shB t st (.Hu p kd n) x.ow))=A at*
  simp only[AX.d,Tr.d]at e⊢
  simp[Al,BG,e,a1,hz]
 |JT i j=>
  have a1:=UJ (S:=S') ht h hk hc
  obtain⟨hij,hi,hj,h1,h2,h3⟩:=hc
  have e0:AR (less st.AE i (AR st.AE i).n) j=AR st.AE j:=by
   unfold AR less
   rw[nW,nN hij,<-nW]
  have ef:Kf (step t st (.JT i j)).AE=.lst ((st.AE.map λx=>shD (shB t st (.JT i j) x.ow))++[shD (Cc (AR st.AE i).n (AR st.AE j).n (AR st.AE i).ow (AR st.AE j).ow)]):=by
   show D.lst ((less (less st.AE i (AR st.AE i).n) j (AR st.AE j).n++[_]).map λx:Ld=>shD x.ow)=_
   rw[pU,Kv (by rw[Eg];exact hj),Kv hi]
   rfl
  rw[ef]
  generalize (st.AE.map λx=>shD (shB t st (.JT i j) x.ow))=A at*
  simp only[AX.d]at e a1⊢
  simp[Al,BG,e,a1,hz]
 |swap i g kd n=>
  have hi:=hc.1
  have a1:=UD (S:=S') (st:=st) (i:=i) (kd:=kd) (g:=g) (n:=n) hi
  have ef:Kf (step t st (.swap i g kd n)).AE=.lst ((st.AE.map λx=>shD (shB t st (.swap i g kd n) x.ow))++[shD (AR st.AE i).ow]):=by
   show D.lst ((less st.AE i g++[_]).map λx:Ld=>shD x.ow)=_
   rw[pU,Kv hi]
   rfl
  rw[ef]
  generalize (st.AE.map λx=>shD (shB t st (.swap i g kd n) x.ow))=A at*
  simp only[AX.d]at e a1⊢
  simp[Al,BG,e,a1,hz]
 |G4 u i g kd n=>
  have hi:=hc.1
  have a1:=Ta (S:=S') (st:=st) (i:=i) (kd:=kd) (u:=u) (g:=g) (n:=n) hi
  have ef:Kf (step t st (.G4 u i g kd n)).AE=.lst ((st.AE.map λx=>shD (shB t st (.G4 u i g kd n) x.ow))++[shD (AR st.AE i).ow]):=by
   show D.lst ((less st.AE i g++[_]).map λx:Ld=>shD x.ow)=_
   rw[pU,Kv hi]
   rfl
  rw[ef]
  generalize (st.AE.map λx=>shD (shB t st (.G4 u i g kd n) x.ow))=A at*
  simp only[AX.d]at e a1⊢
  simp[Al,BG,e,a1,hz]
 |IP i n=>
  have ef:Kf (step t st (.IP i n)).AE=.lst (st.AE.map λx=>shD (shB t st (.IP i n) x.ow)):=by
   show D.lst ((less st.AE i n).map λx:Ld=>shD x.ow)=_
   rw[Kv hc.1]
   rfl
  rw[ef]
  generalize (st.AE.map λx=>shD (shB t st (.IP i n) x.ow))=A at*
  simp only[AX.d]at e⊢
  simp[Al,BG,e]
 |thr i n ws=>
  have ef:Kf (step t st (.thr i n ws)).AE=.lst (st.AE.map λx=>shD (shB t st (.thr i n ws) x.ow)):=by
   show D.lst (((less st.AE i n).map _).map λx:Ld=>shD x.ow)=_
   rw[om]
   exact congrArg D.lst (Kv hc.1 (λo=>shD (IQ (Jn t st.AE i n ws) (AR st.AE i).ow o)))
  rw[ef]
  generalize (st.AE.map λx=>shD (shB t st (.thr i n ws) x.ow))=A at*
  simp only[AX.d]at e⊢
  simp[Al,BG,e]
 |Ht p q x=>
  have ef:Kf (step t st (.Ht p q x)).AE=.lst (st.AE.map λy=>shD (shB t st (.Ht p q x) y.ow)):=by
   show D.lst ((st.AE.map _).map λy:Ld=>shD y.ow)=_
   rw[om]
   rfl
  rw[ef]
  generalize (st.AE.map λy=>shD (shB t st (.Ht p q x) y.ow))=A at*
  simp only[AX.d]at e⊢
  simp[Al,BG,e]
@[simp] theorem ib{ls:List Ld}:sqD S (Bh ls)=some (ls.map hD,[]):=nr rfl
theorem Ny{ls:Gc Ld}{x y:D}(hl:ls.length<=50):CJ [.tup [x,.tup (ls.map Ld.d),y]] S=Fk (Bh ls,S):=by
 have e:=FF (gs:=[]) (t:=tNm 0) (f:=EM [eOp (o2 wIx) [eV 0,eC (.int 0)],eOp (o2 wIx) [eV 0,eC (.int 1)]]) (C:=[]) (m:=1) (e:=Ld.d) (g:=hD) (S:=S) Aw (xs:=ls) (acc:=[]) (os:=[nD]) rfl (nR (show _<=50 by simp;lia) (AS (by decide))) (by
  intro x hx os ho
  obtain⟨q1,rfl⟩:=Qz ho
  refine⟨[Fk x.d],rfl,by simp,?_⟩
  simp[Ld.d,hD])
 simp only[oY]at e
 simp[CJ,HU,e,Bh]
theorem T7{ls:Gc Ld}(hl:ls.length<=50):Cb [] (tNm 0) De (eOp (o2 wIx) [eV 0,eC (.int 2)]) (ls.map Ld.d) [] [nD] S=Fk (ls.map λx=>shD x.ow,S):=
 FF (gs:=[]) (t:=tNm 0) (f:=eOp (o2 wIx) [eV 0,eC (.int 2)]) (C:=[]) (m:=1) (e:=Ld.d) (g:=λx=>shD x.ow) (S:=S) Aw (xs:=ls) (acc:=[]) (os:=[nD]) rfl (nR (show _<=50 by simp;lia) (AS (by decide))) (by
  intro x hx os ho
  obtain⟨q1,rfl⟩:=Qz ho
  refine⟨[Fk x.d],rfl,by simp,?_⟩
  simp[Ld.d])
theorem Xv{ls:Gc Ld}{ds:Gc AX}{n:Nat}(h:CZ t ls ds)(hn:n<=ds.length):∃S',Gg [Ai t ls ds,.int n] S=Fk (.tup [Bh (runs t (st0 t ls) (ds.take n)).AE,Kf (runs t (st0 t ls) (ds.take n)).AE,shD (runs t (st0 t ls) (ds.take n)).hold],S')/\Cv [] S S':=by
 have hl0:ls.length<=4:=h.inv.len
 have ct:Mg (ds.map AX.d) nD (Fk (n:Int))=(ds.take n).map AX.d:=by rw[L3 (by simpa using hn),uM]
 obtain⟨E',S',ef,i,o,f1,f2,rfl,f3⟩:=IS (gs:=[]) (t:=tNm 8) (b:=Ae (CA 7 (AJ Ac [eV 2,eV 5,eV 6,eV 8,eV 7]))
  (Ae (CA 6 (AJ Al [eV 2,eV 5,eV 6,eV 8]))
  (CA 5 (AJ Am [eV 5,eV 8]))))
  (I:=λrs E S'=>∃(i:Nat) (o:nG D),rs=((ds.take n).drop i).map AX.d/\i<=n/\E=[Fk (Ai t ls ds),Fk (.int n),Fk t.d,Fk (.tup (ls.map Ld.d)),Fk (.tup (ds.map AX.d)),Fk (Bh (runs t (st0 t ls) (ds.take i)).AE),Fk (Kf (runs t (st0 t ls) (ds.take i)).AE),Fk (shD (runs t (st0 t ls) (ds.take i)).hold),o]/\Cv [] S S')
  (λ_ _ _ _=>Aw) (ds:=(ds.take n).map AX.d) (E:=[Fk (Ai t ls ds),Fk (.int n),Fk t.d,Fk (.tup (ls.map Ld.d)),Fk (.tup (ds.map AX.d)),Fk (Bh ls),Fk (Kf ls),Fk (shD t.ho),nD]) (S:=S)
  ⟨0,nD,by simp,qv _,by simp[runs,st0],.refl⟩ (by
    rintro dd rs E T ⟨i,o,i1,i2,rfl,i3⟩
    have hlt:i<(ds.take n).length:=by
     rcases uo i (ds.take n).length with w|w
     .exact w
     .rw[qS w]at i1;cases i1
    rw[pH hlt,oG]at i1
    injection i1 with z1 z2
    subst z1 z2
    have hlt':i<ds.length:=by simp at hlt;lia
    have hin:i<n:=by simp at hlt;lia
    have hg:(ds.take n)[i]=ds[i]:=List.getElem_take
    rw[hg]
    have inv:=h.at i
    have il:(ds.take i).length<=16:=by have:=h.len;simp;lia
    have can:=PK h.good (nM hlt')
    obtain⟨T1,e1,s1⟩:=PY (S:=T) h.tr inv (by lia) can inv.sz.2 inv.hold
    obtain⟨T2,e2,s2⟩:=Up (S:=T1) h.tr inv (by lia) can
    have e3:=QO (S:=T2) inv (by lia) can
    have rt:=P8 (t:=t) (st:=st0 t ls) (nM hlt')
    refine⟨_,[Fk (Ai t ls ds),Fk (.int n),Fk t.d,Fk (.tup (ls.map Ld.d)),Fk (.tup (ds.map AX.d)),Fk (Bh (runs t (st0 t ls) (ds.take (i+1))).AE),Fk (Kf (runs t (st0 t ls) (ds.take (i+1))).AE),Fk (shD (runs t (st0 t ls) (ds.take (i+1))).hold),Fk ds[i].d],T2,by simp;rfl,?_,i+1,Fk ds[i].d,rfl,hin,rfl,(i3.trans s1).trans s2⟩
    rw[rt]
    rw[<-VG]at e1
    simp[e1,e2,e3])
 have hz:i=n:=by
  have:=congrArg uB f1
  simp at this
  lia
 subst hz
 refine⟨S',?_,f3⟩
 have fh:=Ny (S:=S) (ls:=ls) (x:=t.d) (y:=.tup (ds.map AX.d)) (by lia)
 have fo:=T7 (S:=S) (ls:=ls) (by lia)
 have fo':D.lst (ls.map λx=>shD x.ow)=Kf ls:=rfl
 have th:atI [D.int t.p,D.int t.k,D.int t.b,shD t.ho,D.int t.h,D.int t.l] 3=Fk (shD t.ho):=by simp
 simp only[Ai]at ef⊢
 have td:wIx (.val t.d) (.val (.int 3))=Fk (.val (shD t.ho)):=by simp[Tr.d]
 have dt:dr S t.d=.val t.d:=rfl
 rw[uM]at ef ct
 simp[Gg,LJ,fh,fo,fo',-bQ,td,dt,ct,ef]
theorem Na{ls:Gc Ld}{ds:Gc AX}(h:CZ t ls ds):EY [Ai t ls ds] S=Fk (.non,S):=by
 have hl0:ls.length<=4:=h.inv.len
 have hd:=h.len
 obtain⟨E',S',ef,i,o1,o2,f1,f2,rfl,rfl⟩:=IS (gs:=[]) (t:=tTp [tNm 3,tNm 4]) (b:=Ae (xIf (Sl (AJ CU [eV 1,eOp (NK false true) [eV 2,eV 3],eV 4])) (BQ (eV 3)) Et)
  (CA 1 (AJ Am [eV 1,eV 4])))
  (I:=λrs E S'=>∃(i:Nat) (o1 o2:nG D),rs=(Qh 0 (ds.map AX.d)).drop i/\i<=ds.length/\E=[Fk (Ai t ls ds),Fk (Bh (runs t (st0 t ls) (ds.take i)).AE),Fk (.tup (ds.map AX.d)),o1,o2]/\S'=S)
  (λ_ _ _ _=>Aw) (ds:=Qh 0 (ds.map AX.d)) (E:=[Fk (Ai t ls ds),Fk (Bh ls),Fk (.tup (ds.map AX.d)),nD,nD]) (S:=S)
  ⟨0,nD,nD,by simp,qv _,by simp[runs,st0],rfl⟩ (by
    rintro dd rs E T ⟨i,o1,o2,i1,i2,rfl,rfl⟩
    have el:(Qh 0 (ds.map AX.d)).length=ds.length:=by rw[M8];simp
    have hlt:i<ds.length:=by
     rcases uo i ds.length with w|w
     .exact w
     .rw[qS (by lia)]at i1;cases i1
    rw[pH (by lia)]at i1
    injection i1 with z1 z2
    have hd1:dd=.tup [.int i,ds[i].d]:=by
     have:=Ll (ds:=ds.map AX.d) (k:=0) (i:=i)
     rw[nM (by lia),<-z1,nY,nM hlt]at this
     simpa using this
    subst z2
    subst hd1
    have inv:=h.at i
    have il:(ds.take i).length<=16:=by simp;lia
    have can:=PK h.good (nM hlt)
    have cd:=T4 (S:=T) (ds:=ds.take i) (by lia) VP can
    have e3:=QO (S:=T) inv (by lia) can
    have rt:=P8 (t:=t) (st:=st0 t ls) (nM hlt)
    have ct:=L3 (ds:=ds.map AX.d) (n:=i) (by simp;lia)
    rw[uM]at cd
    refine⟨_,[Fk (Ai t ls ds),Fk (Bh (runs t (st0 t ls) (ds.take (i+1))).AE),Fk (.tup (ds.map AX.d)),Fk (.int i),Fk ds[i].d],T,by simp;rfl,?_,i+1,Fk (.int i),Fk ds[i].d,rfl,hlt,rfl,rfl⟩
    rw[rt]
    simp[ct,cd,e3])
 have fh:=Ny (S:=S') (ls:=ls) (x:=t.d) (y:=.tup (ds.map AX.d)) (by lia)
 simp only[Ai]at ef⊢
 simp[EY,Ij,fh,ef]
theorem KH{ls:Gc Ld}{ds:Gc AX}(h:CZ t ls ds):A4 [Ai t ls ds] S=Fk (.non,S):=by
 have e:=Na (S:=S) h
 simp[A4,HR,e,isN]
end
section
variable{S:Sto}
theorem ZX{ns:Gc Int}{k:Nat}:∃c,Cg [.scr ns,.int k] S=Fk (.int c,S):=by
 by_cases h:k<ns.length
 .have h':(k:Int)<ns.length:=by lia
  refine⟨ns[k],?_⟩
  have e:atI (ns.map D.int) (k:Int)=Fk (.int ns[k]):=DB (by rw[nY,nM h];rfl)
  simp[Cg,Hv,h,h',e]
 .have h':¬(k:Int)<ns.length:=by lia
  exact⟨0,by simp[Cg,Hv,h,h']⟩
end
section
variable{E:En}{S:Sto}{f g k o:Ev}{d:D}{es:Gc (Key×D)}
@[simp] theorem jJ:evP [] E S=some ([],S):=nr rfl
@[simp] theorem ff{r:List (Ev×Ev)}:evP ((k,f)::r) E S=(k E S).bind λa=>(gi a.1).bind λkk=>(f E a.2).bind λb=>(evP r E b.2).map λq=>((kk,b.1)::q.1,q.2):=nr rfl
@[simp] theorem fZ{x:Str}:gi (.str x)=some (.inr x):=nr rfl
@[simp] theorem cY{cf:Bool}{fs:List (Ev×Ev)}:Tw cf fs E S=(evP fs E S).map λr=>YE cf (Ni [] r.1) r.2:=nr rfl
@[simp] theorem kR:YE false es S=(.dct es,S):=nr rfl
end
inductive Pt:D->Prop
 |non:Pt .non
 |bl (b:oQ):Pt (.bl b)
 |int (i:Int):Pt (.int i)
 |str (x:Str):Pt (.str x)
 |tup (ds:Gc D):Pt (.tup ds)
 |lst (ds:Gc D):Pt (.lst ds)
 |dct (kvs:Gc (Key×D)):Pt (.dct kvs)
noncomputable def ptI:D->oQ
 | .int _=>true
 |_=>false
noncomputable def ptF(lo:Int):D->oQ
 | .int i=>decide (lo<=i)
 |_=>false
noncomputable def ptW(lo hi:Int):D->oQ
 | .int i=>decide (lo<=i) && decide (i<=hi)
 |_=>false
section
variable{S:Sto}{d:D}{p:Nat}
@[simp] theorem hU:kdW (.val .non)=some .non:=nr rfl
@[simp] theorem kl{b:Bool}:kdW (.val (.bl b))=some .bl:=nr rfl
@[simp] theorem jj{i:Int}:kdW (.val (.int i))=some .int:=nr rfl
@[simp] theorem iY{x:Str}:kdW (.val (.str x))=some .str:=nr rfl
@[simp] theorem jN{ds:List D}:kdW (.val (.tup ds))=some .tup:=nr rfl
@[simp] theorem gz{ds:List D}:kdW (.val (.lst ds))=some .lst:=nr rfl
@[simp] theorem jn{ds:List (Key×D)}:kdW (.val (.dct ds))=some .dct:=nr rfl
theorem U7(h:Pt d):FZ [d] S=Fk ((.bl (ptI d)),S):=by
 cases h<;>simp[FZ,Iz,St.Kd.isA,ptI]
theorem We(h:Pt d)(lo:Int):GW [d,.int lo] S=Fk ((.bl (ptF lo d)),S):=by
 have w:=U7 (S:=S) h
 cases h<;>simp[GW,Jc,w,ptI,ptF]
theorem TH(h:Pt d)(lo hi:Int):DX [d,.int lo,.int hi] S=Fk ((.bl (ptW lo hi d)),S):=by
 have w:=We (S:=S) h lo
 cases h with
 |int i=>by_cases c:lo<=i<;>simp[DX,Fx,w,ptF,ptW,c]
 |_=>simp[DX,Fx,w,ptF,ptW]
theorem Q3{n:Nat}:Bl (n+1)=Aq (A1 4 (Jb (Bl n))):=rfl
noncomputable def K1:Gc D:=[.non,.bl true,.bl false,.int 0,.int 1,.int (-1),.int 9,.int (10^39),.str "",.str "a",.tup [],.lst []]
theorem TY:∀x∈K1,Pt x:=by
 intro x hx
 simp only[K1,nO,oB,pO]at hx
 rcases hx with rfl|rfl|rfl|rfl|rfl|rfl|rfl|rfl|rfl|rfl|rfl|rfl
 all_goals constructor
def Q6:Ev:=(JJ [eC .non,eC (.bl true),eC (.bl false),eC (.int 0),eC (.int 1),eOp (o1 O6) [eC (.int 1)],eC (.int 9),eOp (o2 Xl) [eC (.int 10),eC (.int 39)],eC (.str ""),eC (.str "a"),EM [],JJ []])
theorem ke:Xl (.val (.int 10)) (.val (.int 39))=Fk (.val (.int (10^39))):=by with_unfolding_all rfl
theorem Sx{E:En}:Q6 E S=Fk (.lst K1,S):=by
 have n1:O6 (.val (.int 1))=Fk (.val (.int (-1))):=rfl
 have sz:(12:Nat)<=sizeLine:=AS (by decide)
 simp[Q6,n1,ke,K1,sz]
theorem QE:∀{n d:Nat},d<n->∀{S:Sto},Ea p S->∃X S',Bl n [.ref p,.int d] S=Fk (X,S')/\Pt X/\Pn p S S'
 |0,d,h,_,_=>absurd h (by omega)
 |n+1,d,h,S,hp=>by
  obtain⟨way,S1,e1,w0,w1,p1⟩:=Ar hp (n:=12) (by decide) (by decide)
  rw[Q3]
  have eb:Jb (Bl n)=(Ae (CA 2 (AJ AK [eV 0,eC (.int 12)]))
  (Ae (xIf (eOr (eOp (o2 wLt) [eV 2,eC (.int 8)]) (eOp (o2 wEq) [eV 1,eC (.int 0)])) (BQ (eOp (o2 wIx) [Q6,AJ AK [eV 0,eC (.int 12)]])) Et)
  (Ae (CA 3 (EF [0,1] 1 (Qe [AJ AK [eV 0,eC (.int 4)]]) (tNm 2) De (AJ (Bl n) [eV 0,eOp (o2 QS) [eV 1,eC (.int 1)]])))
  (Ae (xIf (eOp (o2 wEq) [eV 2,eC (.int 8)]) (BQ (eV 3)) Et)
  (Ae (xIf (eOp (o2 wEq) [eV 2,eC (.int 9)]) (BQ (d6 [((eC (.str "a")),(eV 3))])) Et)
  (BQ (eOp (o1 D8) [eV 3]))))))):=rfl
  rw[eb]
  by_cases c:way<8\/d=0
  .obtain⟨r,S2,e2,r0,r1,p2⟩:=Ar p1.pen (n:=12) (by decide) (by decide)
   obtain⟨x,ax,hx⟩:=pick (xs:=K1) r0 (by simpa[K1]using r1)
   refine⟨x,S2,?_,TY x hx,p1.trans p2⟩
   have k:=λE=>Sx (S:=S1) (E:=E)
   rcases Decidable.em (way<8)with c1|c1
   .simp[e1,c1,k,e2,ax]
   .have c2:d=0:=c.resolve_left c1
    subst c2
    simp[e1,c1,k,e2,ax]
  .have c1:¬way<8:=λz=>c (.inl z)
   have c2:¬d=0:=λz=>c (.inr z)
   obtain⟨r,S2,e2,r0,r1,p2⟩:=Ar p1.pen (n:=4) (by decide) (by decide)
   obtain⟨k,rfl⟩:=IJ r0
   have rk:KP (k:Int)=true:=FC (by omega) (by omega)
   obtain⟨ys,S3,e3,i3,l3,r3⟩:=L4 (gs:=[]) (t:=tNm 2) (f:=AJ (Bl n) [eV 0,eOp (o2 QS) [eV 1,eC (.int 1)]]) (C:=[Fk (.ref p),Fk (.int d)]) (m:=1) (I:=λT=>Pn p S2 T) (R:=λ_ y=>x5) (λ_ _=>Aw) (ds:=Jr 0 k) (acc:=[]) (os:=[nD]) (S:=S2) rfl (.refl p2.pen) (AS (by simp[Gv];omega)) (by
    intro dd hd os T ho hI
    match os,ho with
    | [a],_=>
    obtain⟨X,T',ex,hX,hP⟩:=QE (n:=n) (d:=d-1) (by omega) hI.pen
    refine⟨[Fk dd],X,T',rfl,by simp,?_,hI.trans hP,trivial⟩
    have ec:(d:Int)-1=((d-1:Nat):Int):=by omega
    simp[ec,ex])
   have pn:=(p1.trans p2).trans i3
   simp only[oY,oZ]at e3
   have c2':((d:Int)==0)=false:=by simpa using c2
   have tn:(k:Int).toNat=k:=by omega
   by_cases w8:way=8
   .subst w8
    refine⟨.lst ys,S3,?_,.lst _,pn⟩
    simp[e1,c2',e2,rk,Qv,e3,tn]
   .have w8':(way==8)=false:=by simpa using w8
    by_cases w9:way=9
    .subst w9
     refine⟨.dct (Ni [] [(.inr "a",.lst ys)]),S3,?_,.dct _,pn⟩
     simp[e1,c2',e2,rk,Qv,e3,tn]
    .have w9':(way==9)=false:=by simpa using w9
     refine⟨.tup ys,S3,?_,.tup _,pn⟩
     simp[e1,c1,c2',e2,rk,Qv,e3,tn,w8',w9']
end
section
end
theorem Ok.add{G B C:Nat}{r q:Rat}(h:Ok G B r)(g:Ok G C q):Ok G (B+C) (r+q):=by
 obtain⟨z,e1,h1⟩:=h
 obtain⟨y,e2,h2⟩:=g
 refine⟨z+y,?_,xl h1 h2⟩
 push_cast
 rw[<-e1,<-e2]
 grind
theorem Ok.mono{G B C:Nat}{r:Rat}(h:Ok G B r)(g:B<=C):Ok G C r:=by
 obtain⟨z,e,hz⟩:=h
 exact⟨z,e,nR hz g⟩
theorem Ok.kM{G B N:Nat}{r:Rat}{n:Int}(h:Ok G B r)(h0:0<=n)(h1:n<=N):Ok G (B*N) ((n:Rat)*r):=by
 obtain⟨z,e,hz⟩:=h
 refine⟨z*n.toNat,?_,tq hz (by lia)⟩
 push_cast
 rw[IW h0,<-e]
 grind
theorem Ok.int{G:Nat}{n:Int}{N:Nat}(h0:0<=n)(h1:n<=N):Ok G (G*N) (n:Rat):=by
 have:=(Ok.one (G:=G) (B:=G) (nS _)).kM (N:=N) h0 h1
 have e:(n:Rat)*1=(n:Rat):=by grind
 rwa [e]at this
theorem ae:aD 0=.tup [.int 0,.int 1]:=rfl
noncomputable def ownAt(x:Ld)(p:Nat):Rat:=x.ow.getD p 0
noncomputable def kindS(ls:Gc Ld)(p kd:Nat):Rat:=((ls.filter λx=>x.k==kd).map λx=>(x.n:Rat)*ownAt x p).sum
noncomputable def A9(k:Nat)(ls:Gc Ld)(p:Nat):Gc Rat:=(oF k).map (kindS ls p)
theorem Sv{ls:Gc Ld}{x:Ld}{p kd:Nat}:kindS (ls++[x]) p kd=if x.k=kd then kindS ls p kd+(x.n:Rat)*ownAt x p else kindS ls p kd:=by
 unfold kindS
 rw[List.filter_append,pU,xG]
 by_cases h:x.k=kd
 .simp[h];grind
 .simp[h];grind
theorem SX{ls:Gc Ld}{x:Ld}{p kd:Nat}:kindS (x::ls) p kd=(if x.k=kd then(x.n:Rat)*ownAt x p else 0)+kindS ls p kd:=by
 unfold kindS
 rw[List.filter_cons]
 by_cases h:x.k=kd
 .simp[h]
 .simp[h];grind
theorem Qj{k:Nat}{ls:Gc Ld}{x:Ld}{p:Nat}:A9 k (ls++[x]) p=(A9 k ls p).set x.k (kindS ls p x.k+(x.n:Rat)*ownAt x p):=by
 unfold A9
 apply wt
 .simp
 .intro i h1 h2
  rw[List.getElem_set]
  simp only[List.getElem_map,List.getElem_range,Sv]
  by_cases h:x.k=i
  .subst h;simp
  .simp[h]
structure Bd(ls:Gc Ld)(G B N K:Nat):Prop where
 g0:0<G
 gK:G<2^K
 hK:2*K<=7000
 own:∀l∈ls,∀r∈l.ow,Ok G B r
 pcs:∀l∈ls,0<=l.n/\l.n<=N
 hB:B<2^K
 hN:N<2^K
 hb:200*(B*N)<2^K
 len:ls.length<=30
section
variable{S:Sto}{ls:Gc Ld}{G B N K:Nat}
theorem Bd.at(h:Bd ls G B N K){x:Ld}(hx:x∈ls)(p:Nat):Ok G B (ownAt x p):=by
 unfold ownAt
 rw[nW]
 cases e:x.ow[p]? with
 |none=>exact Ok.zero
 |some r=>exact h.own x hx r (ni e)
theorem Bd.mul(h:Bd ls G B N K){x:Ld}(hx:x∈ls)(p:Nat):Ok G (B*N) ((x.n:Rat)*ownAt x p):=(h.at hx p).kM (h.pcs x hx).1 (h.pcs x hx).2
theorem Ri{G C:Nat}{p kd:Nat}:∀{ls:Gc Ld},(∀l∈ls,Ok G C ((l.n:Rat)*ownAt l p))->Ok G (ls.length*C) (kindS ls p kd)
 | [],_=>Ok.zero
 |x::ls,h=>by
  rw[SX]
  have ih:=Ri (kd:=kd) (ls:=ls) λl hl=>h l (nK _ hl)
  have h1:Ok G C (if x.k=kd then(x.n:Rat)*ownAt x p else 0):=by
   split
   .exact h x nT
   .exact Ok.zero
  have:=h1.add ih
  rw[pD,yq,ui]
  exact this
theorem Bd.kind(h:Bd ls G B N K){p kd:Nat}:Ok G (30*(B*N)) (kindS ls p kd):=(Ri λl hl=>h.mul hl p).mono (pS _ h.len)
theorem Bd.take(h:Bd ls G B N K)(i:Nat):Bd (ls.take i) G B N K:=⟨h.g0,h.gK,h.hK,λl hl=>h.own l (vO hl),λl hl=>h.pcs l (vO hl),h.hB,h.hN,h.hb,by have:=h.len;simp;lia⟩
theorem Bd.nSz(h:Bd ls G B N K){x:Ld}(hx:x∈ls):Sz K (x.n:Rat):=by
 have o:=Ok.int (G:=1) (h.pcs x hx).1 (h.pcs x hx).2
 refine o.sz (by decide) ?_ (by rw[Nat.one_mul];exact h.hN)
 have:=h.gK;have:=h.g0;lia
theorem aY{n:Nat}:Jr 0 (n:Int).toNat=(oF n).map λ(i:Nat)=>D.int i:=by simp[Jr]
theorem TL{k p:Nat}:(A9 k [] p).map aD=nh k (.tup [.int 0,.int 1]):=by
 apply wt
 .simp[A9]
 .intro i h1 h2
  simp[A9,kindS,ae]
end
theorem QM{α:Type}{gs:Gd}{t:Tf}{f:Ev}{C:En}{m:Nat}{e g:α->D}{S0:Sto}(hg:∀S,Cv [] S0 S->gOk gs S):∀{xs:Gc α} {acc:Gc D} {os:En} {S:Sto},os.length=m->Cv [] S0 S->acc.length+xs.length<=sizeLine->(∀x∈xs,∀os S,os.length=m->Cv [] S0 S->∃us S',us.length=m/\t (e x) (C++os) S=Fk (C++us)/\f (C++us) S=Fk (g x,S')/\Cv [] S0 S')->∃S',Cb gs t De f (xs.map e) acc (C++os) S=Fk (acc++xs.map g,S')/\Cv [] S0 S'
 | [],acc,os,S,ho,hS,hz,h=>⟨S,by rw[qB,FR (hg S hS)];simp,hS⟩
 |x::xs,acc,os,S,ho,hS,hz,h=>by
  obtain⟨us,S1,hu,e1,e2,s1⟩:=h x nT os S ho hS
  obtain⟨S2,e3,s2⟩:=QM hg (acc:=acc++[g x]) hu s1 (by simp at hz ⊢; lia) λx' hx=>h x' (nK _ hx)
  refine⟨S2,?_,s2⟩
  rw[oG,Ip (hg S hS) (by simp at hz;lia) e1 HE,e2,By,e3]
  simp
theorem Gb.bd{t:Tr}{k:Nat}{s:Stt}(h:Gb t k s)(hk:k<=16):∃G B N K,Bd s.AE G B N K:=by
 obtain⟨G,B,g0,gb,b,h1,h2⟩:=h.gb
 have hB:B<2^2750:=nQ b (oV (by decide) (by lia))
 have hB':B<2^3000:=nQ hB (oV (by decide) (by decide))
 have hN:(2^147:Nat)<2^148:=Nat.pow_lt_pow_right (by decide) (by decide)
 refine⟨G,B,2^147,3000,g0,oq gb hB',by decide,h1,λl hl=>?_,hB',nQ hN (oV (by decide) (by decide)),?_,by have:=h.len;lia⟩
 .have:=h.pcs l hl
  refine⟨this.1,?_⟩
  have e:(2:Int)^(131+k)<=((2^147:Nat):Int):=by
   have:(2:Nat)^(131+k)<=2^147:=oV (by decide) (by lia)
   exact_mod_cast this
  lia
 .have:=D0 (show 200<2^8 by decide) (D0 hB hN)
  exact nQ this (oV (by decide) (by decide))
section
variable{S:Sto}{t:Tr}{ls:Gc Ld}{ds:Gc AX}{n:Nat}
theorem bh{x:Ld}{p:Nat}(h:p<x.ow.length):atI (x.ow.map aD) (p:Int)=Fk (aD (ownAt x p)):=DB (by
 rw[nY,nM h]
 simp[ownAt,nW,nM h])
theorem ig{ls:Gc Ld}{p:Nat}{T:Sto}(h:∀l∈ls,p<l.ow.length)(hl:ls.length<=30):Cb [] (tNm 1) De (eOp (o2 wIx) [eV 1,eV 0]) (ls.map λx=>shD x.ow) [] [Fk (.int p),nD] T=Fk (ls.map (λx=>aD (ownAt x p)),T):=
 FF (gs:=[]) (t:=tNm 1) (f:=eOp (o2 wIx) [eV 1,eV 0]) (C:=[Fk (.int p)]) (m:=1) (e:=λx:Ld=>shD x.ow) (g:=λx=>aD (ownAt x p)) (S:=T) Aw (xs:=ls) (acc:=[]) (os:=[nD]) rfl (nR (show _<=50 by simp;lia) (AS (by decide))) (by
  intro x hx os ho
  obtain⟨o1,rfl⟩:=Qz ho
  have a:=bh (h x hx)
  refine⟨[Fk (shD x.ow)],rfl,by simp,?_⟩
  simp[shD,a])
end
section
variable{S:Sto}{t:Tr}{ls L:Gc Ld}{ds:Gc AX}{G B N K p:Nat}
noncomputable def MD(rs qs:Gc Rat):Gc Rat:=sN (λa b=>a-b) rs qs
theorem eX{F:Fn}(hF:∀{j k:Nat} {p q:Rat} (S:Sto),Sz j p->Sz k q->j+k<=7990->F [aD p,aD q] S=Fk (aD (p-q),S)){rs qs:Gc Rat}{j k:Nat}(h1:∀r∈rs,Sz j r)(h2:∀r∈qs,Sz k r)(hj:j+k<=7990)(hl:rs.length<=50):Cb [] (tTp [tNm 0,tNm 1]) De (AJ F [eV 0,eV 1]) (NF (rs.map aD) (qs.map aD)) [] [nD,nD] S=Fk ((MD rs qs).map aD,S):=by
 have e:=FF (gs:=[]) (t:=tTp [tNm 0,tNm 1]) (f:=AJ F [eV 0,eV 1]) (C:=[]) (m:=2) (e:=λz:Rat×Rat=>D.tup [aD z.1,aD z.2]) (g:=λz=>aD (z.1-z.2)) (S:=S) Aw (xs:=rs.zip qs) (acc:=[]) (os:=[nD,nD]) rfl (nR (show _<=50 by simp;omega) (AS (by decide))) (by
  intro z hz os ho
  obtain⟨q1,q2,rfl⟩:=Yx ho
  have hm:=pf (a:=z.1) (b:=z.2) hz
  have l:=hF S (h1 _ hm.1) (h2 _ hm.2) hj
  refine⟨[Fk (aD z.1),Fk (aD z.2)],rfl,by simp,?_⟩
  generalize aD (z.1-z.2)=D1 at*
  simp[l])
 rw[<-SA]at e
 have em:(rs.zip qs).map (λz=>aD (z.1-z.2))=(MD rs qs).map aD:=by
  unfold MD
  rw[<-sP,om]
  rfl
 rw[em]at e
 exact e
end
theorem YJ:(D.str "bring").lay=true/\(D.str "pool").lay=true/\(D.str "swap").lay=true/\(D.str "trade").lay=true/\(D.str "spoil").lay=true/\(D.str "throw").lay=true/\(D.str "sell").lay=true:=by decide+kernel
theorem WZ{d:AX}:d.d.lay=true:=by
 obtain⟨w1,w2,w3,w4,w5,w6,w7⟩:=YJ
 have hw:∀ws:Gc Int,(D.tup (ws.map D.int)).lay=true:=λws=>Li λ_ _=>rfl
 have ha:∀r:Rat,(aD r).lay=true:=λ_=>rfl
 have hi:∀i:Int,(D.int i).lay=true:=λ_=>rfl
 have ht:∀ds:Gc D,(D.tup ds).lay=D.Qd ds:=λ_=>rfl
 have hc:∀(d:D) (ds:Gc D),D.Qd (d::ds)=(d.lay && D.Qd ds):=λ_ _=>rfl
 have hn:D.Qd []=true:=rfl
 cases d with
 |thr l n ws=>
  have:=hw ws
  generalize hq:D.tup (ws.map D.int)=q at*
  simp only[AX.d,hq,ht,hc,hn,hi,w6,this,yP]
 |_=>simp only[AX.d,ht,hc,hn,hi,ha,w1,w2,w3,w4,w5,w7,yP]
section
variable{S:Sto}{t:Tr}{ls L:Gc Ld}{ds:Gc AX}
end
noncomputable def kn(x:Ld):Nat×Int:=(x.k,x.n)
structure Sim(s s':Stt):Prop where
 kn:s.AE.map kn=s'.AE.map kn
 nums:s.nums=s'.nums
section
variable{s s':Stt}{t:Tr}{d:AX}
theorem YQ{ls:Gc Ld}{l:Nat}:kn (AR ls l)=(ls.map kn).getD l (0,0):=by
 unfold AR
 rw[nW,nW,nY]
 cases ls[l]?<;>rfl
theorem Sim.at(h:Sim s s')(l:Nat):(AR s.AE l).k=(AR s'.AE l).k/\(AR s.AE l).n=(AR s'.AE l).n:=by
 have e:Mi.kn (AR s.AE l)=Mi.kn (AR s'.AE l):=by rw[YQ,YQ,h.kn]
 exact⟨congrArg zw e,congrArg zx e⟩
theorem Sim.len(h:Sim s s'):s.AE.length=s'.AE.length:=by
 have:=congrArg uB h.kn
 simpa using this
theorem Kh{ls ls':Gc Ld}{l:Nat}{n:Int}(h:ls.map kn=ls'.map kn):(less ls l n).map kn=(less ls' l n).map kn:=by
 have e:kn (AR ls l)=kn (AR ls' l):=by rw[YQ,YQ,h]
 unfold less
 rw[qT,qT,h]
 have e1:(AR ls l).k=(AR ls' l).k:=congrArg zw e
 have e2:(AR ls l).n=(AR ls' l).n:=congrArg zx e
 simp only[kn,e1,e2]
theorem Sim.can(h:Sim s s')(hc:Can t s d):Can t s' d:=by
 have hk:=λl=>(h.at l).1
 have hn:=λl=>(h.at l).2
 cases d<;>simp only[Can,hk,hn,h.len,h.nums]at hc⊢ <;>exact hc
theorem Sim.step(h:Sim s s'):Sim (step t s d) (step t s' d):=by
 have hk:=λl=>(h.at l).1
 have hn:=λl=>(h.at l).2
 cases d with
 |Hu p k n=>exact⟨by simp only[Mi.step,pU,h.kn],h.nums⟩
 |JT a b=>
  refine⟨?_,h.nums⟩
  simp only[Mi.step,pU,hn]
  rw[Kh (Kh h.kn)]
  simp only[oG,qB,Mi.kn,hk,hn]
 |swap l g k n=>
  refine⟨?_,h.nums⟩
  simp only[Mi.step,pU]
  rw[Kh h.kn]
  rfl
 |G4 u l g k n=>
  refine⟨?_,by simp only[Mi.step,h.nums]⟩
  simp only[Mi.step,pU]
  rw[Kh h.kn]
  rfl
 |IP l n=>exact⟨Kh h.kn,h.nums⟩
 |thr l n ws=>
  refine⟨?_,h.nums⟩
  simp only[Mi.step,om]
  exact Kh h.kn
 |Ht p q x=>
  refine⟨?_,h.nums⟩
  simp only[Mi.step,om]
  exact h.kn
theorem Sim.good:∀{ds:Gc AX} {s s':Stt},Sim s s'->Kr t s ds->Kr t s' ds
 | [],_,_,_,_=>trivial
 |d::ds,s,s',h,g=>⟨h.can g.1,Sim.good h.step g.2⟩
theorem Wm{p q:Nat}{x:Rat}:Sim (step t s (.Ht p q x)) s:=⟨by simp only[Mi.step,om];rfl,rfl⟩
theorem Nn{p q:Nat}{x:Rat}:∀{ds:Gc AX} {i:Nat} {s:Stt},Kr t s ds->ds[i]?=Fk (.Ht p q x)->Kr t s (ds.eraseIdx i)
 |d::ds,0,s,g,h=>by
  simp at h
  subst h
  exact Wm.good g.2
 |d::ds,i+1,s,g,h=>⟨g.1,Nn g.2 (by simpa using h)⟩
theorem CZ.erase{ls:Gc Ld}{ds:Gc AX}{i p q:Nat}{x:Rat}(h:CZ t ls ds)(hi:ds[i]?=Fk (.Ht p q x)):CZ t ls (ds.eraseIdx i):=
 ⟨h.tr,h.inv,Nn h.good hi,nR (by rw[List.length_eraseIdx];split<;>omega) h.len⟩
end
theorem ZP{gs:Gd}{t:Tf}{b:Ex}{I:Gc D->En->Sto->Prop}{R:D->Sto->Prop}(hg:∀ds E S,I ds E S->gOk gs S):∀{ds:Gc D} {E:En} {S:Sto},I ds E S->(∀d ds E S,I (d::ds) E S->∃E1,t d E S=Fk E1/\((∃E2 S2,b E1 S=Fk (.nx,E2,S2)/\I ds E2 S2)\/∃w E2 S2,b E1 S=Fk (.ret w,E2,S2)/\R w S2))->(∃E' S',NT gs t b ds E S=Fk (.nx,E',S')/\I [] E' S')\/∃w E' S',NT gs t b ds E S=Fk (.ret w,E',S')/\R w S'
 | [],E,S,hI,h=>.inl ⟨E,S,PF (hg _ _ _ hI),hI⟩
 |d::ds,E,S,hI,h=>by
  obtain⟨E1,e1,⟨E2,S2,e2,I2⟩|⟨w,E2,S2,e2,r⟩⟩:=h d ds E S hI
  .rcases ZP hg I2 h with⟨E',S',e3,I3⟩|⟨w,E',S',e3,r⟩
   .exact .inl ⟨E',S',by rw[HP (hg _ _ _ hI),e1];simp[e2,e3],I3⟩
   .exact .inr ⟨w,E',S',by rw[HP (hg _ _ _ hI),e1];simp[e2,e3],r⟩
  .exact .inr ⟨w,E2,S2,by rw[HP (hg _ _ _ hI),e1];simp[e2],r⟩
section
variable{S:Sto}{ls:Gc Ld}{G B N K:Nat}
theorem av{k:Nat}(hk:k<=20){p:Nat}(hkind:∀l∈ls,l.k<k)(h:Bd ls G B N K):∃S',CS [.int k,Bh ls,.lst (ls.map λx=>aD (ownAt x p))] S=Fk (shD (A9 k ls p),S')/\Cv [] S S':=by
 have ez:NF (ls.map hD) (ls.map λx=>aD (ownAt x p))=ls.map λx=>.tup [hD x,aD (ownAt x p)]:=by
  unfold NF
  rw[yQ,om]
  rfl
 have hq:(S++[Cl.lst ((A9 k [] p).map aD)])[S.length]?=Fk (.lst ((A9 k [] p).map aD)):=oC
 generalize hQ:S.length=q at*
 obtain⟨E',S',ef,i,o4,o5,o6,f1,f2,rfl,f3,f4⟩:=IS (gs:=[]) (t:=tTp [tTp [tNm 5,tNm 6],tNm 4]) (b:=NI (AJ Hw [eOp (o2 wIx) [eV 3,eV 5],AJ GU [EM [eV 6,eC (.int 1)],eV 4]]) (eV 3) (eV 5))
  (I:=λrs E S'=>∃(i:Nat) (o4 o5 o6:nG D),rs=(ls.drop i).map (λx=>D.tup [hD x,aD (ownAt x p)])/\i<=ls.length/\E=[Fk (.int k),Fk (Bh ls),Fk (.lst (ls.map λx=>aD (ownAt x p))),Fk (.ref q),o4,o5,o6]/\S'[q]?=Fk (.lst ((A9 k (ls.take i) p).map aD))/\Cv [] S S')
  (λ_ _ _ _=>Aw) (ds:=ls.map λx=>D.tup [hD x,aD (ownAt x p)]) (E:=[Fk (.int k),Fk (Bh ls),Fk (.lst (ls.map λx=>aD (ownAt x p))),Fk (.ref q),nD,nD,nD]) (S:=S++[Cl.lst ((A9 k [] p).map aD)])
  ⟨0,nD,nD,nD,by simp,qv _,rfl,by simpa using hq,.app⟩ (by
    rintro dd rs E T ⟨i,o4,o5,o6,i1,i2,rfl,i3,i4⟩
    have hlt:i<ls.length:=by
     rcases uo i ls.length with w|w
     .exact w
     .rw[qS w]at i1;cases i1
    rw[pH hlt,oG]at i1
    injection i1 with z1 z2
    subst z1 z2
    have hm:ls[i]∈ls:=qu hlt
    have htk:ls.take (i+1)=ls.take i++[ls[i]]:=by rw[vG,nM hlt];rfl
    have tm:=Yu (S:=T) (h.nSz hm) ((h.at hm p).sz h.g0 h.gK h.hB) (by have:=h.hK;lia)
    rw[Yp]at tm
    have zb:30*(B*N)<2^K:=by have:=h.hb;lia
    have zb1:B*N<2^K:=by have:=h.hb;lia
    have pl:=cS (S:=T) ((h.take i).kind (p:=p) (kd:=ls[i].k)|>.sz h.g0 h.gK zb) ((h.mul hm p).sz h.g0 h.gK zb1) (by have:=h.hK;lia)
    have hkd:=hkind _ hm
    have at1:atI ((A9 k (ls.take i) p).map aD) (ls[i].k:Int)=Fk (aD (kindS (ls.take i) p ls[i].k)):=DB (by
     rw[nY,A9,nY,tF hkd];rfl)
    have ix1:ixN ((A9 k (ls.take i) p).map aD).length (ls[i].k:Int)=Fk ls[i].k:=L7 (by simp[A9];exact hkd)
    have ef:((A9 k (ls.take i) p).map aD).set ls[i].k (aD (kindS (ls.take i) p ls[i].k+(ls[i].n:Rat)*ownAt ls[i] p))=(A9 k (ls.take (i+1)) p).map aD:=by rw[htk,Qj,qT]
    have dq:=BE i3
    have cq:=AU i3
    generalize (A9 k (ls.take i) p).map aD=V at*
    generalize hx:ls[i]=x at*
    generalize aD (kindS (ls.take i) p x.k+(x.n:Rat)*ownAt x p)=D1 at*
    generalize aD ((x.n:Rat)*ownAt x p)=D2 at*
    generalize aD (kindS (ls.take i) p x.k)=D3 at*
    have lq:=i4.len
    refine⟨_,[Fk (.int k),Fk (Bh ls),Fk (.lst (ls.map λx=>aD (ownAt x p))),Fk (.ref q),Fk (aD (ownAt x p)),Fk (.int x.k),Fk (.int x.n)],T.set q (.lst (V.set x.k D1)),by simp;rfl,?_,i+1,_,_,_,rfl,hlt,rfl,by rw[<-ef];exact nZ (Ao i3),Cv.new (A:=[]) (B:=[q]) i4 (.set (by simp)) (by intro n hn';simp at hn';lia)⟩
    generalize aD (ownAt x p)=D4 at*
    simp[dq,at1,tm,pl,cq,ix1])
 have hz:i=ls.length:=by
  have:=congrArg uB f1
  simp at this
  lia
 subst hz
 rw[uX]at f3
 refine⟨S',?_,f4⟩
 have m1:CY (.val (.lst [Ef])) (.val (.int k))=Fk (.own ((A9 k [] p).map aD)):=by
  have hs:k<=sizeLine:=AS (by lia)
  have h1:(k:Int)<2^63:=by lia
  have h2: -(2:Int)^63<=k:=by lia
  rw[TL,SH,oP (by simp[hs];lia)]
  simp[Pk,Ef]
 have df:=BE f3
 generalize (A9 k [] p).map aD=V0 at*
 rw[show shD (A9 k ls p)=.tup ((A9 k ls p).map aD)from rfl]
 generalize (A9 k ls p).map aD=V1 at*
 have dh:sqD (S++[Cl.lst V0]) (Bh ls)=Fk (ls.map hD,[]):=nr rfl
 simp[CS,HW,-SH,m1,hQ,dh,ez,ef,df]
end
section
variable{S:Sto}{t:Tr}{ls:Gc Ld}{ds:Gc AX}{n:Nat}
theorem az(h:CZ t ls ds)(hn:n<=ds.length):∃S',CF [Ai t ls ds,.int n] S=Fk (.lst ((oF t.p).map λp=>shD (A9 t.k (runs t (st0 t ls) (ds.take n)).AE p)),S')/\Cv [] S S':=by
 obtain⟨S1,e1,s1⟩:=Xv (S:=S) h hn
 have il:(ds.take n).length<=16:=by have:=h.len;simp;lia
 have inv:=h.at n
 obtain⟨G,B,N,K,bd⟩:=inv.bd il
 have ho:=inv.own
 have hk:=inv.kind
 obtain⟨t1,t2,t3,t4,t5,t6⟩:=h.tr
 generalize (runs t (st0 t ls) (ds.take n)).AE=L at*
 generalize (runs t (st0 t ls) (ds.take n)).hold=Ho at*
 obtain⟨S2,e2,s2⟩:=QM (gs:=[]) (t:=tNm 3) (f:=AJ CS [eV 0,eV 1,EF [3] 1 (Lx (eV 2)) (tNm 1) De (eOp (o2 wIx) [eV 1,eV 0])]) (C:=[Fk (.int t.k),Fk (Bh L),Fk (Kf L)]) (m:=1) (e:=λp:Nat=>D.int p) (g:=λp=>shD (A9 t.k L p)) (S0:=S1) (λ_ _=>Aw) (xs:=oF t.p) (acc:=[]) (os:=[nD]) (S:=S1) rfl .refl (nR (show _<=50 by simp;lia) (AS (by decide))) (by
  intro p hp os T ho' hT
  obtain⟨o1,rfl⟩:=Qz ho'
  have hp':p<t.p:=by simpa using hp
  have pc:=ig (ls:=L) (p:=p) (T:=T) (λl hl=>by rw[ho l hl];exact hp') bd.len
  obtain⟨T2,e3,s3⟩:=av (S:=T) (k:=t.k) (by lia) (p:=p) hk bd
  refine⟨[Fk (.int p)],T2,rfl,by simp,?_,hT.trans s3⟩
  have dh:sqD T (Kf L)=Fk (L.map (λx=>shD x.ow),[]):=nr rfl
  simp[dh,Qv,pc,e3])
 refine⟨S2,?_,s1.trans s2⟩
 have rk:KP (t.p:Int)=true:=FC (by lia) (by lia)
 have ct:Mg [D.int t.p,D.int t.k,D.int t.b,shD t.ho,D.int t.h,D.int t.l] nD (Fk 2)=[.int t.p,.int t.k]:=nr rfl
 have td:wSl nD (Fk 2) (.val t.d)=Fk (.val (.tup [.int t.p,.int t.k])):=nr rfl
 have dt:dr S t.d=.val t.d:=rfl
 rw[<-aY]at e2
 simp only[Ai]at e1⊢
 simp only[oY,oZ,sE]at e2
 simp[CF,IU,dt,td,e1,rk,Qv,e2]
end
section
variable{S:Sto}{t:Tr}{ls L:Gc Ld}{ds:Gc AX}{G B N K p:Nat}
theorem CZ.fin(h:CZ t ls ds):Gb t ds.length (runs t (st0 t ls) ds):=by
 have:=h.at ds.length
 rwa [uX]at this
theorem SE(h:CZ t ls ds):∃S',CF [Ai t ls ds,.int ds.length] S=Fk (.lst ((oF t.p).map λp=>shD (A9 t.k (runs t (st0 t ls) ds).AE p)),S')/\Cv [] S S':=by
 have:=az (S:=S) h (n:=ds.length) (nS _)
 rwa [uX]at this
theorem RQ(h:Bd L G B N K){k:Nat}:∀r∈A9 k L p,Sz K r:=by
 intro r hr
 obtain⟨kd,_,rfl⟩:=oj.mp hr
 exact h.kind.sz h.g0 h.gK (by have:=h.hb;omega)
theorem QD{rs qs:Gc Rat}{j k:Nat}(h1:∀r∈rs,Sz j r)(h2:∀r∈qs,Sz k r)(hj:j+k<=7990)(hl:rs.length<=50):EU [shD rs,shD qs] S=Fk (shD (MD rs qs),S):=by
 have e:=eX (S:=S) (F:=Hk) (λS a b c=>cW a b c) h1 h2 hj hl
 simp[EU,KC,shD,e]
end
section
variable{S:Sto}{t:Tr}{ls L:Gc Ld}{ds:Gc AX}{i p q:Nat}{x:Rat}
theorem aq(h:ds[i]?=Fk (.Ht p q x)):atI (ds.map AX.d) (i:Int)=Fk (AX.Ht p q x).d:=DB (by rw[nY,h];rfl)
theorem Nm(h:ds[i]?=Fk (.Ht p q x)):Au [Ai t ls ds,.int i] S=Fk (.non,S):=by
 have hi:i<ds.length:=(nP.mp h).1
 have h1:(i:Int)<=(ds.length:Int)-1:=by lia
 have k1:St.Kd.int.isA "int"=true:=by decide
 have k2:St.Kd.int.isA "bool"=false:=by decide
 have a:=aq h
 simp[k1,k2,Au,ES,Bb,EL,Ff,IZ,DX,Fx,GW,Jc,FZ,Iz,Ai,kdW,h1,a,AX.d]
theorem erase_eq{α:Type}{xs:Gc α}:xs.eraseIdx i=xs.take i++xs.drop (i+1):=List.eraseIdx_eq_take_drop_succ xs i
theorem VB{n:Nat}(hi:i<ds.length)(hl:ds.length<=50):Mg (ds.map AX.d) nD (Fk (i:Int))=(ds.take i).map AX.d/\Mg (ds.map AX.d) (Fk ((i:Int)+1)) nD=(ds.drop (i+1)).map AX.d/\((ds.take i).map AX.d).length+((ds.drop (i+1)).map AX.d).length<=sizeLine:=by
 refine⟨?_,?_,nR (show _<=100 by simp;lia) (AS (by decide))⟩
 .rw[L3 (by simp;lia),uM]
 .have:=SU (ds:=ds.map AX.d) (n:=i+1) (by simp;lia)
  rw[List.map_drop]
  simpa using this
theorem Io(hi:i<ds.length)(hl:ds.length<=50):Cq [Ai t ls ds,.int i] S=Fk (Ai t ls (ds.eraseIdx i),S):=by
 obtain⟨c1,c2,c3⟩:=VB (n:=0) hi hl
 rw[erase_eq]
 simp only[Ai,pU]
 generalize (ds.take i).map AX.d=A at*
 generalize (ds.drop (i+1)).map AX.d=B at*
 simp[Cq,IF,c1,c2,c3]
theorem Ub(h:CZ t ls ds)(hs:ds[i]?=Fk (.Ht p q x)):Bw [Ai t ls ds,.int i] S=Fk (Ai t ls (ds.eraseIdx i),S):=by
 have hi:i<ds.length:=(nP.mp hs).1
 have e1:=KH (S:=S) h
 have e2:=Nm (S:=S) (t:=t) (ls:=ls) hs
 have e3:=Io (S:=S) (t:=t) (ls:=ls) hi (by have:=h.len;lia)
 simp[Bw,Kl,e1,e2,e3]
noncomputable def Z9(t:Tr)(A B:Gc Ld):Gc D:=(oF t.p).map λp=>shD (MD (A9 t.k A p) (A9 t.k B p))
theorem Uq(h:CZ t ls ds)(hs:ds[i]?=Fk (.Ht p q x)):∃S',A5 [Ai t ls ds,.int i] S=Fk (.tup (Z9 t (runs t (st0 t ls) ds).AE (runs t (st0 t ls) (ds.eraseIdx i)).AE),S')/\Cv [] S S':=by
 have hi:i<ds.length:=(nP.mp hs).1
 have e1:=KH (S:=S) h
 have e2:=Nm (S:=S) (t:=t) (ls:=ls) hs
 have e3:=Io (S:=S) (t:=t) (ls:=ls) hi (by have:=h.len;lia)
 have hE:=h.erase hs
 obtain⟨S1,e4,s1⟩:=SE (S:=S) h
 obtain⟨S2,e5,s2⟩:=SE (S:=S1) hE
 obtain⟨G,B,N,K,bd⟩:=h.fin.bd (by have:=h.len;lia)
 obtain⟨G',B',N',K',bd'⟩:=hE.fin.bd (by have:=hE.len;lia)
 obtain⟨t1,t2,t3,t4,t5,t6⟩:=h.tr
 generalize (runs t (st0 t ls) ds).AE=LA at*
 generalize (runs t (st0 t ls) (ds.eraseIdx i)).AE=LB at*
 have e:=FF (gs:=[]) (t:=tTp [tNm 0,tNm 1]) (f:=AJ EU [eV 0,eV 1]) (C:=[]) (m:=2) (e:=λp:Nat=>D.tup [shD (A9 t.k LA p),shD (A9 t.k LB p)]) (g:=λp=>shD (MD (A9 t.k LA p) (A9 t.k LB p))) (S:=S2) Aw (xs:=oF t.p) (acc:=[]) (os:=[nD,nD]) rfl (nR (show _<=50 by simp;lia) (AS (by decide))) (by
  intro z hz os ho
  obtain⟨q1,q2,rfl⟩:=Yx ho
  have l:=QD (S:=S2) (RQ bd (k:=t.k) (p:=z)) (RQ bd' (k:=t.k) (p:=z)) (by have:=bd.hK;have:=bd'.hK;lia) (by simp[A9];lia)
  refine⟨[Fk (shD (A9 t.k LA z)),Fk (shD (A9 t.k LB z))],rfl,by simp,?_⟩
  simp[l])
 have ez:NF ((oF t.p).map λp=>shD (A9 t.k LA p)) ((oF t.p).map λp=>shD (A9 t.k LB p))=(oF t.p).map λp=>D.tup [shD (A9 t.k LA p),shD (A9 t.k LB p)]:=by
  unfold NF
  rw[yQ,om]
  rfl
 rw[<-ez]at e
 refine⟨S2,?_,s1.trans s2⟩
 have w1:∀(ds:Gc AX),eOp (o1 Lf) [eOp (o2 wIx) [eV 0,eC (.int 2)]] [Fk (Ai t ls ds)] S=Fk (.int ds.length,S):=λds=>by simp[Ai]
 simp only[Ai]at e1 e2 e3 e4 e5⊢
 rw[show(oF t.p).map (λp=>shD (MD (A9 t.k LA p) (A9 t.k LB p)))=Z9 t LA LB from rfl]at e
 generalize (oF t.p).map (λp=>shD (A9 t.k LA p))=RA at*
 generalize (oF t.p).map (λp=>shD (A9 t.k LB p))=RB at*
 simp only[oY]at e
 generalize Z9 t LA LB=TD at*
 simp[A5,Hm,e1,e2,e3,e4,e5,e]
noncomputable def HV:AX->oQ
 | .Ht .. =>true
 |_=>false
theorem Ue{d:AX}(h:HV d=true):∃p q x,d=.Ht p q x:=by
 cases d with
 |Ht p q x=>exact⟨p,q,x,rfl⟩
 |_=>cases h
theorem QP{E:En}{w:Nat}{d:AX}(h:at? E w=Fk d.d){v:Nat}(hv:at? E v=Fk (.str "sell")):eOp (o2 wEq) [eOp (o2 wIx) [eV w,eC (.int 0)],eV v] E S=Fk (.bl (HV d),S):=by
 cases d<;>simp[h,hv,AX.d,HV]
theorem Ug(hl:ds.length<=50):D7 [Ai t ls ds,.str "sell"] S=Fk (.lst (((oF ds.length).filter λi=>HV (ds.getD i (.JT 0 0))).map λ(i:Nat)=>D.int i),S):=by
 have e:=Fi (gs:=[]) (t:=tTp [tNm 1,tNm 2]) (c:=eOp (o2 wEq) [eOp (o2 wIx) [eV 2,eC (.int 0)],eV 0]) (f:=eV 1) (C:=[Fk (.str "sell")]) (m:=2) (e:=λ(i:Nat)=>D.tup [.int i,(ds.map AX.d).getD i .non]) (g:=λ(i:Nat)=>D.int i) (b:=λi=>HV (ds.getD i (.JT 0 0))) (S:=S) Aw (xs:=oF ds.length) (acc:=[]) (os:=[nD,nD]) rfl (nR (show _<=50 by simp;lia) (AS (by decide))) (by
  intro z hz os ho
  obtain⟨q1,q2,rfl⟩:=Yx ho
  have hz':z<ds.length:=by simpa using hz
  have ed:(ds.map AX.d).getD z .non=(ds.getD z (.JT 0 0)).d:=by
   rw[nW,nW,nY,nM hz'];rfl
  refine⟨[Fk (.int z),Fk (ds.getD z (.JT 0 0)).d],rfl,by rw[ed];simp,?_,by simp⟩
  exact QP rfl rfl)
 have er:=M8 (ds:=ds.map AX.d)
 rw[oa]at er
 rw[<-er]at e
 simp only[oY,oZ]at e
 simp[D7,LM,Ai,Qv,e]
end
section
variable{S:Sto}{t:Tr}{ls:Gc Ld}{ds:Gc AX}
noncomputable def B1(ds:Gc AX):D->oQ
 | .int i=>decide (0<=i) && decide (i<=(ds.length:Int)-1) && HV (ds.getD i.toNat (.JT 0 0))
 |_=>false
theorem QB{X:D}(h:B1 ds X=true):∃(i p q:Nat) (x:Rat),X=.int i/\ds[i]?=Fk (.Ht p q x):=by
 cases X with
 |int i=>
  simp only[B1,nU,rD]at h
  obtain⟨⟨h0,h1⟩,h2⟩:=h
  obtain⟨n,rfl⟩:=rh h0
  have hn:n<ds.length:=by lia
  obtain⟨p,q,x,e⟩:=Ue h2
  refine⟨n,p,q,x,rfl,?_⟩
  rw[nW]at e
  rw[nM hn]
  have hz:((n:Int).toNat)=n:=rfl
  rw[hz,nM hn]at e
  exact congrArg Fk e
 |_=>cases h
theorem Xb{X:D}(h:Pt X):Ff [Ai t ls ds,X] S=Fk (.bl (ptW 0 ((ds.length:Int)-1) X),S):=by
 have w:=TH (S:=S) h 0 ((ds.length:Int)-1)
 simp[Ff,IZ,Ai,w]
theorem RC{X:D}(h:Pt X):Bb [Ai t ls ds,.str "sell",X] S=Fk (.bl (B1 ds X),S):=by
 have pl:=Xb (S:=S) (t:=t) (ls:=ls) (ds:=ds) h
 by_cases w:ptW 0 ((ds.length:Int)-1) X=true
 .cases X with
  |int i=>
   simp only[ptW,nU,rD]at w
   obtain⟨n,rfl⟩:=rh w.1
   have hn:n<ds.length:=by lia
   have a:atI (ds.map AX.d) (n:Int)=Fk (ds.getD n (.JT 0 0)).d:=DB (by rw[nY,nW,nM hn];rfl)
   have hs:B1 ds (.int n)=HV (ds.getD n (.JT 0 0)):=by
    have h2:((n:Int)<=(ds.length:Int)-1):=w.2
    simp[B1,h2]
   rw[hs]
   have hw:ptW 0 ((ds.length:Int)-1) (.int n)=true:=by simp[ptW,w.2]
   rw[hw]at pl
   generalize ds.getD n (.JT 0 0)=dd at*
   simp only[Ai]at pl⊢
   cases dd<;>simp[Bb,EL,pl,a,AX.d,HV]
  |_=>cases w
 .have w':ptW 0 ((ds.length:Int)-1) X=false:=by simpa using w
  rw[w']at pl
  have hs:B1 ds X=false:=by
   cases X with
   |int i=>
    simp only[ptW]at w'
    simp only[B1,w',xP]
   |_=>rfl
  rw[hs]
  generalize Ai t ls ds=bk at*
  simp[Bb,EL,pl]
theorem Pe{X:D}(hX:Pt X)(w:B1 ds X=false):Au [Ai t ls ds,X] S=nD/\As [Ai t ls ds,X] S=Fk (("NoSale":Str),S):=by
 have pl:=RC (S:=S) (t:=t) (ls:=ls) (ds:=ds) hX
 rw[w]at pl
 generalize Ai t ls ds=bk at*
 constructor
 .have xs:∀E S,QC E S=none:=λ_ _=>rfl
  simp[Au,ES,pl,xs]
 .unfold As
  rw[Jh]
  have e3:(Sl (AJ Bb [eV 0,eC (.str "sell"),eV 1])) [Fk bk,Fk X] S=Fk (.bl true,S):=by simp[pl]
  show(ET [Fk bk,Fk X] S).map _=_
  unfold ET rIf
  rw[e3]
  show sY _ (RP _ _ _ _)=_
  unfold RP
  simp
theorem Rb{X:D}(h:CZ t ls ds)(hX:Pt X)(w:B1 ds X=false):Bw [Ai t ls ds,X] S=nD/\Cr [Ai t ls ds,X] S=Fk (("NoSale":Str),S):=by
 have r1:=KH (S:=S) h
 obtain⟨n1,n2⟩:=Pe (S:=S) (t:=t) (ls:=ls) hX w
 generalize Ai t ls ds=bk at*
 constructor
 .simp[Bw,Kl,r1,n1]
 .unfold Cr
  rw[Jh]
  have e1:(EV (AJ A4 [eV 0])) [Fk bk,Fk X] S=Fk (.nx,[Fk bk,Fk X],S):=by simp[r1]
  have e2:Er As [eV 0,eV 1] [Fk bk,Fk X] S=Fk (("NoSale":Str),[Fk bk,Fk X],S):=by
   unfold Er
   simp[n2]
  show(Kp [Fk bk,Fk X] S).map _=_
  unfold Kp Y6 rNo
  dsimp only
  rw[e1]
  show sY _ (match Er As [eV 0,eV 1] [Fk bk,Fk X] S with|some z=>Fk z|none=>_)=_
  rw[e2]
  rfl
theorem Rc{X:D}(h:CZ t ls ds)(hX:Pt X)(w:B1 ds X=false):A5 [Ai t ls ds,X] S=nD/\Ba [Ai t ls ds,X] S=Fk (("NoSale":Str),S):=by
 have r1:=KH (S:=S) h
 obtain⟨n1,n2⟩:=Pe (S:=S) (t:=t) (ls:=ls) hX w
 generalize Ai t ls ds=bk at*
 constructor
 .simp[A5,Hm,r1,n1]
 .unfold Ba
  rw[Jh]
  have e1:(EV (AJ A4 [eV 0])) [Fk bk,Fk X,nD,nD,nD] S=Fk (.nx,[Fk bk,Fk X,nD,nD,nD],S):=by simp[r1]
  have e2:Er As [eV 0,eV 1] [Fk bk,Fk X,nD,nD,nD] S=Fk (("NoSale":Str),[Fk bk,Fk X,nD,nD,nD],S):=by
   unfold Er
   simp[n2]
  show(Hq [Fk bk,Fk X,nD,nD,nD] S).map _=_
  unfold Hq Y6 rNo
  dsimp only
  rw[e1]
  show sY _ (match Er As [eV 0,eV 1] [Fk bk,Fk X,nD,nD,nD] S with|some z=>Fk z|none=>_)=_
  rw[e2]
  rfl
noncomputable def hdS:Str->Ex:=gOr ["NoSale"] "NoSale" (BQ (eC (.bl true))) gNo
theorem Od{S:Sto}:hdS "NoSale" [nD] S=Fk (.ret (.bl true),[nD],S):=by
 unfold hdS gOr
 rw[oP (by simp),oP (by decide)]
 simp
theorem UW{x:Str}{HZ:Gc Nat}{F:Ev}{R:Rx}{c0:D}{h:Str->Ex}{E:En}{S S':Sto}{d:D}(hT:S.any (Vd x)=true)(e:F (Qt HZ E) S=Fk (d,S')):Qf x HZ F R c0 h E S=Fk (c0,S'):=by
 unfold Qf
 rw[oP hT,e]
theorem OU{x:Str}{HZ:Gc Nat}{F:Ev}{R:Rx}{c0 d:D}{h:Str->Ex}{E E' E2:En}{S S1 S2:Sto}{y:Str}(hT:S.any (Vd x)=true)(e:F (Qt HZ E) S=nD)(e1:R (Qt HZ E) S=Fk (y,E',S1))(e2:h y [nD] S1=Fk (.ret d,E2,S2)):Qf x HZ F R c0 h E S=Fk (d,S2):=by
 unfold Qf
 rw[oP hT,e]
 dsimp only
 rw[e1]
 show((h y [nD] S1).bind λz=>match z.1 with| .ret d=>Fk (d,z.2.2)| .nx=>nD)=_
 rw[e2]
 rfl
end
section
variable{S:Sto}{t:Tr}{ls:Gc Ld}{ds:Gc AX}{p:Nat}{x:Rat}
theorem iQ(hl:ds.length<=50):Cb [] (tNm 1) (eOp (o2 wEq) [eOp (o2 wIx) [eV 1,eC (.int 0)],eV 0]) (eV 1) (ds.map AX.d) [] [Fk (.str "sell"),nD] S=Fk ((ds.filter HV).map AX.d,S):=
 Fi (gs:=[]) (t:=tNm 1) (c:=eOp (o2 wEq) [eOp (o2 wIx) [eV 1,eC (.int 0)],eV 0]) (f:=eV 1) (C:=[Fk (.str "sell")]) (m:=1) (e:=AX.d) (g:=AX.d) (b:=HV) (S:=S) Aw (xs:=ds) (acc:=[]) (os:=[nD]) rfl (nR (show _<=50 by simp;lia) (AS (by decide))) (by
  intro z hz os ho
  obtain⟨q1,rfl⟩:=Qz ho
  exact⟨[Fk z.d],rfl,by simp,QP rfl rfl,by simp⟩)
theorem ne_nil{xs:Gc D}(h:D.Qd xs=true):wNe (.val (.lst xs)) (.val (.lst []))=Fk (.val (.bl (!xs.isEmpty))):=by
 rw[Qr,Yz,Yz,oP (SK h)]
 cases xs<;>rfl
theorem VN(h:Ea p S):∃t ls ds S',Dd [.ref p,.int 12,.str "sell"] S=Fk (Ai t ls ds,S')/\CZ t ls ds/\Ea p S'/\∀n c,S[n]?=Fk c->n≠p->S'[n]?=Fk c:=by
 obtain⟨t0,ls0,ds0,S0,e0,⟨b0,_⟩,_,p0,k0⟩:=SV (M:=12) (by decide) h
 rw[show((12:Nat):Int)=12 from rfl]at e0
 have r5:KP 5=true:=FC (by lia) (by lia)
 have hb:KJ=Ae (CA 3 (AJ EC [eV 0,eV 1]))
  (Ae (RF (Qe [eC (.int 5)]) (tNm 4) (Ae (xIf (eOp (o2 wNe) [EF [2] 1 (Lx (eOp (o2 wIx) [eV 3,eC (.int 2)])) (tNm 1) (eOp (o2 wEq) [eOp (o2 wIx) [eV 1,eC (.int 0)],eV 0]) (eV 1),JJ []]) (BQ (eV 3)) Et)
  (CA 3 (AJ EC [eV 0,eV 1]))))
  (BQ (eV 3))):=rfl
 rcases ZP (gs:=[]) (t:=tNm 4) (b:=Ae (xIf (eOp (o2 wNe) [EF [2] 1 (Lx (eOp (o2 wIx) [eV 3,eC (.int 2)])) (tNm 1) (eOp (o2 wEq) [eOp (o2 wIx) [eV 1,eC (.int 0)],eV 0]) (eV 1),JJ []]) (BQ (eV 3)) Et)
  (CA 3 (AJ EC [eV 0,eV 1])))
  (I:=λrs E S'=>∃t ls ds o,E=[Fk (.ref p),Fk (.int 12),Fk (.str "sell"),Fk (Ai t ls ds),o]/\CZ t ls ds/\Ea p S'/\∀n c,S[n]?=Fk c->n≠p->S'[n]?=Fk c)
  (R:=λw S'=>∃t ls ds,w=Ai t ls ds/\CZ t ls ds/\Ea p S'/\∀n c,S[n]?=Fk c->n≠p->S'[n]?=Fk c)
  (fun _ _ _ _ => Aw) (ds := Jr 0 (5 : Int).toNat) (E := [Fk (.ref p), Fk (.int 12), Fk (.str "sell"), Fk (Ai t0 ls0 ds0), nD]) (S := S0) ⟨t0, ls0, ds0, nD, rfl, b0, p0, k0⟩ (by
    rintro dd rs E T ⟨t,ls,ds,o,rfl,i1,i2,i3⟩
    have hl:=i1.len
    have c:=iQ (S:=T) (ds:=ds) (by lia)
    have nn:=ne_nil (xs:=(ds.filter HV).map AX.d) (Li λ_ _=>WZ)
    refine⟨[Fk (.ref p),Fk (.int 12),Fk (.str "sell"),Fk (Ai t ls ds),Fk dd],by simp,?_⟩
    generalize (ds.filter HV).map AX.d=Z at*
    cases hz:Z.isEmpty with
    |true=>
     left
     obtain⟨t1,ls1,ds1,S1,e1,⟨b1,_⟩,_,p1,k1⟩:=SV (M:=12) (by decide) i2
     rw[show((12:Nat):Int)=12 from rfl]at e1
     refine⟨[Fk (.ref p),Fk (.int 12),Fk (.str "sell"),Fk (Ai t1 ls1 ds1),Fk dd],S1,?_,t1,ls1,ds1,Fk dd,rfl,b1,p1,λn c e ne=>k1 n c (i3 n c e ne) ne⟩
     rw[hz]at nn
     simp[Ai,Qv,c,-Qr,nn,e1]
    |false=>
     right
     refine⟨Ai t ls ds,[Fk (.ref p),Fk (.int 12),Fk (.str "sell"),Fk (Ai t ls ds),Fk dd],T,?_,t,ls,ds,rfl,i1,i2,i3⟩
     rw[hz]at nn
     simp[Ai,Qv,c,-Qr,nn])with⟨E',S',ef,t,ls,ds,o,rfl,i1,i2,i3⟩|⟨w,E',S',ef,t,ls,ds,rfl,i1,i2,i3⟩
 .refine⟨t,ls,ds,S',?_,i1,i2,i3⟩
  unfold Dd
  rw[hb]
  simp[e0,r5]at ef⊢
  simp[ef]
 .refine⟨t,ls,ds,S',?_,i1,i2,i3⟩
  unfold Dd
  rw[hb]
  simp[e0,r5]at ef⊢
  simp[ef]
end
section
variable{S:Sto}{t:Tr}{ls:Gc Ld}{ds:Gc AX}{X:D}{e0 e1 e3 e5 e6:nG D}
def Tab(S:Sto):Prop:=S.any (Vd "law")=true
theorem Tab.of{n:Nat}(h:S[n]?=Fk (Cl.tab "law")):Tab S:=uW.mpr ⟨_,ni h,by decide⟩
def laU:Ev:=Qf "law" [2,4] (AJ Bw [eV 0,eV 1]) (Er Cr [eV 0,eV 1]) (.bl false) hdS
def laT:Ev:=Qf "law" [2,4] (AJ A5 [eV 0,eV 1]) (Er Ba [eV 0,eV 1]) (.bl false) hdS
theorem call2{F:Fn}{a b:D}:AJ F [eV 0,eV 1] [Fk a,Fk b] S=F [a,b] S:=by simp
theorem Yl{R:Rf}{a b:D}{y:Str}(h:R [a,b] S=Fk (y,S)):Er R [eV 0,eV 1] [Fk a,Fk b] S=Fk (y,[Fk a,Fk b],S):=by
 unfold Er
 simp[h]
theorem dc(hT:Tab S)(h:CZ t ls ds)(hX:Pt X):laU [e0,e1,Fk (Ai t ls ds),e3,Fk X,e5,e6] S=Fk (.bl (!B1 ds X),S):=by
 cases w:B1 ds X with
 |true=>
  obtain⟨i,p,q,x,rfl,hs⟩:=QB w
  exact UW hT (show AJ Bw _ [Fk (Ai t ls ds),Fk (.int i)] S=_ from call2.trans (Ub h hs))
 |false=>
  obtain⟨n1,n2⟩:=Rb (S:=S) h hX w
  exact OU hT (show AJ Bw _ [Fk (Ai t ls ds),Fk X] S=_ from call2.trans n1) (show Er Cr _ [Fk (Ai t ls ds),Fk X] S=_ from Yl n2) Od
theorem eW(hT:Tab S)(h:CZ t ls ds)(hX:Pt X):∃S',laT [e0,e1,Fk (Ai t ls ds),e3,Fk X,e5,e6] S=Fk (.bl (!B1 ds X),S')/\Cv [] S S':=by
 cases w:B1 ds X with
 |true=>
  obtain⟨i,p,q,x,rfl,hs⟩:=QB w
  obtain⟨S',e,s1⟩:=Uq (S:=S) h hs
  exact⟨S',UW hT (show AJ A5 _ [Fk (Ai t ls ds),Fk (.int i)] S=_ from call2.trans e),s1⟩
 |false=>
  obtain⟨n1,n2⟩:=Rc (S:=S) h hX w
  exact⟨S,OU hT (show AJ A5 _ [Fk (Ai t ls ds),Fk X] S=_ from call2.trans n1) (show Er Ba _ [Fk (Ai t ls ds),Fk X] S=_ from Yl n2) Od,.refl⟩
noncomputable def plL(ds:Gc AX):Gc D:=((oF ds.length).filter λi=>HV (ds.getD i (.JT 0 0))).map λ(i:Nat)=>D.int i
def gF:Ev:=(eOr (Sl (eOp (o2 X0) [eV 4,eC (.ty "int")])) (eOr (eOp (o2 X0) [eV 4,eC (.ty "bool")]) (eOp (o2 (wIn true)) [eV 4,eV 3])))
theorem i0{i:Int}:inD (.int i) (plL ds)=B1 ds (.int i):=by
 unfold plL
 rw[Bool.eq_iff_iff]
 unfold inD
 rw[uW]
 constructor
 .rintro ⟨y,hy,e⟩
  obtain⟨n,hn,rfl⟩:=oj.mp hy
  obtain⟨h1,h2⟩:=qd.mp hn
  have hi:(n:Int)=i:=by simpa using e
  subst hi
  have h1':n<ds.length:=by simpa using h1
  have h3:(n:Int)<=(ds.length:Int)-1:=by lia
  simp only[B1,nU,rD]
  exact⟨⟨by lia,h3⟩,h2⟩
 .intro h
  simp only[B1,nU,rD]at h
  obtain⟨⟨h0,h1⟩,h2⟩:=h
  obtain⟨n,rfl⟩:=rh h0
  refine⟨.int n,oj.mpr ⟨n,qd.mpr ⟨by simp;lia,h2⟩,rfl⟩,by simp⟩
theorem Zg:(plL ds).all IT=true:=by
 rw[wq]
 intro y hy
 obtain⟨n,_,rfl⟩:=oj.mp hy
 rfl
theorem aB(hX:Pt X):gF [e0,e1,Fk (Ai t ls ds),Fk (.lst (plL ds)),Fk X,e5,e6] S=Fk (.bl (!B1 ds X),S):=by
 have fp:=Zg (ds:=ds)
 have ip:=λi=>i0 (ds:=ds) (i:=i)
 generalize plL ds=PL at*
 cases hX with
 |int i=>
  have:=ip i
  simp[gF,St.Kd.isA,fp,this,IT]
 |_=>simp[gF,St.Kd.isA,B1]
def gD:Ex:=(Ae (CA 5 gF)
    (Ae (xIf (eOp (o2 wNe) [laU,eV 5]) (BQ (eC (.bl false))) Et)
    (xIf (eOp (o2 wNe) [laT,eV 5]) (BQ (eC (.bl false))) Et)))
theorem ak(hT:Tab S)(h:CZ t ls ds)(hX:Pt X):∃u5 S',gD [e0,e1,Fk (Ai t ls ds),Fk (.lst (plL ds)),Fk X,e5,e6] S=Fk (.nx,[e0,e1,Fk (Ai t ls ds),Fk (.lst (plL ds)),Fk X,u5,e6],S')/\Cv [] S S':=by
 have d1:=aB (S:=S) (t:=t) (ls:=ls) (ds:=ds) (X:=X) (e0:=e0) (e1:=e1) (e5:=e5) (e6:=e6) hX
 have d2:=dc (e0:=e0) (e1:=e1) (e3:=Fk (.lst (plL ds))) (e5:=Fk (.bl (!B1 ds X))) (e6:=e6) hT h hX
 obtain⟨S',d3,s1⟩:=eW (e0:=e0) (e1:=e1) (e3:=Fk (.lst (plL ds))) (e5:=Fk (.bl (!B1 ds X))) (e6:=e6) hT h hX
 have k1:Ej (.bl (!B1 ds X)) (.bl (!B1 ds X))=true:=nr rfl
 have k2:deq (.bl (!B1 ds X)) (.bl (!B1 ds X))=true:=by cases B1 ds X<;>rfl
 refine⟨Fk (.bl (!B1 ds X)),S',?_,s1⟩
 generalize (!B1 ds X)=B at*
 generalize Ai t ls ds=bk at*
 generalize plL ds=PL at*
 simp[gD,d1,d2,d3,k1,k2]
end
section
variable{S:Sto}{t:Tr}{ls:Gc Ld}{ds:Gc AX}{p:Nat}{e0 e3 e4 e5 e6:nG D}
@[simp] theorem iZ{cf:Bool}{f:Ev}{E:En}{S:Sto}:jL cf f E S=(f E S).bind (lrK cf):=nr rfl
@[simp] theorem jM{cf:Bool}{j:Int}{S:Sto}:lrK cf (.int j,S)=if(decide (0<=j) && decide (j<=1000))=true then fin cf (.own (Jr 0 j.toNat)) S else none:=nr rfl
theorem Cv.tab{S S':Sto}(h:Cv [] S S'){n:Nat}{c:Cl}(e:S[n]?=Fk c):S'[n]?=Fk c:=h.get e (by simp)
def jO:Ev:=(eOp (o2 EE) [eLR (eOp (o2 EE) [eOp (o1 Lf) [eIx (eV 2) (eI 2)],eI 2]),JJ [eOp (o1 O6) [eI 1],eC (.bl true),eC .non,eC (.str "0"),EM [eI 0],eOp (o2 Xl) [eI 10,eI 39],AJ (Bl 8) [eV 1,eI 2]]])
theorem aA(h:CZ t ls ds)(hp:Ea p S):∃L S',jO [e0,Fk (.ref p),Fk (Ai t ls ds),e3,e4,e5,e6] S=Fk (.lst L,S')/\(∀d∈L,Pt d)/\Pn p S S':=by
 obtain⟨X,S',e,hX,pn⟩:=QE (n:=8) (d:=2) (by decide) hp
 have hl:=h.len
 have e':Bl 8 [.ref p,.int 2] S=Fk (X,S'):=e
 have h1:(0:Int)<=(ds.length:Int)+2:=by lia
 have h2:(ds.length:Int)+2<=1000:=by lia
 have sz1:(1:Nat)<=sizeLine:=AS (by decide)
 have sz7:(7:Nat)<=sizeLine:=AS (by decide)
 have szL:(Jr 0 ((ds.length:Int)+2).toNat).length+7<=sizeLine:=nR (show _<=100 by rw[Gv];lia) (AS (by decide))
 have pw:=ke
 refine⟨Jr 0 ((ds.length:Int)+2).toNat++[.int (-1),.bl true,.non,.str "0",.tup [.int 0],.int (10^39),X],S',?_,λd hd=>?_,pn⟩
 .simp only[Ai]
  generalize hR:Jr 0 ((ds.length:Int)+2).toNat=RR at*
  simp[jO,h1,h2,hR,sz1,sz7,pw,e',szL]
 .rcases oD.mp hd with z|z
  .obtain⟨k,_,rfl⟩:=oj.mp z
   exact .int _
  .simp only[nO,oB,pO]at z
   rcases z with rfl|rfl|rfl|rfl|rfl|rfl|rfl
   .exact .int _
   .exact .bl _
   .exact .non
   .exact .str _
   .exact .tup _
   .exact .int _
   .exact hX
theorem ZY(h:CZ t ls ds):CZ t ls []:=⟨h.tr,h.inv,trivial,by simp⟩
theorem eQ(ns:Gc Int)(hl:ns.length<=63):∃S',Ma [.scr ns] [Cl.tab "law"]=Fk (.bl true,S'):=by
 obtain⟨c,ec⟩:=ZX (S:=[Cl.tab "law"]) (ns:=ns) (k:=0)
 obtain⟨p,S1,e1,p1,s1,l1⟩:=bf (S:=[Cl.tab "law"]) c
 have p0:0≠p:=by simp at l1;lia
 have t1:S1[0]?=Fk (Cl.tab "law"):=s1.tab rfl
 obtain⟨t,ls,ds,S2,e2,hb,p2,k2⟩:=VN p1
 have t2:=k2 0 _ t1 p0
 have e3:=Ug (S:=S2) (t:=t) (ls:=ls) (ds:=ds) (by have:=hb.len;lia)
 obtain⟨L,S3,e4,hL,p3⟩:=aA (S:=S2) (e0:=Fk (.scr ns)) (e3:=Fk (.lst (plL ds))) (e4:=nD) (e5:=nD) (e6:=nD) hb p2
 have t3:=p3.get t2 p0
 obtain⟨E',S',ef,o4,o5,rfl,t4,_⟩:=IS (gs:=[]) (t:=tNm 4) (b:=gD)
  (I:=λrs E S'=>∃o4 o5:nG D,E=[Fk (.scr ns),Fk (.ref p),Fk (Ai t ls ds),Fk (.lst (plL ds)),o4,o5,nD]/\S'[0]?=Fk (Cl.tab "law")/\∀d∈rs,Pt d)
  (fun _ _ _ _ => Aw) (ds := L) (E := [Fk (.scr ns), Fk (.ref p), Fk (Ai t ls ds), Fk (.lst (plL ds)), nD, nD, nD]) (S := S3) ⟨nD, nD, rfl, t3, hL⟩ (by
    rintro dd rs E T ⟨o4,o5,rfl,i1,i2⟩
    obtain⟨u5,T',e,sm⟩:=ak (e0:=Fk (.scr ns)) (e1:=Fk (.ref p)) (e5:=o5) (e6:=nD) (Tab.of i1) hb (i2 dd nT)
    exact⟨_,_,T',rfl,e,Fk dd,u5,rfl,sm.tab i1,λd hd=>i2 d (nK _ hd)⟩)
 have hb0:=ZY hb
 have w0:B1 ([]:Gc AX) (.int 0)=false:=rfl
 have w1:B1 ([]:Gc AX) (.int (-1))=false:=rfl
 obtain⟨u1,u2⟩:=Rb (S:=S') hb0 (.int 0) w0
 obtain⟨v1,v2⟩:=Rc (S:=S') hb0 (.int (-1)) w1
 have hT:=Tab.of t4
 have q1:Qf "law" [6] (AJ Bw [eV 0,eI 0]) (Er Cr [eV 0,eI 0]) (.bl false) hdS [Fk (.scr ns),Fk (.ref p),Fk (Ai t ls ds),Fk (.lst (plL ds)),o4,o5,Fk (Ai t ls [])] S'=Fk (.bl true,S'):=
  OU hT (show AJ Bw _ [Fk (Ai t ls [])] S'=_ by simp[u1]) (show Er Cr _ [Fk (Ai t ls [])] S'=Fk (("NoSale":Str),[Fk (Ai t ls [])],S') by unfold Er;simp[u2]) Od
 have q2:Qf "law" [6] (AJ A5 [eV 0,eOp (o1 O6) [eI 1]]) (Er Ba [eV 0,eOp (o1 O6) [eI 1]]) (.bl false) hdS [Fk (.scr ns),Fk (.ref p),Fk (Ai t ls ds),Fk (.lst (plL ds)),o4,o5,Fk (Ai t ls [])] S'=Fk (.bl true,S'):=
  OU hT (show AJ A5 _ [Fk (Ai t ls [])] S'=_ by simp[v1]) (show Er Ba _ [Fk (Ai t ls [])] S'=Fk (("NoSale":Str),[Fk (Ai t ls [])],S') by unfold Er;simp[v2]) Od
 refine⟨S',?_⟩
 have eb:Vm=(Ae (CA 1 (AJ Il [AJ Cg [eV 0,eI 0]]))
  (Ae (CA 2 (AJ Dd [eV 1,eI 12,eC (.str "sell")]))
  (Ae (CA 3 (AJ D7 [eV 2,eC (.str "sell")]))
  (Ae (RF (Lx jO) (tNm 4) gD)
  (Ae (CA 6 (EM [eIx (eV 2) (eI 0),eIx (eV 2) (eI 1),EM []]))
  (Ae (xIf (Sl (Qf "law" [6] (AJ Bw [eV 0,eI 0]) (Er Cr [eV 0,eI 0]) (.bl false) hdS)) (BQ (eC (.bl false))) Et)
  (BQ (Qf "law" [6] (AJ A5 [eV 0,eOp (o1 O6) [eI 1]]) (Er Ba [eV 0,eOp (o1 O6) [eI 1]]) (.bl false) hdS)))))))):=rfl
 have sz0:(0:Nat)<=sizeLine:=qv _
 have sz3:(3:Nat)<=sizeLine:=AS (by decide)
 have bkd:∀(o4 o5:nG D),EM [eIx (eV 2) (eI 0),eIx (eV 2) (eI 1),EM []] [Fk (.scr ns),Fk (.ref p),Fk (Ai t ls ds),Fk (.lst (plL ds)),o4,o5,nD] S'=Fk (Ai t ls [],S'):=λo4 o5=>by
  simp[Ai,sz3]
 unfold Ma
 rw[eb]
 have ec':Cg [.scr ns,.int 0] [Cl.tab "law"]=Fk (.int c,[Cl.tab "law"]):=ec
 have e3':D7 [Ai t ls ds,.str "sell"] S2=Fk (.lst (plL ds),S2):=e3
 generalize Ai t ls ds=bk at*
 generalize Ai t ls []=bk0 at*
 generalize plL ds=PL at*
 simp[ec',e1,e2,e3',e4,ef,-WV,bkd,q1,q2]
end
open PyProof.Rows (boot_isinstance boot_int boot_bool boot_tuple boot_str boot_list boot_abs boot_all boot_any boot_sum boot_max boot_min boot_range boot_enumerate boot_zip boot_sorted boot_set boot_divmod)
theorem dI{K:KE}{h:oE}{mg:Str->nG Wp}{xs:Gc Str}{y:Str}{C':nI}(X:K.In h)(G:h.Ns mainGlobals mg)(e:qC K mainGlobals y=Fk (Fk (.ref C')))(t:∀x∈xs,∃C b,qC K mainGlobals x=Fk (Fk (.ref C))/\rG K (.ref C) (.ref C')=Fk b/\(x==y)=b):XmD K mg xs y:=jE X G e λx hx=>by
 obtain⟨C,b,h1,h2,h3⟩:=t x hx
 exact⟨C,h1,by rw[h3];exact h2⟩
theorem dw{K:KE}{xs:Gc Str}{x y:Str}{C C':nI}{b:oQ}(h1:qC K mainGlobals x=Fk (Fk (.ref C)))(h2:rG K (.ref C) (.ref C')=Fk b)(h3:(x==y)=b)(t:∀z∈xs,∃C b,qC K mainGlobals z=Fk (Fk (.ref C))/\rG K (.ref C) (.ref C')=Fk b/\(z==y)=b):∀z∈x::xs,∃C b,qC K mainGlobals z=Fk (Fk (.ref C))/\rG K (.ref C) (.ref C')=Fk b/\(z==y)=b:=λz m=>by
 rcases nO.mp m with e|m
 .rw[e];exact⟨C,b,h1,h2,h3⟩
 .exact t z m
structure All(w:oM)(K:KE)(mg:Str->nG Wp):Prop where
 bt:Bts mg
 RK:Tj K mg "ALL" Ui
 Hc:Tj K mg "MAKERS" Dl
 Dj:Tj K mg "NOTHING" Ef
 Hf:XcD K mg "NoSale"
 FA:XmD K mg ["NoSale"] "NoSale"
 FL:St.Src K mg "is_whole" FL
 F8:St.Src K mg "is_from" F8
 EG:St.Src K mg "is_within" EG
 Bs:St.Src K mg "greatest_divisor" Bs
 HK:St.Src K mg "lowest" HK
 Jw:St.Src K mg "plus" Jw
 Ju:St.Src K mg "less" Ju
 Ci:St.Src K mg "less_each" Ci
 IY:St.Src K mg "times" IY
 Ir:St.Src K mg "mixed" Ir
 Dg:St.Src K mg "has_pieces" Dg
 FT:St.Src K mg "can_pool" FT
 FW:St.Src K mg "can_swap" FW
 E7:St.Src K mg "can_do" E7
 Cn:St.Src K mg "held_without" Cn
 C4:St.Src K mg "held_behind" C4
 BV:St.Src K mg "held_at_first" BV
 EO:St.Src K mg "made_from" EO
 DN:St.Src K mg "first_wrong" DN
 CI:St.Src K mg "refuse_undone" CI
 FQ:St.Src K mg "is_place" FQ
 Cy:St.Src K mg "is_place_of" Cy
 CC:St.Src K mg "all_to_one" CC
 Bm:St.Src K mg "mixed_shares" Bm
 C1:St.Src K mg "made_shares" C1
 Bp:St.Src K mg "worth_of_all" Bp
 DH:St.Src K mg "part_thrown" DH
 CO:St.Src K mg "thrown_shares" CO
 Cz:St.Src K mg "sold_shares" Cz
 CN:St.Src K mg "shares_behind" CN
 BY:St.Src K mg "owners_behind" BY
 DM:St.Src K mg "state_by" DM
 CK:St.Src K mg "sums_by_kinds" CK
 BC:St.Src K mg "theirs_told" BC
 BM:St.Src K mg "refuse_no_sale" BM
 Cj:St.Src K mg "without_deed" Cj
 E8:St.Src K mg "unsold" E8
 Bt:St.Src K mg "turned_by" Bt
 Iw:St.Src K mg "_law_pen" Iw
 EI:St.Src K mg "_law_cell_at" EI
 HN:St.Src K mg "_law_draw" HN
 Fh:St.Src K mg "_law_common" Fh
 G8:St.Src K mg "_law_made" G8
 Cf:St.Src K mg "_law_whole" Cf
 GN:St.Src K mg "_law_train" GN
 Fc:St.Src K mg "_law_pieces" Fc
 GP:St.Src K mg "_law_first" GP
 Dr:St.Src K mg "_law_begun" Dr
 GQ:St.Src K mg "_law_share" GQ
 Cw:St.Src K mg "_law_worths" Cw
 CT:St.Src K mg "_law_deed" CT
 HI:St.Src K mg "_law_plus" HI
 GS:St.Src K mg "_law_times" GS
 Fb:St.Src K mg "_law_pooled" Fb
 Ep:St.Src K mg "_law_cost" Ep
 HD:St.Src K mg "_law_less" HD
 GX:St.Src K mg "_law_borne" GX
 G7:St.Src K mg "_law_sold" G7
 HG:St.Src K mg "_law_turn" HG
 Hb:St.Src K mg "_law_do" Hb
 Eo:St.Src K mg "_law_book" Eo
 Ca:St.Src K mg "_law_book_of" Ca
 C0:St.Src K mg "_law_places" C0
 Dv:St.Src K mg "_law_thing" Dv
 EX:St.Src K mg "law" EX
 Cp:St.Src K mg "_law_is_refused" Cp
section
variable{P:nv}{w:oM}{K:KE}{mg:Str->nG Wp}{base:oE}
theorem XD{f:nI}{fd:qE}(F:Fun K "law" "law" EX f fd)(hm:mg "law"=Fk (.ref f))(bm:BmB mg base)(S_law_is_refused:St.Src K mg "_law_is_refused" Cp)(B:Bts mg)(F4:Nk P w K mg base)(DP:KN P w K mg base)(JB:Ph P w K mg base)(Ec:KG P w K mg base)(Eh:Js P w K mg base)(FX:K3 P w K mg base)(C6:Q8 P w K mg base 8)(FA:XmD K mg ["NoSale"] "NoSale")(F3:Nl P w K mg base)(DZ:Ka P w K mg base):Rq P w K mg base CX0 14 f fd ["_law_script"] (spD K 1 Ma):=by
 refine fnL (k:=13) F hm Hj rfl λci hr hu=>?_
 exact(AH (Ap 1 (deM JB hr (AA (deM Ec hr (AA (AB 0) (AA AF AD))) AD)) Hj.nd)
      (AH (Ap 2 (deM Eh hr (AA (AB 1) (AA AF (AA BB AD)))) Hj.nd)
      (AH (Ap 3 (deM FX hr (AA (AB 2) (AA BB AD))) Hj.nd)
      (AH (Ik pC rfl (Fs (AY Ag (js rfl rfl B.list rfl B.range (AA (AY Ag (BK C9 rfl B.len rV (AA (AL AW (AB 2) AF) AD)) AF) AD)) (Bv (AA (O2 HY AF) (AA Je (AA RW (AA BB (AA (BZ (AA AF AD)) (AA (AY PB AF AF) (AA (deM C6 hr (AA (AB 1) (AA AF AD))) AD)))))))))) (Ad 4 Hj.nd) (AH (Ap 5 (dH (Yf (BK KU rfl B.isi sx (AA (AB 4) (AA (Xh rfl B.int wL) AD)))) (dH (BK KU rfl B.isi sx (AA (AB 4) (AA (Xh rfl B.bool boot_bool) AD))) (KA (IA Mc (AB 4) (AB 3))))) Hj.nd)
      (AH (CG (Aj (J3 hu) (Rt (k:=7) S_law_is_refused DR Ss ci bm (hr.mono (by decide)) rfl (λf c' clos A outer s H hr=>(deM F4 hr (AA (AB 0) (AA (AB 1) AD)))) (λf c' clos A outer s H hr=>(Km F3 (hr.mono (by decide)) rfl (AA (AB 0) (AA (AB 1) AD)))) (λ_ _ _ _ _ _=>(PM FA rfl (λ_=>AI (AQ Je)) Rl)) (λ_ _ _ _ _ _=>Je)) (AB 5)) (AI (AQ Je)) Av)
      (AI (CG (Aj (J3 hu) (Rt (k:=10) S_law_is_refused DR TQ ci bm (hr.mono (by decide)) rfl (λf c' clos A outer s H hr=>(deM DP hr (AA (AB 0) (AA (AB 1) AD)))) (λf c' clos A outer s H hr=>(Km DZ (hr.mono (by decide)) rfl (AA (AB 0) (AA (AB 1) AD)))) (λ_ _ _ _ _ _=>(PM FA rfl (λ_=>AI (AQ Je)) Rl)) (λ_ _ _ _ _ _=>Je)) (AB 5)) (AI (AQ Je)) Av)))))
      (AH (Ap 6 (BZ (AA (AL AW (AB 2) AF) (AA (AL AW (AB 2) AF) (AA (BZ AD) AD)))) Hj.nd)
      (AH (CG (SF (R3 (Rt (k:=7) S_law_is_refused DR TC ci bm (hr.mono (by decide)) rfl (λf c' clos A outer s H hr=>(deM F4 hr (AA (AB 0) (AA AF AD)))) (λf c' clos A outer s H hr=>(Km F3 (hr.mono (by decide)) rfl (AA (AB 0) (AA AF AD)))) (λ_ _ _ _ _ _=>(PM FA rfl (λ_=>AI (AQ Je)) Rl)) (λ_ _ _ _ _ _=>Je)))) (AI (AQ Je)) Av)
      (AI (AQ (Rt (k:=10) S_law_is_refused DR TM ci bm (hr.mono (by decide)) rfl (λf c' clos A outer s H hr=>(deM DP hr (AA (AB 0) (AA (O2 HY AF) AD)))) (λf c' clos A outer s H hr=>(Km DZ (hr.mono (by decide)) rfl (AA (AB 0) (AA (O2 HY AF) AD)))) (λ_ _ _ _ _ _=>(PM FA rfl (λ_=>AI (AQ Je)) Rl)) (λ_ _ _ _ _ _=>Je))))))))))
theorem bc{f:nI}{fd:qE}(F:Fun K "law" "law" EX f fd)(hm:mg "law"=Fk (.ref f))(bm:BmB mg base)(T:All w K mg):Rq P w K mg base CX0 14 f fd ["_law_script"] (spD K 1 Ma):=by
 have B:=T.bt
 have RK:=T.RK
 have Hc:=T.Hc
 have Dj:=T.Dj
 have Hf:=T.Hf
 have FA:=T.FA
 have FK:=FK (P:=P) (w:=w) (base:=base) T.FL B
 have GK:=GK (P:=P) (w:=w) (base:=base) T.F8 FK
 have ER:=ER (P:=P) (w:=w) (base:=base) T.EG GK
 have Br:=Br (P:=P) (w:=w) (base:=base) T.Bs B
 have BJ:=BJ (P:=P) (w:=w) (base:=base) T.HK Br
 have Gf:=Gf (P:=P) (w:=w) (base:=base) T.Jw BJ
 have Gs:=Gs (P:=P) (w:=w) (base:=base) T.Ju BJ
 have Ce:=Ce (P:=P) (w:=w) (base:=base) T.Ci B Gs
 have FV:=FV (P:=P) (w:=w) (base:=base) T.IY BJ
 have IV:=IV (P:=P) (w:=w) (base:=base) T.Ir BJ
 have A3:=A3 (P:=P) (w:=w) (base:=base) T.Dg B
 have FY:=FY (P:=P) (w:=w) (base:=base) T.FT A3
 have D9:=D9 (P:=P) (w:=w) (base:=base) T.FW A3
 have G9:=G9 (P:=P) (w:=w) (base:=base) T.E7 A3 FY D9
 have BS:=BS (P:=P) (w:=w) (base:=base) T.Cn
 have Be:=Be (P:=P) (w:=w) (base:=base) T.C4 BS
 have BH:=BH (P:=P) (w:=w) (base:=base) T.BV
 have EN:=EN (P:=P) (w:=w) (base:=base) T.EO B
 have DF:=DF (P:=P) (w:=w) (base:=base) T.DN B G9 Be BH
 have AZ:=AZ (P:=P) (w:=w) (base:=base) T.CI DF
 have FU:=FU (P:=P) (w:=w) (base:=base) T.FQ B ER
 have Bf:=Bf (P:=P) (w:=w) (base:=base) T.Cy FU
 have Df:=Df (P:=P) (w:=w) (base:=base) T.CC B RK Dj
 have BR:=BR (P:=P) (w:=w) (base:=base) T.Bm B IV
 have DJ:=DJ (P:=P) (w:=w) (base:=base) T.C1 B EN BR
 have Ck:=Ck (P:=P) (w:=w) (base:=base) T.Bp B
 have C7:=C7 (P:=P) (w:=w) (base:=base) T.DH BJ Ck
 have CP:=CP (P:=P) (w:=w) (base:=base) T.CO BR C7
 have C5:=C5 (P:=P) (w:=w) (base:=base) T.Cz B Gf Gs FV
 have BI:=BI (P:=P) (w:=w) (base:=base) T.CN CP C5
 have CL:=CL (P:=P) (w:=w) (base:=base) T.BY Hc Df DJ BI
 have Fg:=Fg (P:=P) (w:=w) (base:=base) T.DM Be BH BI CL
 have CM:=CM (P:=P) (w:=w) (base:=base) T.CK B Dj Gf FV
 have Bg:=Bg (P:=P) (w:=w) (base:=base) T.BC B Fg CM
 have A8:=A8 (P:=P) (w:=w) (base:=base) T.BM Bf Hf
 have AV:=AV (P:=P) (w:=w) (base:=base) T.BM Bf
 have Ak:=Ak (P:=P) (w:=w) (base:=base) T.Cj
 have F3:=F3 (P:=P) (w:=w) (base:=base) T.E8 AZ AV Ak A8
 have F4:=F4 (P:=P) (w:=w) (base:=base) T.E8 AZ AV Ak
 have DZ:=DZ (P:=P) (w:=w) (base:=base) T.Bt B Ce AZ Bg AV Ak A8
 have DP:=DP (P:=P) (w:=w) (base:=base) T.Bt B Ce AZ Bg AV Ak
 have JB:=JB (P:=P) (w:=w) (base:=base) T.Iw B
 have Ec:=Ec (P:=P) (w:=w) (base:=base) T.EI B
 have AM:=AM (P:=P) (w:=w) (base:=base) T.HN
 have FP:=FP (P:=P) (w:=w) (base:=base) T.Fh
 have Ax:=Ax (P:=P) (w:=w) (base:=base) T.G8 B FP
 have DC:=DC (P:=P) (w:=w) (base:=base) T.Cf B AM Ax
 have F9:=F9 (P:=P) (w:=w) (base:=base) T.GN AM DC
 have Bu:=Bu (P:=P) (w:=w) (base:=base) T.Fc AM
 have GC:=GC (P:=P) (w:=w) (base:=base) T.GP B AM DC Bu
 have GB:=GB (P:=P) (w:=w) (base:=base) T.Dr B
 have GV:=GV (P:=P) (w:=w) (base:=base) T.GQ AM Ax
 have FO:=FO (P:=P) (w:=w) (base:=base) T.Cw B AM
 have HB:=HB (P:=P) (w:=w) (base:=base) T.CT B AM Bu GV FO
 have Bj:=Bj (P:=P) (w:=w) (base:=base) T.HI Ax
 have BO:=BO (P:=P) (w:=w) (base:=base) T.GS Ax
 have Fd:=Fd (P:=P) (w:=w) (base:=base) T.Fb B Ax Bj BO
 have HM:=HM (P:=P) (w:=w) (base:=base) T.Ep B Ax
 have D5:=D5 (P:=P) (w:=w) (base:=base) T.HD Bj
 have Ey:=Ey (P:=P) (w:=w) (base:=base) T.GX B Bj BO D5
 have F2:=F2 (P:=P) (w:=w) (base:=base) T.G7 B Bj BO D5
 have HL:=HL (P:=P) (w:=w) (base:=base) T.HG HM Ey F2
 have J5:=J5 (P:=P) (w:=w) (base:=base) T.Hb B Fd HL
 have F6:=F6 (P:=P) (w:=w) (base:=base) T.Eo B AM F9 GC GB HB J5
 have Eh:=Eh (P:=P) (w:=w) (base:=base) T.Ca B F6
 have FX:=FX (P:=P) (w:=w) (base:=base) T.C0 B
 have C6:=C6 (P:=P) (w:=w) (base:=base) T.Dv B AM 8 (by decide)
 exact XD (P:=P) (w:=w) (base:=base) F hm bm T.Cp B F4 DP JB Ec Eh FX C6 FA F3 DZ
end
theorem eH{K:KE}{x:Str}{P f c:nI}{oc oc2:Wp}{od od2:nG nI}{osl osl2:pE (nG Wp)}{fd:qE}{vs:pE Wp}{file:Str}{tf tg tt:Tok}{flags text:Int}{inF:oQ}(e1:qC K mainGlobals x=Fk (Fk (.ref f)))(e2:K.lookup f=Fk ⟨oc,od,.func fd,osl⟩)(e3:fd.code=.ref c)(e4:K.lookup c=Fk ⟨oc2,od2,.fields vs,osl2⟩)(h0:oc2=.type "code")(h11:vs[11]?=Fk (.ref P))(h11':vs.getD 11 pN=.ref P)(h18:vs.getD 18 pN=.str file tf)(h7:vs.getD 7 pN=.int flags tg)(h9:vs.getD 9 pN=.bool inF)(h10:vs.getD 10 pN=.int text tt)(ne:c≠P):TabAt K x P:=
 ⟨f,oc,od,fd,osl,c,e1,e2,e3,_,vs,file,tf,flags,tg,inF,text,tt,e4,h0,rfl,h11,h11',h18,h7,h9,h10,ne⟩
theorem Tx{P:nI}:∀{K:KE},P∉K.map (·.1)->K.lookup P=nD
 | [],_=>rfl
 |(a,o)::K,h=>by
  rw[oG,nO,vF]at h
  have:(P==a)=false:=by simpa using h.1
  rw[pV,this]
  exact Tx h.2
theorem walk{l:uY}{q:nv}{loose:Gc Str}{XP:(Str->nG Wp)->oE->Prop}{d:DefRec}{K:yr->KE}{as:Gc nI}{ea:∀(P:yr),as=zv (λx=>x.fst) (K P)}{ts:Gc nI}(hn:l.most=Fk 63)(hdf:d.params.defaults=[])(na:∀P∈ts,P∉as)(nd:(((["law"]:Gc Str).zip ts).map (·.2)).Nodup)(hl:SW ((["law"]:Gc Str).zip ts)=[Cl.tab "law"])(hd:d.name="law")(F:∀(w:oM) (mg:Str->nG Wp) (h:oE),(K w.params).In h->h.Ns mainGlobals mg->(∀z∈(["law"]:Gc Str).zip ts,TabAt (K w.params) z.1 z.2)/\All w (K w.params) mg):xK q loose XP (PySem.W.kmHook K as ea ts).says l.row.toRowW d [] (λf vs=>xU f vs):=by
 refine jt (x:="_law_script") (k:=14) (Fn0:=Ma) ((["law"]:Gc Str).zip ts) hn hdf ⟨rfl,by decide,by decide⟩ (λw h Y=>⟨Y.1,λz hz=>Y.2 _ (pf hz).2⟩) nd (λw mg fa h KX G hmg=>?_) λns hns=>by rw[hl];exact eQ ns hns
 obtain⟨hT,T⟩:=F w mg h KX G
 refine⟨λz hz=>⟨hT z hz,Tx (by rw[<-ea];exact na _ (pf hz).2)⟩,?_⟩
 obtain⟨f,fd,F,hm⟩:=T.EX.ex
 rw[hd]at hmg
 have e:=hmg.symm.trans hm
 cases e
 refine⟨fd,λs v=>?_,λbase _ _ bm=>bc (P:=l.prog) (w:=w) (base:=base) F hm bm T⟩
 obtain⟨oc,od,kV,doc,pm,an,cdv,ct,osl,hfd,_⟩:=F.ex
 subst hfd
 exact .of_eq rfl
end Mi
end
noncomputable section
namespace PySem.W.Fast
def tw55645211534817006:=0
def tw3156696066736340629:=0
def tw11434862482251622516:=0
def tw1081559728827866536:=0
def tw12529743933680200176:=0
def tw6886833637458812007:=0
def tw3467534207369763155:=0
def tw7068208549493488860:=0
def tw8809918644439148150:=0
def tw6463653151683582695:=0
def tw13286380338527829904:=0
def tw547205155839453888:=0
def tw6204506615383918181:=0
def tw5754876979339862493:=0
def tw2864441187273065020:=0
def tw9348746939723952610:=0
def tw1638131816458700442:=0
def tw10964405175380862116:=0
def tw5282794325114674126:=0
def tw10071340354045530094:=0
def tw8228217409613909425:=0
def tw3014757251911066196:=0
def tw5713190257640169559:=0
def tw9605993593248397995:=0
def tw4610321042656410357:=0
def tw8085970331984480781:=0
def tw8530206669768142949:=0
def tw5351058380430503469:=0
def tw2753232055279970459:=0
def tw4053042103740249134:=0
def tw1529162554419408906:=0
def tw17007137286506783861:=0
def tw16043755091530295244:=0
def tw11635624450124535009:=0
def tw6463793301927990664:=0
def tw12260190437798827806:=0
def tw18122518596440539:=0
def tw2429459994979357813:=0
def tw5056247878972194528:=0
def tw4874667808851570229:=0
def tw3895003378113951417:=0
def tw7546864287595828150:=0
def tw1761358287864872949:=0
def tw8894658718970505016:=0
def tw7622030548442906112:=0
def tw16238838063469639449:=0
def tw1353573166734509897:=0
def tw8296848744712892832:=0
def tw4233254226595797502:=0
def tw15096785819640776926:=0
def tw13998085160322405660:=0
def tw5011866899349801473:=0
def tw11858532846616230990:=0
def tw13934910166932294428:=0
def tw15042600049441124880:=0
def tw2493582573651138489:=0
def tw9152652442703114512:=0
def tw11317052527596748163:=0
def tw6145625974556232727:=0
def tw7711655936391243625:=0
def tw8906556773634556502:=0
def tw2499731243774684697:=0
def tw17147854221165526144:=0
def tw9278025691190539690:=0
def tw10312655816851707627:=0
def tw10365487440446420097:=0
def tw15686327515628564629:=0
def tw9045969491977643079:=0
def tw14377711905164151686:=0
def tw15122236103233430945:=0
def tw14369536153192395383:=0
def tw17871997489428150099:=0
def tw16544591789268228851:=0
def tw5659657342692384219:=0
def tw15864871655157878767:=0
def tw5617671822994208527:=0
def tw9732458983914880899:=0
def tw11493907249512842754:=0
def tw10388647157293530055:=0
def tw14230161813514498713:=0
def tw1765586015301813029:=0
def tw13507771795747405538:=0
def tw3742989380148210894:=0
def tw5355163952446210405:=0
def tw1889939750747441477:=0
def tw14666205932810154740:=0
def tw5999756674438809833:=0
def tw4997441971670289941:=0
def tw16417897358363097599:=0
def tw16531011158561707345:=0
def tw12629127171709313160:=0
def tw887731473480515861:=0
def tw4979258875773965143:=0
def tw4085795758203868773:=0
def tw9774085158886920608:=0
def tw16283161843554330953:=0
def tw1417471035683140989:=0
def tw1369671196056791283:=0
def tw6595554426350651811:=0
def tw284770156194734648:=0
def tw6246436211333285117:=0
def tw4719560675634603856:=0
def tw971303138861989308:=0
def tw16980760862887978964:=0
def tw7497179232755075475:=0
def tw13069128138665604179:=0
def tw13417189269043425353:=0
def tw12901348683061795080:=0
def tw14915840746472078965:=0
def tw14856027649574483722:=0
def tw15461550963753236049:=0
def tw17325281426684764096:=0
def tw10883499017685200916:=0
def tw14641709616908711435:=0
def tw5903678727506897561:=0
def tw16780044613451911710:=0
def tw14640142228441028404:=0
def tw17162446926210537876:=0
def tw15515493101023209221:=0
def tw8641788843262605214:=0
def tw242647210528086775:=0
def tw14608706351743279317:=0
def tw1613473684691309848:=0
def tw2439833032772887547:=0
def tw1560019570638840684:=0
def tw3878585884672578344:=0
def tw11340612666525777185:=0
def tw9839459603418614319:=0
def tw16918867642714568359:=0
def tw10991085419345939328:=0
def tw11993664891147649640:=0
def tw17540166916515145361:=0
def tw11209642333494598950:=0
def tw5832009009468703509:=0
def tw2022309002753133939:=0
def tw17061704367485265485:=0
def tw17774242108494611371:=0
def tw987197578676345815:=0
def tw18008830265417665257:=0
def tw11756389573142146486:=0
def tw5917706754247985707:=0
def tw5328945912615495470:=0
def tw11008344383337446052:=0
def tw8952557054750756723:=0
def tw17414189465899983557:=0
def tw14825853660285484624:=0
def tw1521595870870244132:=0
def tw5343562863632006967:=0
def tw13679989310146562642:=0
def tw1347658383595787264:=0
def tw12032677269068343827:=0
def tw4505426575456322119:=0
def tw16555516883604775608:=0
def tw12274377369011668008:=0
def tw6700155348825569075:=0
def tw1543148444702869804:=0
def tw14209441521438989797:=0
def tw4354862208885289598:=0
def tw18265576684190397032:=0
def tw13625302450182607494:=0
def tw2258804117160966798:=0
def tw18335842871598254444:=0
def tw2825479374130854322:=0
def tw17629269224280951981:=0
def tw14718411123243804848:=0
def tw14791330288151863767:=0
def tw12355899928896874571:=0
def tw1561837022509764089:=0
def tw3742754624017255378:=0
def tw10868799211577460738:=0
def tw4877681251985487761:=0
def tw11351248989352750677:=0
def tw12810283523255152257:=0
def tw3428995085229613877:=0
def tw14605992585692469984:=0
def tw1262812671801779429:=0
def tw14013956885809812838:=0
def tw7554059902769453317:=0
def tw2496281311323721902:=0
def tw706408068553537408:=0
def tw2818868417914607922:=0
def tw9266919680882196003:=0
def tw1852563849664333560:=0
def tw2443096729285938287:=0
def tw5361296340782935758:=0
def tw9694492275236020610:=0
def tw13888586291549444673:=0
def tw12126454932236248335:=0
def tw15972289280949587966:=0
def tw7944909890798788243:=0
def tw1020259747178831418:=0
def tw10889219406208491278:=0
def tw735339321496285236:=0
def tw5628706742324166804:=0
def tw15477894403130557092:=0
def tw4652949213060891215:=0
def tw14991898859604765941:=0
def tw3342111766571698130:=0
def tw7911905573974963176:=0
def tw12859886389083581701:=0
def tw12298700861556898966:=0
def tw17482875774388378901:=0
def tw6078762041603249461:=0
def tw13460252186354094699:=0
def tw8030659762474904329:=0
def tw10205233191385486641:=0
def tw1647425442965038975:=0
def tw4799441035011643663:=0
def tw16197152941726885832:=0
def tw6234032427469360338:=0
def tw2056561938753885176:=0
def tw8110936008178268181:=0
def tw10890847202053773856:=0
def tw17010936634672652175:=0
def tw958335638629973012:=0
def tw17519660996932024949:=0
def tw12664160674818020938:=0
def tw8560037424375220586:=0
def tw3163242944810144:=0
def tw1938577626017470480:=0
def tw11226968709432657091:=0
def tw3174148401781710293:=0
def tw10061484332408157033:=0
def tw3994764817807487358:=0
def tw6733013983010086156:=0
def tw7622433364130367493:=0
def tw16549790409922603085:=0
def tw10157516974902449153:=0
def tw16716476611028729898:=0
def tw12938486450299303737:=0
def tw7760713540693801905:=0
def tw188984681069790514:=0
def tw17734037905900840951:=0
def tw14278443461386639076:=0
def tw17559944301590984056:=0
def tw3113557787517992825:=0
def tw12075942738650199438:=0
def tw1825396012206060529:=0
def tw17685973079972037999:=0
def tw4918995337644454196:=0
def tw450093217308879369:=0
def tw9562261461003991193:=0
def tw8976812461066189481:=0
def tw12352631895300833393:=0
def tw3952100546727167948:=0
def tw15588861185670377518:=0
def tw7445118140392463176:=0
def tw16821386792919126862:=0
def tw9070239173917175895:=0
def tw9489182254310903108:=0
def tw7408435061859592166:=0
def tw3450737662214484214:=0
def tw10668187909221865140:=0
def tw9677079217841976947:=0
def tw11993309363981193984:=0
def tw7673819935900405449:=0
def tw6950102022934916817:=0
def tw13866283385688495240:=0
def tw684858517895563674:=0
def tw7153345491155344788:=0
def tw3992257533157394242:=0
def tw6545137273566827847:=0
def tw11500766800846615960:=0
def tw1231652402136758906:=0
def tw7873098465441303036:=0
def tw9804178445719680752:=0
def tw8458377755833587907:=0
def tw181832389676280832:=0
def tw1772965206876008566:=0
def tw17717082580329861143:=0
def tw13355633341983339083:=0
def tw2826726585681715272:=0
def tw15002324276816998349:=0
def tw13565332640816887160:=0
def tw9344741344558727325:=0
def tw9291212702984459326:=0
def tw11173471260968901098:=0
def tw16593637432610515445:=0
def tw787491399807713583:=0
def tw14696968798733377491:=0
def tw530387297222926397:=0
def tw10487250652938234620:=0
def tw13988685719401493411:=0
def tw15120932330451144705:=0
def tw9834153451405843339:=0
def tw4544237255904474695:=0
def tw2941019619220923803:=0
def tw17954509511378445755:=0
def tw1819907949644732194:=0
def tw9788898282719418897:=0
def tw12066559710243581348:=0
def tw7015420655325444664:=0
def tw8710709505907005021:=0
def tw14682653797926416994:=0
def tw471165653845362539:=0
def tw1618267325534340245:=0
def tw7203630992076863519:=0
def tw8859336062966722001:=0
def tw7225478451021741335:=0
def tw4983248401133380477:=0
def tw17330100969488126895:=0
def tw10681241179075914843:=0
def tw17243222024207801336:=0
def tw15906509763099688269:=0
def tw9472207697656236371:=0
def tw6408866346089866629:=0
def tw3679546115575380909:=0
def tw17399371872351631010:=0
def tw16240070456663492446:=0
def tw2495695477837936605:=0
def tw18207464430040717520:=0
def tw10234841776447650272:=0
def tw15858816361987319280:=0
def tw1679849851276450269:=0
def tw15398581437676719436:=0
def tw17161585159770171176:=0
def tw13907780790729062939:=0
def tw17069135925666148579:=0
def tw10794446794779557908:=0
def tw7377192332851134400:=0
def tw9599371474166916537:=0
def tw521316804622814990:=0
def tw7366446320946080107:=0
def tw3185447106991217149:=0
def tw16588305543857734145:=0
def tw13891366540684202848:=0
def tw13554653974909602626:=0
def tw12559589590093377021:=0
def tw14705697946279170105:=0
def tw15102912192173799374:=0
def tw16035947738485843217:=0
def tw223219304787701865:=0
def tw12776097535463201536:=0
def tw17831355921261181646:=0
def tw16732360092208852657:=0
def tw4205698366614795200:=0
def tw7129227022645064956:=0
def tw9593508778681981019:=0
def tw16353716692437699295:=0
def tw7272160258894087328:=0
def tw332528351872600817:=0
def tw17410134552872384343:=0
def tw8668749295700415656:=0
def tw5815635800994121765:=0
def tw3907920534778490307:=0
def tw6516469485359450401:=0
def tw7621922882906356987:=0
def tw14857666647156904813:=0
def tw4288838361086420697:=0
def tw6331810878111603460:=0
def tw9316376507762789300:=0
def tw14606706171750358206:=0
def tw18247722577292998550:=0
def tw6436535854679020553:=0
def tw11673590793390450895:=0
def tw6017978280515100769:=0
def tw7526050720648468698:=0
def tw4970663907437105888:=0
def tw10262811148150739247:=0
def tw14245738226755029024:=0
def tw6364216603950547875:=0
def tw9032063932694115153:=0
def tw16673023572309895004:=0
def tw5027252442202152741:=0
def tw5762271292714372351:=0
def tw17864637687307808371:=0
def tw15018060599108948833:=0
def tw4445436494363800844:=0
def tw7762859297567693070:=0
def tw16569313146383657521:=0
def tw12456282040955851286:=0
def tw5540649033682604389:=0
def tw2489408557021094416:=0
def tw2994020270218628844:=0
def tw3299986195512447760:=0
def tw7180050642637863132:=0
def tw11996121712800842112:=0
def tw10105657561890231763:=0
def tw12684780436822009186:=0
def tw17007709105561885305:=0
def tw10672962814640807269:=0
def tw4410813612366530674:=0
def tw8167076419270089300:=0
def tw4826374398372272186:=0
def tw3157771629845140515:=0
def tw9539387413215652997:=0
def tw11125269154344309415:=0
def tw11251552721979558798:=0
def tw1331946687493857865:=0
def tw17193743096687994497:=0
def tw15629380417547716999:=0
def tw1427667371100933930:=0
def tw4909006885062132960:=0
def tw7199805277896372534:=0
def tw16276263150047635537:=0
def tw12943503776282500263:=0
def tw14518103279866393946:=0
def tw17447187957516363520:=0
def tw4549229042870504467:=0
def tw17444248113186082548:=0
def tw9847000785175752577:=0
def tw379465997959431640:=0
def tw14841464723648507335:=0
def tw14662314694186919753:=0
def tw16368504184665808239:=0
def tw16648157845936085900:=0
def tw3976380055950491224:=0
def tw5552306985625381121:=0
def tw15709682560748201904:=0
def tw18329759588345999798:=0
def tw4830780959256040702:=0
def tw9626156738764469831:=0
def tw12938955098682499551:=0
def tw7371743087241197917:=0
def tw2071522642799045795:=0
def tw11639968836755960137:=0
def tw17721252987976853330:=0
def tw17142353692616051390:=0
def tw3347758874607480755:=0
def tw17628483454880234828:=0
def tw16246386073130101722:=0
def tw11476026361455469026:=0
def tw13141452016004414843:=0
def tw16392274862008115810:=0
def tw16420351810493453341:=0
def tw10900882197570565658:=0
def tw16944410317263101760:=0
def tw1706201853286924163:=0
def tw10246859834417171707:=0
def tw17388942913709553062:=0
def tw10877737598502683321:=0
def tw5627262193887844011:=0
def tw15019258150548250067:=0
def tw11583520359958246857:=0
def tw16399955078654966998:=0
end PySem.W.Fast
open PySem PySem.W PyProof.Rows
set_option maxRecDepth 100000 in
set_option maxHeartbeats 0 in
theorem PySem.Challenge.cw_sharetrail_k53_sales_refused_holds : PySem.Challenge.rw_sharetrail_k53_sales_refused.Holds := by
 w_on;o_law;k_head;(case hw=>w_witness2)
 k_fill
 refine Mi.walk (l:=PySem.Challenge.rw_sharetrail_k53_sales_refused) rfl rfl (by decide) (by decide) rfl rfl ?F
 case F=>
  intro w mg h KX G
  refine⟨?T,?_⟩
  case T=>
   intro z hz
   rcases List.mem_cons.mp hz with e|hz
   .subst e
    refine' Mi.eH ?t1 ?t2 ?t3 ?t4 ?t5 ?t6 ?t7 ?t8 ?t9 ?t10 ?t11 ?t12
    (case t1=>k_is)
    (case t2=>k_is)
    (case t3=>rfl)
    (case t4=>k_is)
    (case t5=>rfl)
    (case t6=>rfl)
    (case t7=>rfl)
    (case t8=>rfl)
    (case t9=>rfl)
    (case t10=>rfl)
    (case t11=>rfl)
    (case t12=>decide)
   .cases hz
  have RK:Mi.Tj (L2.KOf KX) mg "ALL" Mi.Ui:=by
   dsimp only[L2.KOf]
   refine' Mi.Tu KX G ?e ?r
   (case e=>k_is)
   case r=>
    refine' Mi.Qk ?l ?z ?r
    (case l=>k_is)
    (case z=>decide)
    case r=>
     refine' Paired.cons ?_ ?_
     .exact Mi.PN
     refine' Paired.cons ?_ ?_
     .exact Mi.PN
     exact Paired.nil
  have Hc:Mi.Tj (L2.KOf KX) mg "MAKERS" Mi.Dl:=by
   dsimp only[L2.KOf]
   refine' Mi.Tu KX G ?e ?r
   (case e=>k_is)
   case r=>
    refine' Mi.Qk ?l ?z ?r
    (case l=>k_is)
    (case z=>decide)
    case r=>
     refine' Paired.cons ?_ ?_
     .exact Mi.OM
     refine' Paired.cons ?_ ?_
     .exact Mi.OM
     refine' Paired.cons ?_ ?_
     .exact Mi.OM
     refine' Paired.cons ?_ ?_
     .exact Mi.OM
     exact Paired.nil
  have Dj:Mi.Tj (L2.KOf KX) mg "NOTHING" Mi.Ef:=by
   dsimp only[L2.KOf]
   refine' Mi.Tu KX G ?e ?r
   (case e=>k_is)
   case r=>
    refine' Mi.Qk ?l ?z ?r
    (case l=>k_is)
    (case z=>decide)
    case r=>
     refine' Paired.cons ?_ ?_
     .exact Mi.PN
     refine' Paired.cons ?_ ?_
     .exact Mi.PN
     exact Paired.nil
  have Hf:Mi.XcD (L2.KOf KX) mg "NoSale":=by
   dsimp only[L2.KOf]
   refine' Mi.jI KX G ?xce ?xcq
   (case xce=>k_is)
   (case xcq=>k_exc)
  have FA:Mi.XmD (L2.KOf KX) mg ["NoSale"] "NoSale":=by
   dsimp only[L2.KOf]
   refine' Mi.dI KX G ?xme ?xmt
   (case xme=>k_is)
   case xmt=>
    refine' Mi.dw ?xma ?xmb ?xmc ?_
    (case xma=>k_is)
    (case xmb=>kts_exm)
    (case xmc=>decide)
    exact Mi.all_nil
  have z_abs:mg "abs"=none:=by
   refine' PySem.W.mg_none_of KX G ?z
   (case z=>k_is)
  have z_bool:mg "bool"=none:=by
   refine' PySem.W.mg_none_of KX G ?z
   (case z=>k_is)
  have z_enumerate:mg "enumerate"=none:=by
   refine' PySem.W.mg_none_of KX G ?z
   (case z=>k_is)
  have z_int:mg "int"=none:=by
   refine' PySem.W.mg_none_of KX G ?z
   (case z=>k_is)
  have z_isinstance:mg "isinstance"=none:=by
   refine' PySem.W.mg_none_of KX G ?z
   (case z=>k_is)
  have z_len:mg "len"=none:=by
   refine' PySem.W.mg_none_of KX G ?z
   (case z=>k_is)
  have z_list:mg "list"=none:=by
   refine' PySem.W.mg_none_of KX G ?z
   (case z=>k_is)
  have z_min:mg "min"=none:=by
   refine' PySem.W.mg_none_of KX G ?z
   (case z=>k_is)
  have z_range:mg "range"=none:=by
   refine' PySem.W.mg_none_of KX G ?z
   (case z=>k_is)
  have z_sorted:mg "sorted"=none:=by
   refine' PySem.W.mg_none_of KX G ?z
   (case z=>k_is)
  have z_sum:mg "sum"=none:=by
   refine' PySem.W.mg_none_of KX G ?z
   (case z=>k_is)
  have z_tuple:mg "tuple"=none:=by
   refine' PySem.W.mg_none_of KX G ?z
   (case z=>k_is)
  have z_zip:mg "zip"=none:=by
   refine' PySem.W.mg_none_of KX G ?z
   (case z=>k_is)
  refine⟨⟨z_abs,z_bool,z_enumerate,z_int,z_isinstance,z_len,z_list,z_min,z_range,z_sorted,z_sum,z_tuple,z_zip⟩,RK,Hc,Dj,Hf,FA,?_,?_,?_,?_,?_,?_,?_,?_,?_,?_,?_,?_,?_,?_,?_,?_,?_,?_,?_,?_,?_,?_,?_,?_,?_,?_,?_,?_,?_,?_,?_,?_,?_,?_,?_,?_,?_,?_,?_,?_,?_,?_,?_,?_,?_,?_,?_,?_,?_,?_,?_,?_,?_,?_,?_,?_,?_,?_,?_,?_,?_,?_,?_,?_,?_,?_⟩
  all_goals (refine' Mi.dY KX G ?a ?l ?c ?k;(case a=>k_is);(case l=>k_is);(case c=>k_is);(case k=>k_is))
end
