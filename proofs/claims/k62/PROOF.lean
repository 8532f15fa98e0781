import PyProof.Rows.All
import Wide.All
import OpenK.AllK
import Wide.FinOn
import Lean
import PyProof.EqAt
import PyProof.EqKinds
import PyProof.TupleCall
import PyProof.Draws
import PyProof.EnumMake
import PyProof.EnumFor
import PyProof.ZipIter
import PyProof.FactsAll.dict_1
import PyProof.ListMulRoad
import PyProof.NeData
import PyProof.SumWalkG
import KE.KSortedM
import PyProof.FactsAll.subtypes_4
import KE.KSortTup
import KE.KItemsList
import PyProof.DictItemsLoops
import KE.KDictList
import PyProof.DictValues
import PyProof.DictCompW
import PySem.Challenge.RW_sharetrail_k62_clashes_looked_at
set_option Elab.async false
set_option linter.all false
set_option maxRecDepth 100000
set_option maxHeartbeats 4000000
set_option exponentiation.threshold 10000
open _root_ renaming Option->pY,of_decide_eq_true->qM,if_pos->qc,Array->qd,if_neg->qj,Bool->qk,or_false->rP,decide_eq_true->sX,decide_eq_false->tP,String->tZ,beq_eq_false_iff_ne->uo,False->ur,if_false->ux,if_true->wJ,bne_self_eq_false->wV,not_or->yc,True->yu,DecidableEq->zB,beq_iff_eq->AAB
open Array renaming length_toList->rY,getElem?_toList->uU,getD->vq,toList_map->yU,toArray_toList->zT,getElem?_map->AAH
open Bool renaming and_eq_true->qO,false_ne_true->rH,or_eq_true->sJ,false_eq_true->sg,noConfusion->su,and_false->zE,false_or->zq,true_and->zv
open False renaming elim->vC
open ForInStep renaming yield->wy
open Int renaming toNat_of_nonneg->rJ,natAbs_natCast->rW,lt_trans->tK,emod_nonneg->tz,lt_of_lt_of_le->uS,mul_pos->uf,emod_lt_of_pos->vJ,toNat_natCast->vS,natAbs_mul->va,mul_le_mul_of_nonneg_right->we,lt_of_le_of_lt->xf,mul_ediv_cancel_left->yH,natCast_mul->yr
open List renaming getElem?_eq_getElem->pf,getElem?_append_left->pq,mem_cons->qA,mem_cons_of_mem->qC,getElem?_set_ne->qE,getElem?_eq_some_iff->qF,mem_cons_self->qH,getD_eq_getElem?_getD->qJ,size_toArray->qK,getElem?_set_self->qL,length_map->qP,getElem?_concat_length->qQ,range->qR,map_cons->qS,not_mem_nil->qT,nil_append->qU,mem_singleton->qV,mem_append->qW,mem_of_getElem?->qX,filterMap_cons->qY,replicate->qZ,getElem?_map->qf,length_cons->qg,mem_map->qi,mem_append_right->qm,length_append->qw,getElem?_append_right->qy,cons_append->rF,prefix_rfl->rL,append_assoc->rz,drop_eq_getElem_cons->sE,map_nil->sG,nodup_append->sN,map_map->sR,getElem?_eq_none_iff->sS,any_cons->sV,length_filterMap_le->sZ,mem_filter->se,map_append->sf,lookup_cons->sr,pairwise_map->tL,nodup_iff_pairwise_ne->tN,replicate_succ->tO,mem_or_eq_of_mem_set->tQ,getElem_mem->tS,length_range->tY,nodup_cons->tj,length_set->tm,take_of_length_le->uB,drop_eq_nil_of_le->uC,all_cons->uF,length_take->uG,any_eq_true->uI,length_filter_le->uV,append_nil->uX,of_mem_zip->uY,find?_cons->uZ,flatten_cons->ub,mem_range->uu,getElem_inj->uv,ext_getElem->vB,prefix_append->vH,length_nil->vM,sum_cons->vP,mem_iff_getElem?->vR,drop_eq_nil_iff->vX,mem_iff_getElem->vZ,mem_filterMap->vo,lookup_append->vp,pairwise_mergeSort->v3,take_sublist->wH,range_succ_eq_map->wM,getElem?_inj->wN,pairwise_lt_range->wQ,mem_range'_1->wW,take_length->wg,mem_append_left->wk,getElem?_zipWith_eq_some->wt,mergeSort_perm->xE,mem_map_of_mem->xF,mapM_cons->xW,zip_cons_cons->xZ,getElem?_zip_eq_some->xh,pairwise_iff_getElem->xi,mem_of_find?_eq_some->xk,length->xp,map_id->yA,getElem?_replicate->yL,length_drop->yN,getElem?_cons_zero->yV,all_map->yd,zipWith->yj,map_set->yk,foldl_cons->yn,forIn_cons->yp,length_singleton->yw,set_append_right->yz,getElem?_eq_none->y0,pairwise_and_iff->y7,forIn_nil->zH,length_eraseIdx->zQ,set_append_left->zW,mem_of_mem_take->zX,length_pos_iff->zg,Pairwise->zt,map_take->zw,foldl->AAA,pairwise_cons->AAG
open List.Pairwise renaming nil->xt,imp_of_mem->yJ,sublist->yx
open List.Perm renaming refl->wU,eq_of_pairwise->yF
open Nat renaming le_refl->p9,lt_of_lt_of_le->qB,le_trans->qD,ne_of_lt->qN,lt_of_le_of_lt->rR,zero_le->rS,lt_succ_of_lt->sC,le_of_lt->sF,pow_le_pow_right->tE,mul_le_mul_right->tF,lt_irrefl->tH,lt_trans->tJ,lt_succ_self->uH,le_succ_of_le->ug,ne_of_gt->vD,mul_comm->vG,le_of_succ_le->vT,zero_add->xI,pos_of_ne_zero->xY,one_lt_two_pow->xc,le_succ->xv,gcd->x8,mul_pos->x9,mul_assoc->yI,lt_or_ge->yl,mul_le_mul->zV
open Ne renaming symm->rm
open Option renaming some->Gc,bind_some->uy,isSome_iff_exists->yB,isSome_some->AAC,map->AAF
open Option.some renaming inj->rG
open PyProof.Rows renaming slot_tuple_getitem->qp,boot_isinstance->rM,boot_tuple->rh,IntsAre->tW,step_dedup->tq,callWith_type1->uA,envOfC->vg,callWith_builtin1->wc,entry_tuple_getitem->xD,boot_list->xJ,assignInOrder_cons->xO,slicePart_none->xQ,args_tuple_getitem->xR,AllBare->xn,subscriptTail_builtinR->ya,Subscript_->y8,boot_int->zU,getElem?_mirror_all->zj,tupleItemsOf_->zo,listUpdate_at->zu
open PyProof.Rows.F renaming plain_set_update_loop->wB,entry_set_update_loop->yS
open PyProof.Rows.IsTup renaming new->ui
open PySem renaming wpAny_bind->Wp,Value->pW,Shared->pX,wpAny_pure->pZ,Addr->pz,Program->qa,starEach->qb,Expr->qh,World->qq,wpAny_newObj_type->qr,Heap->qu,Around->qx,wpAny_call_entry->q9,wpAny_holding->rB,wpAny_callSpecial?_slot->rC,Stmt->rO,mem_of_lookup->rZ,wpAny_pyIter_list->sM,Builtin->sQ,wpAny_field->si,wpAny_pyIter_tuple->tR,Scope->tT,FuncData->tU,wpAny_seqItems->tV,codeAny_builtin->tu,boot_len->t8,wpAny_standAt->uE,wpAny_Call_Name_kw->uM,call_meets->uO,wpAny_setField->uQ,wpAny_setField_rec->uR,wpAny_passesOwn->uW,wpAny_truthy_bool->ua,wpAny_setState_of->ue,wpAny_rule->uh,IsPair->uj,wpAny_setEntries_of->uq,NameKind->uw,wpAny_getItem_str_slice->uz,wpAny_typeOf->vF,wpAny_updateSeq->vN,typeIs_int->vW,wpAny_isInstance->vd,wpAny_binaryOp_repeat_ref->ve,wpAny_comprehension_free->vi,wpAny_attempt->vj,plainId_quiet->vk,sizeLine_eq->vt,wpAny_pyNext_list_item->wD,codeAny_mono->wG,fits_of_scanBound->wR,wpAny_pyNext_list_end->wX,wpAny_mono->wZ,wpAny_newList->wj,wpAny_updateSeq_pair->wq,wpAny_execs_nil->wu,post_val_or_str->xC,typeIs_str->xS,IsZip->xT,Data->xU,wpAny_fieldsOf->xX,Keyword->xo,wpAny_sequenceKey->xq,wpAny_of_eq->xw,wpAny_setEpoch_of->xy,wpAny_onRaise->yC,noFill_tuple_add->yM,wpAny_askSetting->yT,IsPart->yZ,ElemsOf->yg,wpAny_specialOf->yq,wpAny_pyIter_listiter->yv,builtinLookup_eq_fast->yy,wpAny_letGo->zI,wpAny_newTuple->zJ,isSubtype_stop->zK,intBits_le_iff->zN,wpAny_runValue->zO,isSubtype_type->zP,codeAny_extend_loopS->zS,PassesOwn->zZ,ItemsOf->zc,seq_tuple_add->zm,evalPart_none->zp,wpAny_load->z0,Result->z8,tupleKind_room_in1->AAD
open PySem.Around renaming under_plainId->sx
open PySem.AutoSeq1 renaming wpAny_loadPart'->qe
open PySem.Builtin.List renaming listExtendWith->rX,listTooLong->sW,listLengthHint->uD,listSameRef->um,listItems->yi
open PySem.Builtin.Slice renaming slicePlaces->rT,sliceAdjust->sU,sliceApplied->uN,sliceFields->xg
open PySem.Builtin.SmallTypes renaming nextOf->rD,ownedTupleIsFree->sY,ownedTupleHandOut->vf
open PySem.Builtin.Str renaming tooLong->zh
open PySem.Builtin.Tuple renaming tupleExact->rV,tupleItemsOf->vV,tupleTooMany->xV
open PySem.Calls renaming spliced_cons->vQ,spliced_nil->vU,callWith_builtin->wK,Name_function_global->xN,call_function_entry->xj,evalArgs_plain->zD
open PySem.Challenge renaming pw_sharetrail_k62_clashes_looked_at->xK
open PySem.F renaming slot_list_append->qo,type_list_append->qt,slot_dict_eq_refl->t7,slot_tuple_iterator_next->uP,slot_str_getitem->uk,called_set->vI,slot_int_rmul->vL,plain_list_iadd->vY,args_tuple_add_2->vh,entry_tuple_add->vy,slot_tuple_add->wI,slot_dict_get->wY,slot_tuple_mul->wd,slot_list_extend->wm,args_tuple_iterator_next_1->xA,slot_zip_next->xB,entry_tuple_iterator_next->xG,args_int_rmul_2->xr,entry_proto_collect->yD,plain_proto_collect->yE,slot_dict_values->yG,slot_int_index->yO,entry_int_rmul->yP,args_dict_get_2->yQ,plainAttrs_dict->yR,args_dict_eq_2->yX,entry_dict_get->yb,slot_str_upper->yf,fills_int_mul->yo,entry_dict_eq->yt,args_list_extend_2->zG,entry_list_iadd->zR,entry_list_extend->zf,plain_extend_loop->zi,args_tuple_mul_2->AAE,slot_NoneType_eq->AAI
open PySem.Heap renaming get?_push_of_some->pU,get?_push_size->qG,lt_size->qI,size_push->ql,get?_update_self->rE,get?_update_other->sH,SameBut->t9,ExtBut->vz,IsTuple->xH,IsList->zM
open PySem.Heap.IsSliceOf renaming new->z9
open PySem.Heap.SameBut renaming update->rf
open PySem.NameKind renaming free->sA,cell->vO
open PySem.Obj renaming mapSeq->rA,data_mapFields->sP,isFreed_of_fields->uT,cls_mapFields->wL,putSet->yh,mapFields->zr
open PySem.Paired renaming length->zl
open PySem.PassesOwn renaming never->qv
open PySem.PyData renaming strOk->sD,depth->vK,canLayAll0->wO
open PySem.SeqAt renaming rc_eq_decline_or->yW
open PySem.SeqAt.EqAt renaming int_str->zx,str_int->zy
open PySem.SetTable renaming below->rQ,grown->vA
open PySem.SetTable.probe renaming go->xu
open PySem.Shared renaming heap->uc
open PySem.Str renaming ofString->rK
open PySem.Txt renaming slice_le->ye,upper->zb
open PySem.Value renaming ref->qz,none->sL,int->vc,type->vn,bool->xM,isInt_shape->xl,str->yK,isInt->zA,isStrOf->zk
open PySem.W renaming Frag->pV,kia_one->sI,keepIn->uJ,kitOne->uK,fnOf->vE,findIn->wF,OpenLaw->wo,codeIn->xP,methodObj->xm,cellsFrom_some->yY,instObj->ym,lookIn->zC,kas_rev->ze,kitx_tuple->z7
open PySem.W.KasT renaming kasWp_bind->vm
open Rat renaming intCast_eq_zero_iff->wC
open Sum renaming inl->vb,inr->zY
open True renaming intro->uL
noncomputable section
namespace L2
open PySem PySem.Spec PyProof.Rows
abbrev Key:=Sum Int Str
noncomputable def QW:Key->pW->qk
 | .inl k,v=>zA k v
 | .inr x,v=>zk x v
noncomputable def nX(w:qq):Key->Int
 | .inl k=>hashInt k
 | .inr x=>hashStr w x
theorem B9:∀{k:Key} {v:pW},QW k v=true->(∃i t,k=vb i/\v=vc i t)\/(∃x t,k=zY x/\v=yK x t)
 | .inl i,v,h=>by
   obtain⟨t,e⟩:=xl (k:=i) (v:=v) h
   exact .inl ⟨i,t,rfl,e⟩
 | .inr x,v,h=>by
   obtain⟨t,e⟩:=Value.isStrOf_shape (x:=x) (v:=v) h
   exact .inr ⟨x,t,rfl,e⟩
theorem VT(i:Int)(t:Tok):QW (.inl i) (.int i t)=true:=by simp[QW,zA]
theorem VG(x:Str)(t:Tok):QW (.inr x) (.str x t)=true:=by simp[QW,zk]
theorem fe(a b:Int):decide ((vb a:Key)=vb b)=(a==b):=by
 by_cases e:a=b
 .subst e;simp
 .have h:¬(vb a:Key)=vb b:=λq=>e (Sum.inl.inj q)
  rw[tP h]
  exact(uo.mpr e).symm
theorem fY(a b:Str):decide ((zY a:Key)=zY b)=decide (a=b):=by
 by_cases e:a=b
 .subst e;simp
 .have h:¬(zY a:Key)=zY b:=λq=>e (Sum.inr.inj q)
  rw[tP h,tP e]
theorem gd(a:Int)(b:Str):decide ((vb a:Key)=zY b)=false:=tP (λq=>nomatch q)
theorem fK(a:Str)(b:Int):decide ((zY a:Key)=vb b)=false:=tP (λq=>nomatch q)
noncomputable def CO(prog:qa)(w:qq):PySem.KeyKind prog w Key where
 is:=QW
 hash:=nX w
 inj:=λv a b ha hb=>by
  rcases B9 ha with⟨i,t,rfl,rfl⟩|⟨x,t,rfl,rfl⟩
  .rcases B9 hb with⟨j,u,rfl,e⟩|⟨y,u,rfl,e⟩
   .injection e with e1 _;rw[e1]
   .exact nomatch e
  .rcases B9 hb with⟨j,u,rfl,e⟩|⟨y,u,rfl,e⟩
   .exact nomatch e
   .injection e with e1 _;rw[e1]
 byValue:=λk v h=>by
  rcases B9 h with⟨i,t,rfl,rfl⟩|⟨x,t,rfl,rfl⟩<;>rfl
 pyHash:=λhv h=>by
  rcases B9 hv with⟨i,t,rfl,rfl⟩|⟨x,t,rfl,rfl⟩
  .exact wpAny_pyHash_int h
  .exact wpAny_pyHash_str h
 eqBool:=λhu hv h=>by
  rcases B9 hu with⟨i,t,rfl,rfl⟩|⟨x,t,rfl,rfl⟩
  .rcases B9 hv with⟨j,u,rfl,rfl⟩|⟨y,u,rfl,rfl⟩
   .rw[fe]at h;exact wpAny_eqBool_int h
   .rw[gd]at h;exact zx i t y u _ _ _ _ h
  .rcases B9 hv with⟨j,u,rfl,rfl⟩|⟨y,u,rfl,rfl⟩
   .rw[fK]at h;exact zy x t j u _ _ _ _ h
   .rw[fY]at h;exact wpAny_eqBool_str h
 «strs» :=λk x t v h=>by
  rcases B9 h with⟨i,u,rfl,e⟩|⟨y,u,rfl,e⟩
  .exact nomatch e
  .injection e with e1 _
   subst e1
   cases v<;>rfl
theorem QK(prog:qa)(w:qq)(i:Int)(t:Tok):(CO prog w).is (.inl i) (.int i t)=true:=VT i t
theorem Qi(prog:qa)(w:qq)(x:Str)(t:Tok):(CO prog w).is (.inr x) (.str x t)=true:=VG x t
end L2
namespace L2
open PySem PySem.Spec PyProof.Rows
inductive V where
 |non|bl (b:qk)|int (i:Int)|str (x:Str)|byt (b:qd UInt8)|flt (b:UInt64)|ref (a:pz)|ty (n:tZ)
 deriving zB
def RelV:V->pW->Prop
 | .non,u=>u=sL
 | .bl b,u=>u=xM b
 | .int i,u=>∃t,u=vc i t
 | .str x,u=>∃t,u=yK x t
 | .byt b,u=>∃t,u=Value.bytes b t
 | .flt b,u=>∃t,u=Value.float b t
 | .ref a,u=>u=qz a
 | .ty n,u=>u=vn n
abbrev Vals:List V->List pW->Prop:=Paired RelV
theorem Vals.length{xs:List V}{us:List pW}(r:Vals xs us):xs.length=us.length:=zl r
theorem Vals.get:∀{xs:List V} {us:List pW} {i:Nat} {x:V},Vals xs us->xs[i]?=Gc x->∃u,us[i]?=Gc u/\RelV x u
 |_,_,_,_,.nil,e=>by simp at e
 |_,_,0,_,.cons r _,e=>by simp at e;subst e;exact⟨_,rfl,r⟩
 |_,_,i+1,x,.cons _ t,e=>by
  obtain⟨u,h1,h2⟩:=Vals.get (i:=i) (x:=x) t (by simpa using e)
  exact⟨u,by simpa using h1,h2⟩
theorem Vals.set{x:V}{u:pW}(r:RelV x u):∀{xs:List V} {us:List pW} (i:Nat),Vals xs us->Vals (xs.set i x) (us.set i u)
 |_,_,_,.nil=>.nil
 |_,_,0,.cons _ t=>.cons r t
 |_,_,i+1,.cons q t=>.cons q (Vals.set r i t)
theorem Vals.append:∀{xs ys:List V} {us ws:List pW},Vals xs us->Vals ys ws->Vals (xs++ys) (us++ws)
 |_,_,_,_,.nil,s=>s
 |_,_,_,_,.cons r t,s=>.cons r (Vals.append t s)
theorem Vals.take:∀{xs:List V} {us:List pW} (n:Nat),Vals xs us->Vals (xs.take n) (us.take n)
 |_,_,0,_=>.nil
 |_,_,_+1,.nil=>.nil
 |_,_,n+1,.cons r t=>.cons r (Vals.take n t)
theorem Vals.drop:∀{xs:List V} {us:List pW} (n:Nat),Vals xs us->Vals (xs.drop n) (us.drop n)
 |_,_,0,r=>r
 |_,_,_+1,.nil=>.nil
 |_,_,n+1,.cons _ t=>Vals.drop n t
theorem Vals.none_of:∀{xs:List V} {us:List pW} {i:Nat},Vals xs us->xs[i]?=none->us[i]?=none:=λ{xs us i} r e=>by
 have h1:=r.length
 have h2:xs.length<=i:=sS.mp e
 exact sS.mpr (by lia)
def V1:pY V->pY pW->Prop
 |some v,Gc u=>RelV v u
 |none,none=>yu
 |_,_=>ur
def KV{κ:Type}:List (κ×V)->List (κ×pW)->Prop:=Paired λ(p:κ×V) (q:κ×pW)=>p.1=q.1/\RelV p.2 q.2
noncomputable def kV:Key->V
 | .inl i=>.int i
 | .inr x=>.str x
inductive HO where
 |lst (xs:List V)
 |tup (xs:List V)
 |dK (kvs:List (Key×V))|dT (kvs:List (List Key×V))
 |set (S:Int->qk) (n:Nat)
 |ins (C dx:pz) (fs:List (Str×V))
 |own (x:pz)
 |xd (fs:List (Str×V))
 |met (f x:pz)
 |rng (lo hi:Int)
 |frz (o:Obj) (u:HO)
 |tbl (ps:qd pW)
 |ext (φ:qu->Prop)
abbrev Hp:=pz->pY HO
noncomputable def upd(H:Hp)(a:pz)(o:HO):Hp:=λb=>if b=a then Gc o else H b
theorem Aw{H:Hp}{a:pz}{o:HO}:upd H a o a=Gc o:=by unfold upd;rw[qc rfl]
theorem Aa{H:Hp}{a b:pz}{o:HO}(h:b≠a):upd H a o b=H b:=by unfold upd;rw[qj h]
theorem aB{H:Hp}{a:pz}{o u:HO}:upd (upd H a o) a u=upd H a u:=by
 funext b;unfold upd;split<;>rfl
theorem ji{H:Hp}{a b:pz}{o u:HO}(h:H a=Gc o)(h':H b=Gc u)(d:o≠u):a≠b:=by
 intro e;subst e;rw[h]at h';exact d (rG h')
theorem BP{H:Hp}{a b:pz}{o:HO}(h:H a=Gc o)(h':H b=none):a≠b:=by
 intro e;subst e;rw[h]at h';cases h'
section
variable(P:qa)(w:qq)
def D3(H:Hp)(h:qu)(a:pz):HO->Prop
 | .lst xs=>xs.length<=sizeLine/\∃(its:List pW) (n:Nat),Vals xs its/\h.get? a=Gc {cls:=.type "list",data:=.seq its.toArray n}
 | .tup xs=>xs.length<=sizeLine/\∃its:List pW,Vals xs its/\IsTup h a its.toArray
 | .dK kvs=>kvs.length<=sizeLine/\(a==sysModules)=false/\∃vs,KV kvs vs/\h.DictOf (CO P w) a vs
 | .dT kvs=>kvs.length<=sizeLine/\(a==sysModules)=false/\∃xs:List (List Key×pz×pW),
    Paired (λ(p:List Key×V) (q:List Key×pz×pW)=>p.1=q.1/\H q.2.1=Gc (.tup (p.1.map kV))/\RelV p.2 q.2.2) kvs xs/\
    ∃o es ep,h.get? a=Gc o/\o.ExactDict/\o.data=.dict es ep/\es.toList=xs.map (entryOfKey (tupleKind (CO P w)))/\(xs.map (·.1)).Nodup
 | .set S n=>h.SetOf (intKind P w) a S n
 | .ins C dx fs=>H dx=Gc (.own a)/\fs.length<=1000/\dx≠a/\h.get? a=Gc (ym C dx)/\
    ∃mA,h.Ns1 dx mA/\(∀f,V1 (fs.lookup f) (mA f))/\PySem.Within mA (fs.map (·.1))
 | .own _=>∃o,h.get? a=Gc o
 | .xd fs=>∃mA,h.Ns1 a mA/\∀f,V1 (fs.lookup f) (mA f)
 | .rng lo hi=>∃t u v,h.get? a=Gc {cls:=.type "range",data:=.fields #[.int lo t,.int hi u,.int 1 v]}
 | .frz o u=>h.get? a=Gc o/\D3 H h a u
 | .tbl ps=>h.get? a=Gc {cls:=.none,data:=.fields ps}
 | .met f x=>h.get? a=Gc (xm (.ref f) (.ref x))
 | .ext φ=>φ h/\(∃o,h.get? a=Gc o)/\∀h1 h2:qu,φ h1->(∀o,h1.get? a=Gc o->h2.get? a=Gc o)->φ h2
def HOk(H:Hp)(h:qu):Prop:=∀a o,H a=Gc o->D3 P w H h a o
end
section
variable{P:qa}{w:qq}{H H':Hp}{h h':qu}{a:pz}{o:HO}
theorem D3.lt(x:D3 P w H h a o):a<h.objs.size:=by
 cases o with
 |lst xs=>obtain⟨_,_,_,_,e⟩:=x;exact qI e
 |tup xs=>obtain⟨_,_,_,p⟩:=x;exact p.lt
 |dK kvs=>obtain⟨_,_,_,_,o,_,_,e,_⟩:=x;exact qI e
 |dT kvs=>obtain⟨_,_,_,_,o,_,_,e,_⟩:=x;exact qI e
 |set S n=>obtain⟨o,_,_,_,e,_⟩:=x;exact qI e
 |ins C dx fs=>obtain⟨_,_,_,e,_⟩:=x;exact qI e
 |own y=>obtain⟨_,e⟩:=x;exact qI e
 |xd fs=>obtain⟨_,⟨_,_,_,e,_⟩,_⟩:=x;exact qI e
 |rng lo hi=>obtain⟨_,_,_,e⟩:=x;exact qI e
 |frz ob u=>obtain⟨e,_⟩:=x;exact qI e
 |tbl ps=>exact qI (show h.get? a=Gc _ from x)
 |met f y=>exact qI (show h.get? a=Gc _ from x)
 |ext φ=>obtain⟨_,⟨_,e⟩,_⟩:=x;exact qI e
theorem Paired.kL{α β:Type}{F G:α->β->Prop}:∀{l₁:List α} {l₂:List β},Paired F l₁ l₂->(∀a b,F a b->G a b)->Paired G l₁ l₂
 |_,_,.nil,_=>.nil
 |_,_,.cons r t,f=>.cons (f _ _ r) (Paired.kL t f)
theorem D3.ZT(x:D3 P w H h a o)(k:∀b u,(b=a\/H b=Gc (.own a))->h.get? b=Gc u->h'.get? b=Gc u)(ho:∀b,H b=Gc (.own a)->H' b=Gc (.own a))(ht:∀b xs,H b=Gc (.tup xs)->H' b=Gc (.tup xs)):D3 P w H' h' a o:=by
 induction o with
 |lst xs=>obtain⟨z,its,n,r,e⟩:=x;exact⟨z,its,n,r,k _ _ (.inl rfl) e⟩
 |tup xs=>obtain⟨z,its,r,ob,e,c⟩:=x;exact⟨z,its,r,ob,k _ _ (.inl rfl) e,c⟩
 |dK kvs=>obtain⟨z,y,vs,r,ob,es,ep,e,c⟩:=x;exact⟨z,y,vs,r,ob,es,ep,k _ _ (.inl rfl) e,c⟩
 |dT kvs=>
  obtain⟨z,y,xs,r,ob,es,ep,e,c⟩:=x
  exact⟨z,y,xs,Paired.kL r λp q z=>⟨z.1,ht _ _ z.2.1,z.2.2⟩,ob,es,ep,k _ _ (.inl rfl) e,c⟩
 |set S n=>obtain⟨ob,es,ep,t,e,c⟩:=x;exact⟨ob,es,ep,t,k _ _ (.inl rfl) e,c⟩
 |ins C dx fs=>
  obtain⟨d,z,ne,e,mA,⟨od,es,ep,e2,c⟩,r⟩:=x
  exact⟨ho _ d,z,ne,k _ _ (.inl rfl) e,mA,⟨od,es,ep,k _ _ (.inr d) e2,c⟩,r⟩
 |own y=>obtain⟨ob,e⟩:=x;exact⟨ob,k _ _ (.inl rfl) e⟩
 |xd fs=>obtain⟨mA,⟨od,es,ep,e,c⟩,r⟩:=x;exact⟨mA,⟨od,es,ep,k _ _ (.inl rfl) e,c⟩,r⟩
 |rng lo hi=>obtain⟨t,u,v,e⟩:=x;exact⟨t,u,v,k _ _ (.inl rfl) e⟩
 |frz ob u ih=>obtain⟨e,q⟩:=x;exact⟨k _ _ (.inl rfl) e,ih q⟩
 |tbl ps=>
  have e:h.get? a=Gc {cls:=.none,data:=.fields ps}:=x
  show h'.get? a=Gc {cls:=.none,data:=.fields ps}
  exact k a _ (.inl rfl) e
 |met f y=>
  have e:h.get? a=Gc (xm (.ref f) (.ref y)):=x
  show h'.get? a=Gc (xm (.ref f) (.ref y))
  exact k a _ (.inl rfl) e
 |ext φ=>obtain⟨p,⟨o,e⟩,st⟩:=x;exact⟨st _ _ p λo q=>k _ _ (.inl rfl) q,⟨o,k _ _ (.inl rfl) e⟩,st⟩
theorem HOk.lt(x:HOk P w H h)(e:H a=Gc o):a<h.objs.size:=(x a o e).lt
theorem HOk.fresh(x:HOk P w H h)(e:h.objs.size<=a):H a=none:=by
 cases q:H a with
 |none=>rfl
 |some u=>exact absurd (qB (x.lt q) e) (tH _)
theorem HOk.kept(x:HOk P w H h)(k:∀b u,h.get? b=Gc u->h'.get? b=Gc u):HOk P w H h':=λa o e=>
 (x a o e).ZT (λb u _ q=>k b u q) (λ_ q=>q) λ_ _ q=>q
theorem HOk.laid(x:HOk P w H h)(k:∀b u,h.get? b=Gc u->h'.get? b=Gc u)(hp:h.objs.size<=a)(new:D3 P w (upd H a o) h' a o):HOk P w (upd H a o) h':=λb u e=>by
 have hn:=x.fresh hp
 by_cases hb:b=a
 .subst hb;rw[Aw]at e;cases e;exact new
 .rw[Aa hb]at e
  exact(x b u e).ZT (λc v _ q=>k c v q) (λc q=>by rw[Aa (BP q hn)];exact q) λc xs q=>by rw[Aa (BP q hn)];exact q
end
def Rd(H:Hp)(a:pz)(u:HO):Prop:=H a=Gc u\/∃o,H a=Gc (.frz o u)
theorem Rd.ok{P:qa}{w:qq}{H:Hp}{h:qu}{a:pz}{u:HO}(r:Rd H a u)(x:HOk P w H h):D3 P w H h a u:=by
 rcases r with r|⟨o,r⟩
 .exact x a u r
 .obtain⟨_,q⟩:=x a _ r
  exact q
def Mut:pY HO->Prop
 |some (.lst _)=>yu
 |some (.dK _)=>yu
 |some (.dT _)=>yu
 |some (.set _ _)=>yu
 |some (.ins _ _ _)=>yu
 |some (.ext _)=>yu
 |_=>ur
section
variable{P:qa}{w:qq}{H:Hp}{h h':qu}{x e:pz}{o':HO}
theorem HOk.write(ok:HOk P w H h)(mu:Mut (H x))(he:e=x\/H e=Gc (.own x))(k:∀b u,b≠e->h.get? b=Gc u->h'.get? b=Gc u)(heo:∃u,h'.get? e=Gc u)(new:D3 P w (upd H x o') h' x o'):HOk P w (upd H x o') h':=λb u q=>by
 have nown:∀c y,H c=Gc (.own y)->c≠x:=λc y r z=>by subst z;rw[r]at mu;exact mu
 have ntup:∀c xs,H c=Gc (.tup xs)->c≠x:=λc xs r z=>by subst z;rw[r]at mu;exact mu
 by_cases hb:b=x
 .subst hb;rw[Aw]at q;cases q;exact new
 .rw[Aa hb]at q
  by_cases hbe:b=e
  .have q':H b=Gc (.own x):=by
    rcases he with z|z
    .exact absurd (hbe.trans z) hb
    .rw[hbe];exact z
   rw[q]at q';cases q'
   obtain⟨v,hv⟩:=heo
   exact⟨v,by rw[hbe];exact hv⟩
  .refine(ok b u q).ZT (λc v hc r=>k c v ?_ r) (λc r=>by rw[Aa (nown c b r)];exact r) λc xs r=>by rw[Aa (ntup c xs r)];exact r
   rcases hc with rfl|hc
   .exact hbe
   .rintro rfl
    rcases he with z|z
    .exact nown c b hc z
    .rw[hc]at z;cases z;exact hb rfl
end
structure Un(fs ex:List pz)(H H':Hp)(h h':qu):Prop where
 keep:∀b o,h.get? b=Gc o->H b=none->b∉fs->b∉ex->h'.get? b=Gc o
 slot:∀b o,h.get? b=Gc o->H b=none->b∈fs->b∉ex->∃sl,h'.get? b=Gc {o with slots:=sl}
 free:∀b o,h.get? b=Gc o->H b=none->b∉ex->H' b=none
 there:∀b o,h.get? b=Gc o->b∉ex->∃o',h'.get? b=Gc o'
 Zq:∀b xs,H b=Gc (.tup xs)->H' b=Gc (.tup xs)
 Wu:∀b o u,H b=Gc (.frz o u)->H' b=Gc (.frz o u)
 ZV:∀b ps,H b=Gc (.tbl ps)->∃more,H' b=Gc (.tbl (ps++more))
section
variable{fs fs' ex ex':List pz}{H H1 H2:Hp}{h h1 h2 h':qu}{a x e:pz}{o:HO}
theorem Un.any(u:Un fs ex H H1 h h1){b:pz}{ob:Obj}(q:h.get? b=Gc ob)(n:H b=none)(hx:b∉ex):∃sl,h1.get? b=Gc {ob with slots:=sl}:=by
 by_cases hb:b∈fs
 .exact u.slot b ob q n hb hx
 .exact⟨ob.slots,u.keep b ob q n hb hx⟩
theorem Un.kept(k:∀b u,h.get? b=Gc u->h'.get? b=Gc u):Un fs ex H H h h':=
 ⟨λb ob q _ _ _=>k b ob q,λb ob q _ _ _=>⟨ob.slots,k b ob q⟩,λ_ _ _ n _=>n,λb ob q _=>⟨ob,k b ob q⟩,λ_ _ q=>q,λ_ _ _ q=>q,λ_ ps q=>⟨#[],by rw[q];simp⟩⟩
theorem Un.refl:Un fs ex H H h h:=Un.kept λ_ _ q=>q
theorem Un.laid(k:∀b u,h.get? b=Gc u->h'.get? b=Gc u)(hp:h.objs.size<=a)(hn:H a=none):Un fs ex H (upd H a o) h h' where
 keep:=λb u q _ _ _=>k b u q
 slot:=λb u q _ _ _=>⟨u.slots,k b u q⟩
 free:=λb u q n _=>by rw[Aa (qN (qB (qI q) hp))];exact n
 there:=λb u q _=>⟨u,k b u q⟩
 Zq:=λb xs q=>by rw[Aa (BP q hn)];exact q
 Wu:=λb u xs q=>by rw[Aa (BP q hn)];exact q
 ZV:=λb ps q=>⟨#[],by rw[Aa (BP q hn),q];simp⟩
theorem Un.write(mu:Mut (H x))(he:e=x\/H e=Gc (.own x))(k:∀b u,b≠e->h.get? b=Gc u->h'.get? b=Gc u)(heo:∃u,h'.get? e=Gc u):Un fs ex H (upd H x o) h h':=by
 have hx:∀b,H b=none->b≠x:=λb n z=>by subst z;rw[n]at mu;exact mu
 have hb:∀b,H b=none->b≠e:=λb n z=>by
  subst z
  rcases he with r|r
  .exact hx b n r
  .rw[n]at r;cases r
 have hm:∀b u,H b=Gc u->¬Mut (Gc u)->b≠x:=λb u q nm z=>by subst z;rw[q]at mu;exact nm mu
 refine⟨λb u q n _ _=>k b u (hb b n) q,λb u q n _ _=>⟨u.slots,k b u (hb b n) q⟩,λb u q n _=>by rw[Aa (hx b n)];exact n,λb u q _=>?_,
  λb xs q=>by rw[Aa (hm b _ q λz=>z)];exact q,λb u xs q=>by rw[Aa (hm b _ q λz=>z)];exact q,λb ps q=>⟨#[],by rw[Aa (hm b _ q λz=>z),q];simp⟩⟩
 by_cases hbe:b=e
 .subst hbe;exact heo
 .exact⟨u,k b u hbe q⟩
end
noncomputable def trk(h:qu)(H:Hp):List pz:=(qR h.objs.size).filter λa=>(H a).isSome
noncomputable def WO(h:qu)(H:Hp):qu:=PySem.W.hideAll h (trk h H)
theorem VI(h:qu)(H:Hp):(WO h H).objs.size=h.objs.size:=PySem.W.hideAll_size _ _
theorem XX{h:qu}{H:Hp}{b:pz}{o:Obj}(e:h.get? b=Gc o)(n:H b=none):(WO h H).get? b=Gc o:=
 PySem.W.hideAll_get _ e λhm=>by
  have q:(H b).isSome=true:=(se.mp hm).2
  rw[n]at q;simp at q
theorem bX{h:qu}{H:Hp}{b:pz}{o:Obj}(e:(WO h H).get? b=Gc o):h.get? b=Gc o/\H b=none:=by
 have e':h.get? b=Gc o:=PySem.W.of_hideAll (trk h H) e
 refine⟨e',?_⟩
 cases q:H b with
 |none=>rfl
 |some x=>
  have hm:b∈trk h H:=se.mpr ⟨uu.mpr (qI e'),by simp[q]⟩
  have z:(WO h H).get? b=none:=PySem.W.hideAll_none (trk h H) hm
  rw[z]at e;cases e
noncomputable def cR(g h:qu)(L:pz):List (pz×Obj):=(qR h.objs.size).filterMap λa=>if a=L\/(g.get? a).isSome=true then none else(h.get? a).map λo=>(a,o)
noncomputable def rest(g h:qu)(L d:pz):List (pz×Obj):=(cR g h L).filter λp=>decide (p.1≠d)
end L2
namespace L2
open PySem PySem.Spec PyProof.Rows
structure Mod(K:pV)(mg:Str->pY pW)(base:qu):Prop where
 kin:K.In base
 glob:base.Ns mainGlobals mg
 blt:∃mb,base.Ns builtinsNs mb/\∀x:Str,x≠ "__name__"->mb x=bootBuiltins x
 nolimit:base.NoLimit
structure Cx where
 prog:qa
 w:qq
 K:pV
 mg:Str->pY pW
 base:qu
 A:qx
 N:List Str
 s₀:pX
 H₀:Hp
 env:Env
 outer:List Env
 stack:List Env
 ex:List pz
 fn:Str->qk
 calm:qk
 pn:List (pz×Obj)
 xe:pW->pX->Prop
noncomputable def frs(l:List Env):List pz:=l.filterMap (·.frame)
abbrev Cx.fs(X:Cx):List pz:=frs X.outer
def Vis(sc:tT)(x:Str):Prop:=sc.names.lookup x=Gc .local\/sc.names.lookup x=Gc .cell\/sc.names.lookup x=Gc .free
def Loc(sc:tT)(x:Str):Prop:=sc.names.lookup x=Gc .local\/sc.names.lookup x=Gc .cell
def Look(env:Env)(h:qu)(m:Str->pY pW)(x:Str)(u:pW):Prop:=
 (env.kindOf x=Gc .local/\m x=Gc u)\/((env.kindOf x=Gc .cell\/env.kindOf x=Gc .free)/\∃c,env.cells.lookup x=Gc c/\h.IsCell c (Gc u))
structure Cx.Ok(X:Cx):Prop where
 mod:Mod X.K X.mg X.base
 kind:X.env.scope.kind=.function
 glob:X.env.globals=mainGlobals
 blt:X.env.builtins=builtinsNs
 above:X.s₀.heap.objs.size<=X.env.locals
 inj:∀x y c,X.env.cells.lookup x=Gc c->X.env.cells.lookup y=Gc c->x=y
 has:∀x,(X.env.kindOf x=Gc .cell\/X.env.kindOf x=Gc .free)->∃c,X.env.cells.lookup x=Gc c
 cab:∀x c,X.fn x=true->X.env.cells.lookup x=Gc c->X.s₀.heap.objs.size<=c
 hd:X.calm=true->X.A.handled=none
 frames:X.A.frames=Gc X.stack
 stk:X.stack=X.outer\/(X.stack=X.env::X.outer/\X.env.frame=Gc X.env.locals)
 exf:∀b∈X.ex,b≠X.env.locals/\∀x c,X.env.cells.lookup x=Gc c->c≠b
 bs:∀b o,X.base.get? b=Gc o->X.s₀.heap.get? b=Gc o/\X.H₀ b=none
 bsz:X.base.objs.size<=X.s₀.heap.objs.size
 bq:∀b o,X.base.get? b=Gc o->b∉X.ex
 bP:∀b∈X.ex,b∉X.fs
 Up:X.s₀.heap.FunFrames X.base X.outer
 frf:∀b∈X.fs,X.H₀ b=none
structure Inv(X:Cx)(pins:List (pz×Obj))(σ:List (pY V))(H:Hp)(s:pX):Prop where
 ok:X.Ok
 os:s.os=X.s₀.os
 bare:xn s.gens
 base:Un X.fs X.ex X.H₀ H X.s₀.heap s.heap
 loc:∃m,s.heap.Ns X.env.locals m/\∀(i:Nat) (x:Str) (v:V),X.N[i]?=Gc x->σ[i]?=Gc (Gc v)->Vis X.env.scope x->∃u,RelV v u/\Look X.env s.heap m x u
 cell:∀x c,X.env.cells.lookup x=Gc c->∃v,s.heap.IsCell c v
 free:H X.env.locals=none
 MZ:∀x c,X.env.cells.lookup x=Gc c->H c=none
 pin:∀p∈X.pn++pins,s.heap.get? p.1=Gc p.2/\H p.1=none/\p.1≠X.env.locals/\p.1∉X.fs/\∀v,p.2.data≠.cell v
 hok:HOk X.prog X.w H s.heap
 len:σ.length=X.N.length
section
variable{X:Cx}{pins:List (pz×Obj)}{σ:List (pY V)}{H H':Hp}{s:pX}{h':qu}
theorem Cx.Ok.m9(ok:X.Ok){b:pz}{o:Obj}(e:X.base.get? b=Gc o):b∉X.fs:=λhb=>by
 have:=(ok.Up.mem hb).1
 rw[e]at this;cases this
theorem Inv.bs(I:Inv X pins σ H s):∀b o,X.base.get? b=Gc o->s.heap.get? b=Gc o/\H b=none:=λb o e=>
 ⟨I.base.keep b o (I.ok.bs b o e).1 (I.ok.bs b o e).2 (I.ok.m9 e) (I.ok.bq b o e),I.base.free b o (I.ok.bs b o e).1 (I.ok.bs b o e).2 (I.ok.bq b o e)⟩
theorem Inv.bk(I:Inv X pins σ H s):∀b o,X.base.get? b=Gc o->s.heap.get? b=Gc o:=λb o e=>(I.bs b o e).1
theorem Inv.mod(I:Inv X pins σ H s):Mod X.K X.mg X.base:=I.ok.mod
theorem Inv.kIn(I:Inv X pins σ H s):X.K.In s.heap:=I.ok.mod.kin.keeps I.bk
theorem Inv.lt(I:Inv X pins σ H s):X.env.locals<s.heap.objs.size:=let⟨_,hn,_⟩:=I.loc;hn.lt
theorem Inv.sz(I:Inv X pins σ H s):X.s₀.heap.objs.size<=s.heap.objs.size:=qD I.ok.above (sF I.lt)
theorem Inv.nM(I:Inv X pins σ H s){a:pz}(h:s.heap.objs.size<=a):a∉X.fs:=λhb=>by
 obtain⟨_,o,ho,_⟩:=I.ok.Up.mem hb
 exact absurd (qB (qI ho) (qD I.sz h)) (tH _)
theorem Inv.cne(I:Inv X pins σ H s):∀x c,X.env.cells.lookup x=Gc c->c≠X.env.locals:=λx c e z=>by
 obtain⟨v,o,ho,hd⟩:=I.cell x c e
 obtain⟨m,⟨o',es,ep,ho',hd',_⟩,_⟩:=I.loc
 rw[z,ho']at ho;cases ho;rw[hd']at hd;cases hd
theorem Inv.Up(I:Inv X pins σ H s):s.heap.FunFrames X.base X.outer:=by
 have all:∀(l:List Env),(∀b∈frs l,b∈X.fs)->X.s₀.heap.FunFrames X.base l->s.heap.FunFrames X.base l:=by
  intro l
  induction l with
  |nil=>intro _ _;trivial
  |cons env r ih=>
   intro hs hl
   obtain⟨hk,⟨L,o,hf,hn,ho,hd⟩,hr⟩:=hl
   have hL:L∈X.fs:=hs L (by unfold frs;rw[qY,hf];exact qH)
   obtain⟨sl,e⟩:=I.base.slot L o ho (I.ok.frf L hL) hL λz=>I.ok.bP L z hL
   exact⟨hk,⟨L,_,hf,hn,e,hd⟩,ih (λb hb=>hs b (by unfold frs;rw[qY,hf];exact qC _ hb)) hr⟩
 exact all X.outer (λ_ hb=>hb) I.ok.Up
theorem Inv.stack(I:Inv X pins σ H s):s.heap.FunFrames X.base X.stack:=by
 rcases I.ok.stk with e|⟨e,hf⟩
 .rw[e];exact I.Up
 .rw[e]
  obtain⟨m,hn,_⟩:=I.loc
  refine .cons (by rw[I.ok.kind];decide) hf hn ?_ I.Up
  exact Heap.get?_none_of_le (qD I.ok.bsz I.ok.above)
theorem Inv.Vd(I:Inv X pins σ H s):∀b∈frs X.stack,b∈X.env.locals::X.fs:=λb hb=>by
 rcases I.ok.stk with e|⟨e,hf⟩
 .rw[e]at hb;exact qC _ hb
 .rw[e]at hb
  unfold frs at hb
  rw[qY,hf]at hb
  exact hb
theorem Inv.UP(I:Inv X pins σ H s):∀b∈frs X.stack,H b=none:=λb hb=>by
 rcases qA.mp (I.Vd b hb)with e|hb
 .rw[e];exact I.free
 .obtain⟨_,o,ho,_⟩:=I.ok.Up.mem hb
  exact I.base.free b o ho (I.ok.frf b hb) λz=>I.ok.bP b z hb
theorem Inv.step{g':qd GenState}{t':Nat}{d':Drawn}{ch:List pz}(I:Inv X pins σ H s)(hch:∀b∈ch,(b∈X.ex\/X.s₀.heap.objs.size<=b)/\b≠X.env.locals/\(∀x c,X.env.cells.lookup x=Gc c->c≠b)/\∀p∈X.pn++pins,p.1≠b)(keep:∀b o,b≠X.env.locals->b∉X.fs->b∉ch->s.heap.get? b=Gc o->H b=none->h'.get? b=Gc o)(slot:∀b o,b≠X.env.locals->b∈X.fs->b∉ch->s.heap.get? b=Gc o->H b=none->∃sl,h'.get? b=Gc {o with slots:=sl})(free:∀b o,b∉ch->s.heap.get? b=Gc o->H b=none->H' b=none)(there:∀b o,b∉ch->s.heap.get? b=Gc o->∃o',h'.get? b=Gc o')(Zq:∀b xs,H b=Gc (.tup xs)->H' b=Gc (.tup xs))(Wu:∀b o u,H b=Gc (.frz o u)->H' b=Gc (.frz o u))(ZV:∀b ps,H b=Gc (.tbl ps)->∃more,H' b=Gc (.tbl (ps++more)))(ns:∀m,s.heap.Ns X.env.locals m->h'.Ns X.env.locals m)(hok:HOk X.prog X.w H' h')(hg:xn g'):Inv X pins σ H' {s with heap:=h',gens:=g',drawn:=d',toks:=t'}:=by
 have neL:∀b o,X.s₀.heap.get? b=Gc o->b≠X.env.locals:=λb o e=>qN (qB (qI e) I.ok.above)
 have neC:∀b o,X.s₀.heap.get? b=Gc o->b∉X.ex->b∉ch:=λb o e hx hb=>by
  rcases(hch b hb).1 with z|z
  .exact hx z
  .exact absurd (qB (qI e) z) (tH _)
 have cellK:∀x c,X.env.cells.lookup x=Gc c->∀v,s.heap.IsCell c v->h'.IsCell c v:=λx c e v ⟨o,ho,hd⟩=>by
  have nch:c∉ch:=λz=>(hch c z).2.2.1 x c e rfl
  by_cases hc:c∈X.fs
  .obtain⟨sl,q⟩:=slot c o (I.cne x c e) hc nch ho (I.MZ x c e)
   exact⟨_,q,hd⟩
  .exact⟨o,keep c o (I.cne x c e) hc nch ho (I.MZ x c e),hd⟩
 refine⟨I.ok,I.os,hg,⟨λb o e n hb hx=>?_,λb o e n hb hx=>?_,λb o e n hx=>?_,λb o e hx=>?_,λb xs e=>Zq b xs (I.base.Zq b xs e),λb o xs e=>Wu b o xs (I.base.Wu b o xs e),λb ps e=>?_⟩,?_,λx c e=>?_,?_,λx c e=>?_,λp hp=>?_,hok,I.len⟩
 .exact keep b o (neL b o e) hb (neC b o e hx) (I.base.keep b o e n hb hx) (I.base.free b o e n hx)
 .obtain⟨sl,e1⟩:=I.base.slot b o e n hb hx
  obtain⟨sl',e2⟩:=slot b _ (neL b o e) hb (neC b o e hx) e1 (I.base.free b o e n hx)
  exact⟨sl',e2⟩
 .obtain⟨o',e1⟩:=I.base.there b o e hx
  exact free b o' (neC b o e hx) e1 (I.base.free b o e n hx)
 .obtain⟨o',e1⟩:=I.base.there b o e hx
  exact there b o' (neC b o e hx) e1
 .obtain⟨m1,e1⟩:=I.base.ZV b ps e
  obtain⟨m2,e2⟩:=ZV b _ e1
  exact⟨m1++m2,by rw[e2,Array.append_assoc]⟩
 .obtain⟨m,hn,hl⟩:=I.loc
  refine⟨m,ns m hn,λi x v e1 e2 e3=>?_⟩
  obtain⟨u,r,l⟩:=hl i x v e1 e2 e3
  refine⟨u,r,?_⟩
  rcases l with l|⟨k,c,e,z⟩
  .exact .inl l
  .exact .inr ⟨k,c,e,cellK x c e _ z⟩
 .obtain⟨v,z⟩:=I.cell x c e
  exact⟨v,cellK x c e v z⟩
 .obtain⟨m,⟨o,_,_,ho,_⟩,_⟩:=I.loc
  exact free _ o (λz=>(hch _ z).2.1 rfl) ho I.free
 .obtain⟨v,o,ho,hd⟩:=I.cell x c e
  exact free c o (λz=>(hch c z).2.2.1 x c e rfl) ho (I.MZ x c e)
 .obtain⟨e,n,ne,nf,d⟩:=I.pin p hp
  have nch:p.1∉ch:=λz=>(hch p.1 z).2.2.2 p hp rfl
  exact⟨keep p.1 p.2 ne nf nch e n,free p.1 p.2 nch e n,ne,nf,d⟩
theorem Inv.un{t':Nat}(I:Inv X pins σ H s)(u:Un X.fs [] H H' s.heap h')(hok:HOk X.prog X.w H' h'):Inv X pins σ H' {s with heap:=h',toks:=t'}:=by
 obtain⟨m,⟨o,es,ep,ho,r⟩,_⟩:=id I.loc
 obtain⟨sl,hL⟩:=u.any ho I.free (by simp)
 exact I.step (g':=s.gens) (d':=s.drawn) (ch:=[]) (λ_ z=>nomatch z) (λb o _ hb _ e n=>u.keep b o e n hb (by simp)) (λb o _ hb _ e n=>u.slot b o e n hb (by simp)) (λb o _ e n=>u.free b o e n (by simp)) (λb o _ e=>u.there b o e (by simp)) u.Zq u.Wu u.ZV (λm' hm=>by
  obtain⟨o',es',ep',ho',r'⟩:=hm
  rw[ho]at ho';cases ho'
  exact⟨_,es',ep',hL,r'⟩) hok I.bare
theorem Inv.call{g':qd GenState}{t':Nat}{d':Drawn}{ch:List pz}(I:Inv X pins σ H s)(u:Un (frs X.stack) ch H H' s.heap h')(hok:HOk X.prog X.w H' h')(hg:xn g')(hch:∀b∈ch,(b∈X.ex\/X.s₀.heap.objs.size<=b)/\b≠X.env.locals/\(∀x c,X.env.cells.lookup x=Gc c->c≠b)/\∀p∈X.pn++pins,p.1≠b):Inv X pins σ H' {s with heap:=h',gens:=g',drawn:=d',toks:=t'}:=by
 obtain⟨m,⟨o,es,ep,ho,r⟩,_⟩:=id I.loc
 obtain⟨sl,hL⟩:=u.any ho I.free λz=>(hch _ z).2.1 rfl
 exact I.step (ch:=ch) hch (λb o hL hb hc e n=>u.keep b o e n (λz=>(qA.mp (I.Vd b z)).elim hL hb) hc) (λb o _ _ hc e n=>u.any e n hc) (λb o hc e n=>u.free b o e n hc) (λb o hc e=>u.there b o e hc) u.Zq u.Wu u.ZV (λm' hm=>by
  obtain⟨o',es',ep',ho',r'⟩:=hm
  rw[ho]at ho';cases ho'
  exact⟨_,es',ep',hL,r'⟩) hok hg
theorem Inv.turned{t':Nat}{it:pz}(I:Inv X pins σ H s)(k:∀b o,b≠it->s.heap.get? b=Gc o->h'.get? b=Gc o)(hn:H it=none)(hL:it≠X.env.locals)(h1:it∈X.ex\/X.s₀.heap.objs.size<=it)(h2:∀x c,X.env.cells.lookup x=Gc c->c≠it)(h3:∀p∈X.pn++pins,p.1≠it):Inv X pins σ H {s with heap:=h',toks:=t'}:=by
 have nit:∀b u,H b=Gc u->b≠it:=λb u e z=>by rw[z,hn]at e;cases e
 refine I.step (g':=s.gens) (d':=s.drawn) (ch:=[it]) (λb hb=>?_) (λb o _ _ hc e _=>k b o (λz=>hc (by simp[z])) e) (λb o _ _ hc e _=>⟨o.slots,k b o (λz=>hc (by simp[z])) e⟩) (λ_ _ _ _ n=>n)
  (λb o hc e=>⟨o,k b o (λz=>hc (by simp[z])) e⟩) (λ_ _ e=>e) (λ_ _ _ e=>e) (λb ps e=>⟨#[],by rw[e];simp⟩) (λm hm=>?_) (λb u e=>?_) I.bare
 .have e:b=it:=by simpa using hb
  subst e
  exact⟨h1,hL,h2,h3⟩
 .obtain⟨o,es,ep,ho,r⟩:=hm
  exact⟨o,es,ep,k _ o (rm hL) ho,r⟩
 .refine(I.hok b u e).ZT (λc v hc q=>k c v ?_ q) (λ_ q=>q) λ_ _ q=>q
  rcases hc with z|z
  .rw[z];exact nit b u e
  .exact nit c _ z
theorem Inv.tok(I:Inv X pins σ H s)(t:Nat):Inv X pins σ H {s with toks:=t}:=I.un (h':=s.heap) (t':=t) Un.refl I.hok
theorem Inv.kept{t':Nat}(I:Inv X pins σ H s)(k:∀b u,s.heap.get? b=Gc u->h'.get? b=Gc u):Inv X pins σ H {s with heap:=h',toks:=t'}:=I.un (Un.kept k) (I.hok.kept k)
theorem Inv.laid{a:pz}{o:HO}{t':Nat}(I:Inv X pins σ H s)(k:∀b u,s.heap.get? b=Gc u->h'.get? b=Gc u)(hp:s.heap.objs.size<=a)(new:D3 X.prog X.w (upd H a o) h' a o):Inv X pins σ (upd H a o) {s with heap:=h',toks:=t'}:=I.un (Un.laid k hp (I.hok.fresh hp)) (I.hok.laid k hp new)
theorem Inv.write{x e:pz}{o:HO}{t':Nat}(I:Inv X pins σ H s)(mu:Mut (H x))(he:e=x\/H e=Gc (.own x))(k:∀b u,b≠e->s.heap.get? b=Gc u->h'.get? b=Gc u)(heo:∃u,h'.get? e=Gc u)(new:D3 X.prog X.w (upd H x o) h' x o):Inv X pins σ (upd H x o) {s with heap:=h',toks:=t'}:=I.un (Un.write mu he k heo) (I.hok.write mu he k heo new)
theorem Inv.VR{pins':List (pz×Obj)}(I:Inv X pins σ H s)(h:∀p∈pins',s.heap.get? p.1=Gc p.2/\H p.1=none/\p.1≠X.env.locals/\p.1∉X.fs/\∀v,p.2.data≠.cell v):Inv X pins' σ H s:=
 ⟨I.ok,I.os,I.bare,I.base,I.loc,I.cell,I.free,I.MZ,λp hp=>(qW.mp hp).elim (λz=>I.pin p (wk _ z)) (h p),I.hok,I.len⟩
theorem RH{N:List Str}(hN:N.Nodup){i j:Nat}{x:Str}(a:N[i]?=Gc x)(b:N[j]?=Gc x):i=j:=by
 obtain⟨h1,e1⟩:=qF.mp a
 obtain⟨h2,e2⟩:=qF.mp b
 exact(uv hN).mp (e1.trans e2.symm)
theorem Pw{M:Model}{A:qx}{E:pW->pX->Prop}{i:Nat}{x:Str}{v:V}{u:pW}{Q:Unit->pX->Prop}(I:Inv X pins σ H s)(hN:X.N.Nodup)(hi:X.N[i]?=Gc x)(hx:Loc X.env.scope x)(r:RelV v u)(h:∀s',Inv X pins (σ.set i (Gc v)) H s'->(∃a,t9 a s.heap s'.heap/\(a=X.env.locals\/X.env.cells.lookup x=Gc a))->Q () s')(hf:X.fn x=true\/X.env.scope.names.lookup x=Gc .local:=by first|exact .inl rfl|exact .inr rfl|assumption):wpAny M A (storeName X.env x u) Q E s:=by
 obtain⟨m,hn,hl⟩:=id I.loc
 have hcls:(X.env.scope.kind== .class||(X.env.scope.kind== .module && X.env.locals !=X.env.globals))=false:=by rw[I.ok.kind];rfl
 have hiσ:i<σ.length:=by rw[I.len];exact(qF.mp hi).1
 have cne:=I.cne
 have tracked:∀{a:pz} {h':qu},(∃o,s.heap.get? a=Gc o/\H a=none)->t9 a s.heap h'->HOk X.prog X.w H h':=λ{a h'} ha hs b ob e=>by
  obtain⟨_,_,hfree⟩:=ha
  refine(I.hok b ob e).ZT (λc w' hc q=>(hs.2 c ?_).trans q) (λ_ q=>q) λ_ _ q=>q
  rintro rfl
  rcases hc with rfl|hc
  .rw[hfree]at e;cases e
  .rw[hfree]at hc;cases hc
 rcases hx with hk|hk
 .refine wpAny_storeName_local hk hn (λh' hn' hs=>?_) hcls
  obtain⟨oL,_,_,hoL,_⟩:=id hn
  refine h _ ⟨I.ok,I.os,I.bare,⟨λb o e n hb hx=>?_,λb o e n hb hx=>?_,I.base.free,λb o e hx=>?_,I.base.Zq,I.base.Wu,I.base.ZV⟩,⟨_,hn',λj y v' e1 e2 e3=>?_⟩,λy c e=>?_,I.free,I.MZ,λp hp=>?_,tracked ⟨oL,hoL,I.free⟩ hs,by simpa using I.len⟩ ⟨_,hs,.inl rfl⟩
  .exact(hs.2 b (qN (qB (qI e) I.ok.above))).trans (I.base.keep b o e n hb hx)
  .obtain⟨sl,e1⟩:=I.base.slot b o e n hb hx
   exact⟨sl,(hs.2 b (qN (qB (qI e) I.ok.above))).trans e1⟩
  .obtain⟨o',e1⟩:=I.base.there b o e hx
   exact⟨o',(hs.2 b (qN (qB (qI e) I.ok.above))).trans e1⟩
  .by_cases hj:j=i
   .subst hj
    rw[hi]at e1;cases e1
    rw[qL hiσ]at e2
    cases e2
    exact⟨u,r,.inl ⟨hk,by simp⟩⟩
   .rw[qE (rm hj)]at e2
    obtain⟨u',r',q⟩:=hl j y v' e1 e2 e3
    refine⟨u',r',?_⟩
    rcases q with⟨k,e⟩|⟨k,c,e,z⟩
    .refine .inl ⟨k,?_⟩
     have:y≠x:=λe=>hj (RH hN e1 (e▸hi))
     simp[this,e]
    .exact .inr ⟨k,c,e,z.sameBut hs (cne y c e)⟩
  .obtain⟨w',z⟩:=I.cell y c e
   exact⟨w',z.sameBut hs (cne y c e)⟩
  .obtain⟨e,n,ne,nf,d⟩:=I.pin p hp
   exact⟨(hs.2 p.1 ne).trans e,n,ne,nf,d⟩
 .have hfn:X.fn x=true:=by
   rcases hf with z|z
   .exact z
   .rw[z]at hk;cases hk
  obtain⟨c,hc⟩:=I.ok.has x (.inl hk)
  obtain⟨w',z⟩:=I.cell x c hc
  refine wpAny_storeName_cell I.ok.kind hk hc z (λh' hc' hs=>?_)
  obtain⟨oc,hoc,hocd⟩:=id z
  refine h {s with heap:=h'} ⟨I.ok,I.os,I.bare,⟨λb o e n hb hx=>?_,λb o e n hb hx=>?_,I.base.free,λb o e hx=>?_,I.base.Zq,I.base.Wu,I.base.ZV⟩,⟨m,hn.sameBut hs (rm (cne x c hc)),λj y v' e1 e2 e3=>?_⟩,λy c' e=>?_,I.free,I.MZ,λp hp=>?_,tracked ⟨oc,hoc,I.MZ x c hc⟩ hs,by simpa using I.len⟩ ⟨c,hs,.inr hc⟩
  .exact(hs.2 b (qN (qB (qI e) (I.ok.cab x c hfn hc)))).trans (I.base.keep b o e n hb hx)
  .obtain⟨sl,e1⟩:=I.base.slot b o e n hb hx
   exact⟨sl,(hs.2 b (qN (qB (qI e) (I.ok.cab x c hfn hc)))).trans e1⟩
  .obtain⟨o',e1⟩:=I.base.there b o e hx
   exact⟨o',(hs.2 b (qN (qB (qI e) (I.ok.cab x c hfn hc)))).trans e1⟩
  .by_cases hj:j=i
   .subst hj
    rw[hi]at e1;cases e1
    rw[qL hiσ]at e2
    cases e2
    exact⟨u,r,.inr ⟨.inl hk,c,hc,hc'⟩⟩
   .rw[qE (rm hj)]at e2
    obtain⟨u',r',q⟩:=hl j y v' e1 e2 e3
    refine⟨u',r',?_⟩
    rcases q with q|⟨k,c',e,z'⟩
    .exact .inl q
    .refine .inr ⟨k,c',e,z'.sameBut hs ?_⟩
     rintro rfl
     exact hj (RH hN e1 (I.ok.inj _ _ _ e hc▸hi))
  .by_cases hcc:c'=c
   .subst hcc;exact⟨_,hc'⟩
   .obtain⟨w2,z2⟩:=I.cell y c' e
    exact⟨w2,z2.sameBut hs hcc⟩
  .obtain⟨e,n,ne,nf,d⟩:=I.pin p hp
   refine⟨(hs.2 p.1 ?_).trans e,n,ne,nf,d⟩
   intro q
   rw[q,hoc]at e
   have q':oc=p.2:=rG e
   exact d w' (by rw[<-q'];exact hocd)
theorem K6{M:Model}{A:qx}{E:pW->pX->Prop}{i:Nat}{x:Str}{v:V}{u:pW}{Q:Unit->pX->Prop}(I:Inv X pins σ H s)(hN:X.N.Nodup)(hi:X.N[i]?=Gc x)(hx:Loc X.env.scope x)(r:RelV v u)(h:∀s',Inv X pins (σ.set i (Gc v)) H s'->Q () s')(hf:X.fn x=true\/X.env.scope.names.lookup x=Gc .local:=by first|exact .inl rfl|exact .inr rfl|assumption):wpAny M A (storeName X.env x u) Q E s:=
 Pw I hN hi hx r (λs' I' _=>h s' I') hf
theorem Inv.eM{s':pX}{ch:List pz}(I:Inv X pins σ H s)(ho:s'.os=s.os)(u:Un (frs X.stack) ch H H' s.heap s'.heap)(hok:HOk X.prog X.w H' s'.heap)(hg:xn s'.gens)(hch:∀b∈ch,(b∈X.ex\/X.s₀.heap.objs.size<=b)/\b≠X.env.locals/\(∀x c,X.env.cells.lookup x=Gc c->c≠b)/\∀p∈X.pn++pins,p.1≠b):Inv X pins σ H' s':=by
 obtain⟨h',g',d',t',o'⟩:=s'
 have e:o'=s.os:=ho
 subst e
 exact I.call (g':=g') (t':=t') (d':=d') u hok hg hch
end
abbrev XK:=pW->pY pz->Hp->Prop
abbrev St:=List (pY V)
abbrev VK:=V->Hp->Prop
abbrev TE:=St->Hp->VK->Prop
abbrev TT:=St->Hp->(qk->Hp->Prop)->Prop
abbrev TA:=St->Hp->(List V->Hp->Prop)->Prop
structure Ends where
 nx:St->Hp->Prop
 rt:VK
 bk:St->Hp->Prop:=λ_ _=>ur
 ct:St->Hp->Prop:=λ_ _=>ur
abbrev TS:=Ends->St->Hp->Prop
def EP(X:Cx)(pins:List (pz×Obj))(σ:St)(Q:VK)(u:pW)(s':pX):Prop:=∃v H',Inv X pins σ H' s'/\RelV v u/\Q v H'
def TP(X:Cx)(pins:List (pz×Obj))(σ:St)(Q:qk->Hp->Prop)(b:qk)(s':pX):Prop:=∃H',Inv X pins σ H' s'/\Q b H'
def AP(X:Cx)(pins:List (pz×Obj))(σ:St)(Q:List V->Hp->Prop)(us:List pW)(s':pX):Prop:=∃vs H',Inv X pins σ H' s'/\Vals vs us/\Q vs H'
def SP(X:Cx)(pins:List (pz×Obj))(D:Ends)(f:Flow)(s':pX):Prop:=
 match f with
 | .next=>∃σ' H',Inv X pins σ' H' s'/\D.nx σ' H'
 | .brk=>∃σ' H',Inv X pins σ' H' s'/\D.bk σ' H'
 | .cont=>∃σ' H',Inv X pins σ' H' s'/\D.ct σ' H'
 | .ret u=>∃v σ' H',Inv X pins σ' H' s'/\RelV v u/\D.rt v H'
def PE(X:Cx)(e:qh)(t:TE):Prop:=
 ∀(pins:List (pz×Obj)) (s:pX) (σ:St) (H:Hp) (Q:VK),Inv X pins σ H s->t σ H Q->wpAny (model X.prog X.w) X.A (eval e X.env) (EP X pins σ Q) X.xe s
def PT(X:Cx)(e:qh)(t:TT):Prop:=
 ∀(pins:List (pz×Obj)) (s:pX) (σ:St) (H:Hp) (Q:qk->Hp->Prop),Inv X pins σ H s->t σ H Q->wpAny (model X.prog X.w) X.A (isTrue e X.env (eval e X.env)) (TP X pins σ Q) X.xe s
def PW(X:Cx)(e:qh)(t:TT):Prop:=
 ∀(whole:Sem pW) (pins:List (pz×Obj)) (s:pX) (σ:St) (H:Hp) (Q:qk->Hp->Prop),Inv X pins σ H s->t σ H Q->wpAny (model X.prog X.w) X.A (isTrue e X.env whole) (TP X pins σ Q) X.xe s
theorem PW.pt{X:Cx}{e:qh}{t:TT}(h:PW X e t):PT X e t:=h _
def PA(X:Cx)(es:List qh)(t:TA):Prop:=
 ∀(pos:Pos) (pins:List (pz×Obj)) (s:pX) (σ:St) (H:Hp) (Q:List V->Hp->Prop),Inv X pins σ H s->t σ H Q->wpAny (model X.prog X.w) X.A (spliced (backTo pos (qb es X.env))) (AP X pins σ Q) X.xe s
def PS(X:Cx)(st:rO)(t:TS):Prop:=
 ∀(pins:List (pz×Obj)) (s:pX) (σ:St) (H:Hp) (D:Ends),Inv X pins σ H s->t D σ H->wpAny (model X.prog X.w) X.A (exec st X.env) (SP X pins D) X.xe s
def PSs(X:Cx)(st:List rO)(t:TS):Prop:=
 ∀(pins:List (pz×Obj)) (s:pX) (σ:St) (H:Hp) (D:Ends),Inv X pins σ H s->t D σ H->wpAny (model X.prog X.w) X.A (execs st X.env) (SP X pins D) X.xe s
theorem thn{α:Type}{t:Sem α}{Q Q':α->pX->Prop}{M:Model}{A:qx}{E:pW->pX->Prop}{s:pX}(h:wpAny M A t Q E s)(hQ:∀a s,Q a s->Q' a s):wpAny M A t Q' E s:=wZ h hQ λ_ _ x=>x
end L2
namespace L2
open PySem PySem.Spec PyProof.Rows
section
variable{X:Cx}
noncomputable def mH(i:Nat):TE:=λσ H Q=>∃v,σ[i]?=Gc (Gc v)/\Q v H
noncomputable def tC(v:V):TE:=λ_ H Q=>Q v H
theorem ZZ{i:Nat}{x:Str}{pos:Pos}(hN:X.N[i]?=Gc x)(hv:Vis X.env.scope x)(hd:(x==("__debug__":Str))=false:=by decide)(hcd:(x==("__classdict__":Str))=false:=by decide):PE X (.Name x pos) (mH i):=by
 intro pins s σ H Q I h
 obtain⟨v,e,h⟩:=h
 obtain⟨m,hn,hl⟩:=I.loc
 obtain⟨u,r,l⟩:=hl i x v hN e hv
 have fin:EP X pins σ Q u s:=⟨v,H,I,r,h⟩
 rcases l with⟨hk,hm⟩|⟨hk,c,hc,hcell⟩
 .exact wpAny_Name (wpAny_loadName_local I.ok.kind hk hn hm fin) hd
 .rcases hk with hk|hk
  .exact wpAny_Name (wpAny_loadName_cell I.ok.kind hk hc hcell fin) hd
  .exact wpAny_Name (wpAny_loadName_free I.ok.kind hk hc hcell fin hcd) hd
theorem Ys{i j pos}:PE X (.Constant (.int i) j pos) (tC (.int i)):=λ_ _ _ H _ I h=>wpAny_Constant_int ⟨.int i,H,I.tok _,⟨_,rfl⟩,h⟩
theorem kQ{b j pos}:PE X (.Constant (.bool b) j pos) (tC (.bl b)):=λ_ _ _ H _ I h=>Constant_bool ⟨.bl b,H,I,rfl,h⟩
theorem gm{j pos}:PE X (.Constant .none j pos) (tC .non):=λ_ _ _ H _ I h=>Constant_none ⟨.non,H,I,rfl,h⟩
theorem dZ{x j pos}:PE X (.Constant (.str x) j pos) (tC (.str x)):=λ_ _ _ H _ I h=>Calls.Constant_str ⟨.str x,H,I.tok _,⟨_,rfl⟩,h⟩
def Gl(X:Cx)(x:Str):Prop:=X.env.kindOf x=Gc .globalImplicit
theorem bN{E:pW->pX->Prop}{pins:List (pz×Obj)}{s:pX}{σ:St}{H:Hp}{x:Str}{u:pW}{pos:Pos}{Q:pW->pX->Prop}(I:Inv X pins σ H s)(hg:Gl X x)(hm:X.mg x=Gc u)(h:Q u s)(hd:(x==("__debug__":Str))=false:=by decide):wpAny (model X.prog X.w) X.A (eval (.Name x pos) X.env) Q E s:=
 xN I.ok.kind hg (Calls.loadGlobal_global (by rw[I.ok.glob];exact I.mod.glob.keeps I.bk) hm h) hd
theorem JX{E:pW->pX->Prop}{pins:List (pz×Obj)}{s:pX}{σ:St}{H:Hp}{x:Str}{u:pW}{pos:Pos}{Q:pW->pX->Prop}(I:Inv X pins σ H s)(hg:Gl X x)(hm:X.mg x=none)(hv:bootBuiltins x=Gc u)(h:Q u s)(hn:x≠ "__name__":=by decide)(hd:(x==("__debug__":Str))=false:=by decide):wpAny (model X.prog X.w) X.A (eval (.Name x pos) X.env) Q E s:=by
 obtain⟨mb,h1,h2⟩:=I.mod.blt
 exact xN I.ok.kind hg (Calls.loadGlobal_builtin (by rw[I.ok.glob];exact I.mod.glob.keeps I.bk) hm (by rw[I.ok.blt];exact h1.keeps I.bk) ((h2 x hn).trans hv) h) hd
theorem aq{x:Str}{v:V}{u:pW}{pos:Pos}(hg:Gl X x)(hm:X.mg x=none)(hv:bootBuiltins x=Gc u)(r:RelV v u)(hn:x≠ "__name__":=by decide)(hd:(x==("__debug__":Str))=false:=by decide):PE X (.Name x pos) (tC v):=
 λ_ _ _ H _ I h=>JX I hg hm hv ⟨v,H,I,r,h⟩ hn hd
variable{a b:qh}{ta tb:TE}{pos:Pos}
noncomputable def tB(t:TE):TT:=λσ H Q=>t σ H λx H1=>∃c,x=.bl c/\Q c H1
theorem fT{e:qh}{t:TE}(h:PE X e t)(he:∀whole,isTrue e X.env whole=(do let v<-whole;standAt e.pos;holding [v] (truthy v)):=by intro _;rfl):PT X e (tB t):=by
 intro pins s σ H Q I hw
 refine isTrue_plain (thn (h pins s σ H _ I hw) λv s1 ⟨x,H1,I1,r1,q1⟩=>?_) (he _)
 obtain⟨d,rfl,q⟩:=q1
 cases r1
 exact ua ⟨H1,I1,q⟩
variable{tA tB':TT}{rest:List qh}
noncomputable def nO(t u:TT):TT:=λσ H Q=>t σ H λc H1=>if c=true then u σ H1 Q else Q false H1
noncomputable def tOr(t u:TT):TT:=λσ H Q=>t σ H λc H1=>if c=true then Q true H1 else u σ H1 Q
noncomputable def nH(t:TT):TT:=λσ H Q=>t σ H λc H1=>Q (!c) H1
theorem af(ha:PT X a tA):PW X (.BoolOp .And [a] pos) tA:=by
 intro wh pins s σ H Q I h
 refine isTrue_and (thn (ha pins s σ H Q I h) λc s1 e=>?_)
 cases c with
 |true=>exact isTrue_and_nil e
 |false=>exact e
theorem dJ(ha:PT X a tA):PW X (.BoolOp .Or [a] pos) tA:=by
 intro wh pins s σ H Q I h
 refine isTrue_or (thn (ha pins s σ H Q I h) λc s1 e=>?_)
 cases c with
 |false=>exact isTrue_or_nil e
 |true=>exact e
theorem gg(ha:PT X a tA)(hb:PW X (.BoolOp .And (b::rest) pos) tB'):PW X (.BoolOp .And (a::b::rest) pos) (nO tA tB'):=by
 intro wh pins s σ H Q I h
 refine isTrue_and (thn (ha pins s σ H _ I h) λc s1 ⟨H1,I1,q1⟩=>?_)
 cases c with
 |true=>exact hb wh pins s1 σ H1 Q I1 q1
 |false=>exact⟨H1,I1,q1⟩
theorem jv(ha:PT X a tA)(hb:PW X (.BoolOp .Or (b::rest) pos) tB'):PW X (.BoolOp .Or (a::b::rest) pos) (tOr tA tB'):=by
 intro wh pins s σ H Q I h
 refine isTrue_or (thn (ha pins s σ H _ I h) λc s1 ⟨H1,I1,q1⟩=>?_)
 cases c with
 |true=>exact⟨H1,I1,q1⟩
 |false=>exact hb wh pins s1 σ H1 Q I1 q1
theorem dg(ha:PT X a tA):PT X (.UnaryOp .Not a pos) (nH tA):=by
 intro pins s σ H Q I h
 exact isTrue_not (ha pins s σ H (λc H1=>Q (!c) H1) I h)
noncomputable def lF(ta tb:TE):TE:=λσ H Q=>ta σ H λx H1=>∃c,x=.bl c/\if c=true then tb σ H1 Q else Q (.bl false) H1
noncomputable def kX(ta:TE):TE:=λσ H Q=>ta σ H λx H1=>∃c,x=.bl c/\Q (.bl (!c)) H1
theorem fX{op}{t:TE}(h:PE X a t):PE X (.BoolOp op [a] pos) t:=λpins s σ H Q I hw=>BoolOp_one (h pins s σ H Q I hw)
theorem gj(ha:PE X a ta)(hb:PE X (.BoolOp .And (b::rest) pos) tb):PE X (.BoolOp .And (a::b::rest) pos) (lF ta tb):=by
 intro pins s σ H Q I h
 refine BoolOp_and (thn (ha pins s σ H _ I h) λv s1 ⟨x,H1,I1,r1,q1⟩=>?_)
 obtain⟨c,rfl,q1⟩:=q1
 cases r1
 refine ua ?_
 cases c with
 |true=>exact hb pins s1 σ H1 Q I1 q1
 |false=>exact⟨.bl false,H1,I1,rfl,q1⟩
theorem dR(ha:PE X a ta):PE X (.UnaryOp .Not a pos) (kX ta):=by
 intro pins s σ H Q I h
 refine UnaryOp_ (thn (ha pins s σ H _ I h) λv s1 ⟨x,H1,I1,r1,q1⟩=>?_)
 obtain⟨c,rfl,q1⟩:=q1
 cases r1
 exact not_of (ua ⟨.bl (!c),H1,I1,rfl,q1⟩)
end
end L2
namespace L2
open PySem PySem.Spec PyProof.Rows
def SqL(K:pV)(H:Hp)(a:pz)(xs:List V):Prop:=
 Rd H a (.lst xs)∨
  ∃(o:Obj) (its:qd pW) (n:Nat),K.lookup a=Gc o/\o.cls=.type "list" /\o.dict=none/\o.data=.seq its n/\its.size<=sizeLine/\Vals xs its.toList
def SqT(K:pV)(H:Hp)(a:pz)(xs:List V):Prop:=
 Rd H a (.tup xs)∨
  ∃(o:Obj) (its:qd pW) (n:Nat),K.lookup a=Gc o/\o.cls=.type "tuple" /\o.data=.seq its n/\its.size<=sizeLine/\Vals xs its.toList
noncomputable def nS:pW->pY V
 | .none=>Gc .non
 | .bool b=>Gc (.bl b)
 | .int i _=>Gc (.int i)
 | .str x _=>Gc (.str x)
 | .bytes b _=>Gc (.byt b)
 | .float b _=>Gc (.flt b)
 | .ref a=>Gc (.ref a)
 | .type n=>Gc (.ty n)
 |_=>none
theorem RelV.abs{x:V}{u:pW}(r:RelV x u):nS u=Gc x:=by
 cases x with
 |non=>cases r;rfl
 |bl _=>cases r;rfl
 |int _=>obtain⟨t,rfl⟩:=r;rfl
 |str _=>obtain⟨t,rfl⟩:=r;rfl
 |byt _=>obtain⟨t,rfl⟩:=r;rfl
 |flt _=>obtain⟨t,rfl⟩:=r;rfl
 |ref _=>cases r;rfl
 |ty _=>cases r;rfl
theorem RelV.inj{x y:V}{u:pW}(r:RelV x u)(q:RelV y u):x=y:=rG (r.abs.symm.trans q.abs)
theorem Vals.inj:∀{xs ys:List V} {us:List pW},Vals xs us->Vals ys us->xs=ys
 |_,_,_,.nil,.nil=>rfl
 |_,_,_,.cons r t,.cons r' t'=>by rw[r.inj r',Vals.inj t t']
section
variable{X:Cx}{pins:List (pz×Obj)}{σ:St}{H:Hp}{s:pX}{a:pz}{xs ys:List V}
theorem SqL.of{K:pV}(h:H a=Gc (.lst xs)):SqL K H a xs:=.inl (.inl h)
theorem SqT.of{K:pV}(h:H a=Gc (.tup xs)):SqT K H a xs:=.inl (.inl h)
theorem Inv.list(I:Inv X pins σ H s)(h:SqL X.K H a xs):∃its:List pW,Vals xs its/\PlainL s.heap a its.toArray/\xs.length<=sizeLine:=by
 rcases h with h|⟨o,its,n,hk,hc,hd,hs,hz,r⟩
 .obtain⟨z,its,n,r,e⟩:=h.ok I.hok
  exact⟨its,r,⟨_,n,e,rfl,rfl,rfl⟩,z⟩
 .refine⟨its.toList,r,⟨o,n,I.kIn a o hk,hc,hd,by simpa using hs⟩,?_⟩
  have e:=r.length
  simp only[rY]at e
  lia
theorem Inv.tuple(I:Inv X pins σ H s)(h:SqT X.K H a xs):∃its:List pW,Vals xs its/\IsTup s.heap a its.toArray/\xs.length<=sizeLine:=by
 rcases h with h|⟨o,its,n,hk,hc,hs,hz,r⟩
 .obtain⟨z,its,r,p⟩:=h.ok I.hok
  exact⟨its,r,p,z⟩
 .refine⟨its.toList,r,⟨o,I.kIn a o hk,hc,n,by simpa using hs⟩,?_⟩
  have e:=r.length
  simp only[rY]at e
  lia
theorem Inv.RN(I:Inv X pins σ H s)(h:SqL X.K H a xs)(h':SqL X.K H a ys):xs=ys:=by
 obtain⟨its,r,⟨o,n,e,_,_,d⟩,_⟩:=I.list h
 obtain⟨its',r',⟨o',n',e',_,_,d'⟩,_⟩:=I.list h'
 rw[e]at e';cases e'
 rw[d]at d'
 injection d' with d1 _
 have:its=its':=by simpa using congrArg Array.toList d1
 subst this
 exact r.inj r'
theorem Inv.PY(I:Inv X pins σ H s)(h:SqT X.K H a xs)(h':SqT X.K H a ys):xs=ys:=by
 obtain⟨its,r,⟨o,e,_,n,d⟩,_⟩:=I.tuple h
 obtain⟨its',r',⟨o',e',_,n',d'⟩,_⟩:=I.tuple h'
 rw[e]at e';cases e'
 rw[d]at d'
 injection d' with d1 _
 have:its=its':=by simpa using congrArg Array.toList d1
 subst this
 exact r.inj r'
end
abbrev Cx.Vr(X:Cx)(E:pW->pX->Prop):Cx:={X with xe:=E}
abbrev Cx.nox(X:Cx):Cx:=X.Vr λ_ _=>ur
theorem Cx.Ok.Vr{X:Cx}(ok:X.Ok)(E:pW->pX->Prop):(X.Vr E).Ok:=
 ⟨ok.mod,ok.kind,ok.glob,ok.blt,ok.above,ok.inj,ok.has,ok.cab,ok.hd,ok.frames,ok.stk,ok.exf,ok.bs,ok.bsz,ok.bq,ok.bP,ok.Up,ok.frf⟩
theorem Cx.Ok.KN{X:Cx}{E:pW->pX->Prop}(ok:(X.Vr E).Ok):X.Ok:=
 ⟨ok.mod,ok.kind,ok.glob,ok.blt,ok.above,ok.inj,ok.has,ok.cab,ok.hd,ok.frames,ok.stk,ok.exf,ok.bs,ok.bsz,ok.bq,ok.bP,ok.Up,ok.frf⟩
section
variable{X:Cx}{pins:List (pz×Obj)}{σ:St}{H:Hp}{s:pX}{E:pW->pX->Prop}
theorem Inv.Vr(I:Inv X pins σ H s)(E:pW->pX->Prop):Inv (X.Vr E) pins σ H s:=⟨I.ok.Vr E,I.os,I.bare,I.base,I.loc,I.cell,I.free,I.MZ,I.pin,I.hok,I.len⟩
theorem Inv.KN(I:Inv (X.Vr E) pins σ H s):Inv X pins σ H s:=⟨I.ok.KN,I.os,I.bare,I.base,I.loc,I.cell,I.free,I.MZ,I.pin,I.hok,I.len⟩
theorem SP.KN{D:Ends}{f:Flow}{s':pX}(h:SP (X.Vr E) pins D f s'):SP X pins D f s':=by
 cases f with
 |next=>obtain⟨σ',H',I,q⟩:=h;exact⟨σ',H',I.KN,q⟩
 |brk=>obtain⟨σ',H',I,q⟩:=h;exact⟨σ',H',I.KN,q⟩
 |cont=>obtain⟨σ',H',I,q⟩:=h;exact⟨σ',H',I.KN,q⟩
 |ret u=>obtain⟨v,σ',H',I,r,q⟩:=h;exact⟨v,σ',H',I.KN,r,q⟩
theorem PSs.nox{st:List rO}{t:TS}(h:PSs X.nox st t):PSs X st t:=λpins s σ H D I hw=>
 wZ (h pins s σ H D (I.Vr _) hw) (λ_ _ q=>q.KN) λ_ _ z=>vC z
end
section
variable{X:Cx}{st:rO}{rest:List rO}{t u:TS}{e:qh}{te:TE}{pos:Pos}
noncomputable def jt:TS:=λD σ H=>D.nx σ H
noncomputable def m7(t u:TS):TS:=λD σ H=>t {D with nx:=u D} σ H
theorem UN:PSs X [] jt:=λ_ _ σ H _ I h=>wu ⟨σ,H,I,h⟩
theorem Nx(h1:PS X st t)(h2:PSs X rest u):PSs X (st::rest) (m7 t u):=by
 intro pins s σ H D I h
 refine wpAny_execs_cons (thn (h1 pins s σ H {D with nx:=u D} I h) λf s1 q=>?_)
 cases f with
 |next=>
  obtain⟨σ',H',I',q⟩:=q
  exact h2 pins s1 σ' H' D I' q
 |ret v=>exact q
 |brk=>exact q
 |cont=>exact q
theorem Tt(h1:PS X st t):PSs X [st] t:=by
 intro pins s σ H D I h
 refine wpAny_execs_cons (thn (h1 pins s σ H D I h) λf s1 q=>?_)
 cases f with
 |next=>exact wu q
 |ret v=>exact q
 |brk=>exact q
 |cont=>exact q
noncomputable def lI:TS:=λD σ H=>D.ct σ H
theorem QN:PS X (.Continue pos) lI:=λ_ _ σ H _ I h=>wpAny_Continue ⟨σ,H,I,h⟩
theorem Inv.quiet{pins:List (pz×Obj)}{σ:St}{H:Hp}{s:pX}(I:Inv X pins σ H s):interactive X.env=false:=by simp[interactive,I.ok.kind]
noncomputable def jx(te:TE):TS:=λD σ H=>te σ H λ_ H1=>D.nx σ H1
theorem aA(he:PE X e te)(hs:swapsWith e none pos.line X.env=pure false:=by rfl):PS X (.Expr e pos) (jx te):=by
 intro pins s σ H D I h
 exact wpAny_Expr_any (thn (he pins s σ H _ I h) λv s1 ⟨x,H1,I1,r1,q1⟩=>⟨σ,H1,I1,q1⟩) I.quiet hs
noncomputable def oP(te:TE):TS:=λD σ H=>te σ H D.rt
theorem gh(he:PE X e te):PS X (.Return (Gc e) pos) (oP te):=by
 intro pins s σ H D I h
 exact wpAny_Return_some (thn (he pins s σ H _ I h) λv s1 ⟨x,H1,I1,r1,q1⟩=>⟨x,σ,H1,I1,r1,q1⟩)
noncomputable def nY(c:TT)(t u:TS):TS:=λD σ H=>c σ H λb H1=>if b=true then t D σ H1 else u D σ H1
theorem eE{c:qh}{a b:List rO}{tc:TT}(hc:PT X c tc)(ha:PSs X a t)(hb:PSs X b u):PS X (.If c a b pos) (nY tc t u):=by
 intro pins s σ H D I h
 refine wpAny_If (thn (hc pins s σ H _ I h) λd s1 ⟨H1,I1,q1⟩=>?_)
 cases d with
 |true=>exact ha pins s1 σ H1 D I1 q1
 |false=>exact hb pins s1 σ H1 D I1 q1
end
abbrev TG:=V->St->Hp->(St->Hp->Prop)->Prop
abbrev TGs:=List V->St->Hp->(St->Hp->Prop)->Prop
def PG(X:Cx)(target:qh)(t:TG):Prop:=
 ∀(pins:List (pz×Obj)) (s:pX) (σ:St) (H:Hp) (v:V) (u:pW) (Q:St->Hp->Prop),Inv X pins σ H s->RelV v u->t v σ H Q->
  wpAny (model X.prog X.w) X.A (assign target X.env u) (λ_ s'=>∃σ' H',Inv X pins σ' H' s'/\Q σ' H') X.xe s
def PGs(X:Cx)(ts:List qh)(t:TGs):Prop:=
 ∀(pins:List (pz×Obj)) (s:pX) (σ:St) (H:Hp) (vs:List V) (us:List pW) (Q:St->Hp->Prop),Inv X pins σ H s->Vals vs us->t vs σ H Q->
  wpAny (model X.prog X.w) X.A (assignInOrder ((assignEach ts X.env).map (·.2)) us) (λ_ s'=>∃σ' H',Inv X pins σ' H' s'/\Q σ' H') X.xe s
abbrev k9:=V->V->V->Hp->(Hp->Prop)->Prop
def lQ(X:Cx)(t:k9):Prop:=
 ∀(pins:List (pz×Obj)) (s:pX) (σ:St) (H:Hp) (o i v:V) (ov iv u:pW) (Q:Hp->Prop),Inv X pins σ H s->RelV o ov->RelV i iv->RelV v u->t o i v H Q->
  wpAny (model X.prog X.w) X.A (setItem ov iv u) (λ_ s'=>∃H',Inv X pins σ H' s'/\Q H') X.xe s
section
variable{X:Cx}{pos:Pos}
noncomputable def Zy(i:Nat):TG:=λv σ H Q=>Q (σ.set i (Gc v)) H
theorem bp{i:Nat}{x:Str}(hN:X.N.Nodup)(hi:X.N[i]?=Gc x)(hx:Loc X.env.scope x)(hf:X.fn x=true\/X.env.scope.names.lookup x=Gc .local:=by first|exact .inl rfl|exact .inr rfl|assumption):PG X (.Name x pos) (Zy i):=by
 intro pins s σ H v u Q I r h
 exact wpAny_assign_Name (K6 I hN hi hx r (λs' I'=>⟨_,H,I',h⟩) hf)
noncomputable def mD:TGs:=λvs σ H Q=>vs=[]/\Q σ H
noncomputable def eW(t:TG)(u:TGs):TGs:=λvs σ H Q=>∃v r,vs=v::r/\t v σ H λσ' H'=>u r σ' H' Q
theorem Z7:PGs X [] mD:=by
 intro pins s σ H vs us Q I r h
 obtain⟨e,h⟩:=h
 subst e
 cases r
 exact assignInOrder_nil ⟨σ,H,I,h⟩
theorem WX{e:qh}{es:List qh}{t:TG}{u:TGs}(h1:PG X e t)(h2:PGs X es u)(hs:(assignEach (e::es) X.env).map (·.2)=assign e X.env::(assignEach es X.env).map (·.2):=by rfl):PGs X (e::es) (eW t u):=by
 intro pins s σ H vs us Q I r h
 obtain⟨v,vr,e1,h⟩:=h
 subst e1
 cases r with
 |cons r rr=>
  rw[hs]
  refine xO (thn (h1 pins s σ H _ _ _ I r h) λ_ s1 ⟨σ1,H1,I1,q1⟩=>?_)
  exact h2 pins s1 σ1 H1 _ _ Q I1 rr q1
noncomputable def nR(K:pV)(n:Nat)(t:TGs):TG:=λv σ H Q=>∃a xs,v=.ref a/\SqT K H a xs/\xs.length=n/\t xs σ H Q
theorem gG{es:List qh}{k:Nat}{t:TGs}{n:Nat}(hc:X.calm=true)(h:PGs X es t)(hn:(assignEach es X.env).length=n:=by rfl)(hst:(assignEach es X.env).findIdx? (·.1)=none:=by rfl):PG X (.Tuple es k pos) (nR X.K n t):=by
 intro pins s σ H v u Q I r hw
 obtain⟨a,xs,e1,hq,hl,hw⟩:=hw
 subst e1
 cases r
 obtain⟨its,rv,ht,hz⟩:=I.tuple hq
 refine assign_Tuple_tuple (I.ok.hd hc) ht (by simp[hn,<-hl,rv.length]) hst λh' hx=>?_
 have I1:Inv X pins σ H {s with heap:=h'}:=I.kept (t':=s.toks) λb o e=>hx b o (qN (qI e)) e
 exact h pins _ σ H xs _ Q I1 (by simpa using rv) hw
noncomputable def oH(to ti:TE)(t:k9):TG:=λv σ H Q=>to σ H λo H1=>ti σ H1 λi H2=>t o i v H2 λH3=>Q σ H3
theorem gB {o i : qh} {to ti : TE} {t : k9} (ho : PE X o to) (hi : PE X i ti) (hs : lQ X t) (ha : ∀ v, assign (.Subscript o i pos) X.env v = (do
      let ov ← holding [v] (eval o X.env)
      let iv ← holding [v, ov] (eval i X.env)
      standAt pos
      holding [v, ov, iv] (setItem ov iv v)
      release [v, ov, iv] []) := by intro _; rfl) : PG X (.Subscript o i pos) (oH to ti t) := by
  intro pins s σ H v u Q I r h
  rw [ha]
  refine Wp (rB (thn (ho pins s σ H _ I h) fun ov s1 ⟨x, H1, I1, r1, q1⟩ => ?_))
  refine Wp (rB (thn (hi pins s1 σ H1 _ I1 q1) fun iv s2 ⟨y, H2, I2, r2, q2⟩ => ?_))
  refine Wp (uE (Wp (rB (thn (hs pins s2 σ H2 x y v ov iv u _ I2 r1 r2 r q2) fun _ s3 ⟨H3, I3, q3⟩ => ?_))))
  exact wpAny_release ⟨σ, H3, I3, q3⟩
noncomputable def ku(te:TE)(g:TG):TS:=λD σ H=>te σ H λx H1=>g x σ H1 D.nx
theorem Yo{tg e:qh}{te:TE}{g:TG}(he:PE X e te)(hg:PG X tg g)(hs:swapsWithSole [tg] e pos.line X.env=pure false:=by rfl)(hw:swappedStores [tg] e X.env=pure none:=by rfl)(h1:(assignEach [tg] X.env).map (·.2)=[assign tg X.env]:=by rfl):PS X (.Assign [tg] e pos) (ku te g):=by
 intro pins s σ H D I h
 refine wpAny_Assign_stores (thn (he pins s σ H _ I h) λv s1 ⟨x,H1,I1,r1,q1⟩=>?_) hs hw
 rw[h1]
 exact thn (hg pins s1 σ H1 x v _ I1 r1 q1) λ_ s2 q=>q
theorem dj{i:Nat}{x:Str}{e:qh}{te:TE}{pos':Pos}(hN:X.N.Nodup)(hi:X.N[i]?=Gc x)(hx:Loc X.env.scope x)(he:PE X e te)(hs:swapsWith e (Gc (.Name x pos')) pos.line X.env=pure false:=by rfl)(hf:X.fn x=true\/X.env.scope.names.lookup x=Gc .local:=by first|exact .inl rfl|exact .inr rfl|assumption):PS X (.Assign [.Name x pos'] e pos) (ku te (Zy i)):=by
 intro pins s σ H D I h
 refine wpAny_Assign_Name (thn (he pins s σ H _ I h) λv s1 ⟨y,H1,I1,r1,q1⟩=>?_) hs
 exact K6 I1 hN hi hx r1 (λs2 I2=>⟨_,H1,I2,q1⟩) hf
noncomputable def oA(i j:Nat)(ta:TA):TS:=λD σ H=>ta σ H λvs H1=>∃v w,vs=[v,w]/\D.nx ((σ.set i (Gc v)).set j (Gc w)) H1
theorem dX{i j:Nat}{x y:Str}{a b:qh}{ta:TA}{px py pt:Pos}{kt k2 pt2}(hc:X.calm=true)(hN:X.N.Nodup)(hi:X.N[i]?=Gc x)(hj:X.N[j]?=Gc y)(hij:i≠j)(hx:X.env.scope.names.lookup x=Gc .local)(hy:X.env.scope.names.lookup y=Gc .local)(ha:PA X [a,b] ta)(hw:swappedStores [.Tuple [.Name x px,.Name y py] kt pt] (.Tuple [a,b] k2 pt2) X.env=pure (Gc [x,y]))(hs:swapsWithSole [.Tuple [.Name x px,.Name y py] kt pt] (.Tuple [a,b] k2 pt2) pos.line X.env=pure false:=by rfl):PS X (.Assign [.Tuple [.Name x px,.Name y py] kt pt] (.Tuple [a,b] k2 pt2) pos) (oA i j ta):=by
 intro pins s σ H D I h
 rw[exec_Assign_arm]
 refine Wp (uE ?_)
 rw[hs]
 refine Wp (pZ ?_)
 rw[qj (by decide)]
 refine Wp (Tuple_ (thn (ha _ pins s σ H _ I h) λus s1 ⟨vs,H1,I1,r1,q1⟩=>?_))
 obtain⟨v,w,e1,q1⟩:=q1
 subst e1
 obtain⟨u1,u2,rfl,rv,rw'⟩:∃u1 u2,us=[u1,u2]/\RelV v u1/\RelV w u2:=by
  cases r1 with
  |cons p q=>
   cases q with
   |cons p' q'=>
    cases q'
    exact⟨_,_,rfl,p,p'⟩
 refine qr ?_ (by show 2<=sizeLine;decide)
 have I2:Inv X pins σ H1 {s1 with heap:=s1.heap.push {cls:=.type "tuple",data:=.seq [u1,u2].toArray}}:=I1.kept (t':=s1.toks) λb o e=>pU _ e
 rw[hw]
 refine Wp (pZ ?_)
 show wpAny (model X.prog X.w) X.A (do rule "assign.swapped-stores"; let items<-unpackItems (.ref s1.heap.objs.size) 2 none;assignInOrder [λv=>bindName X.env y v,λv=>bindName X.env x v] items.reverse;pure Flow.next) _ _ _
 refine Wp (uh (Wp (unpackItems_tuple (items:= #[u1,u2]) (I.ok.hd hc) (ui s1.heap _) λh' hx'=>?_)))
 have I3:=I2.kept (h':=h') (t':=s1.toks) λb o e=>hx' b o (qN (qI e)) e
 show wpAny _ _ (assignInOrder [λv=>bindName X.env y v,λv=>bindName X.env x v] [u2,u1] >>= λ_=>pure Flow.next) _ _ _
 refine Wp (xO (wpAny_bindName (K6 I3 hN hj (.inl hy) rw' (λs2 I4=>?_) (.inr hy))))
 refine xO (wpAny_bindName (K6 I4 hN hi (.inl hx) rv (λs3 I5=>assignInOrder_nil (pZ ?_)) (.inr hx)))
 rw[List.set_comm _ _ (rm hij)]at I5
 exact⟨_,H1,I5,q1⟩
end
section
variable{X:Cx}{pos:Pos}
noncomputable def gR(c:TT)(tb:TS):TS:=λD σ H=>∃W:Nat->St->Hp->Prop,(∃m,W m σ H)/\∀m σ H,W m σ H->
 c σ H λb H1=>if b=true then∃N:St->Hp->Prop,(∀σ' H',N σ' H'->∃m',m'<m/\W m' σ' H')/\tb {D with nx:=N,ct:=N,bk:=D.nx} σ H1 else D.nx σ H1
theorem X9{c:qh}{body:List rO}{tc:TT}{tb:TS}(hp:zZ (model X.prog X.w) X.A X.env X.xe)(hc:PT X c tc)(hb:PSs X body tb):PS X (.While c body [] pos) (gR tc tb):=by
 intro pins s σ H D I h
 obtain⟨W,⟨m0,w0⟩,turn⟩:=h
 refine wpAny_While (codeAny_whileLoop (λn s'=>∃σ' H',Inv X pins σ' H' s'/\W n σ' H') ?_ m0 ⟨σ,H,I,w0⟩)
 rintro n s1 ⟨σ1,H1,I1,w1⟩
 refine uW hp (thn (hc pins s1 σ1 H1 _ I1 (turn n σ1 H1 w1)) λb s2 ⟨H2,I2,q2⟩=>?_)
 cases b with
 |true=>
  obtain⟨N,hN,q2⟩:=q2
  rw[qc rfl]
  refine uW hp (thn (hb pins s2 σ1 H2 _ I2 q2) λf s3 q3=>?_)
  cases f with
  |next=>
   obtain⟨σ3,H3,I3,n3⟩:=q3
   obtain⟨m',hm,w3⟩:=hN σ3 H3 n3
   exact⟨m',hm,σ3,H3,I3,w3⟩
  |cont=>
   obtain⟨σ3,H3,I3,n3⟩:=q3
   obtain⟨m',hm,w3⟩:=hN σ3 H3 n3
   exact⟨m',hm,σ3,H3,I3,w3⟩
  |brk=>exact q3
  |ret v=>exact q3
 |false=>
  rw[qj rH]
  exact wu ⟨σ1,H2,I2,q2⟩
end
structure It where
 go:Nat->Hp->Prop
 yld:Nat->Hp->V->Hp->Prop
 stop:Nat->Hp->Prop
def Mz(X:Cx)(pins:List (pz×Obj))(H:Hp)(b:pz):Prop:=
 H b=none/\b≠X.env.locals/\b∉X.fs/\(b∈X.ex\/X.s₀.heap.objs.size<=b)/\(∀x c,X.env.cells.lookup x=Gc c->c≠b)/\∀p∈X.pn++pins,p.1≠b
theorem Inv.ZU{X:Cx}{pins:List (pz×Obj)}{σ:St}{H H':Hp}{s:pX}{b:pz}(I:Inv X pins σ H s)(hb:s.heap.objs.size<=b)(hn:H' b=none):Mz X pins H' b:=by
 refine⟨hn,vD (qB I.lt hb),I.nM hb,.inr (qD I.sz hb),λx c e z=>?_,λp hp z=>?_⟩
 .obtain⟨v,q⟩:=I.cell x c e
  exact absurd (qB q.lt (by rw[z];exact hb)) (tH _)
 .exact absurd (qB (qI (I.pin p hp).1) (by rw[z];exact hb)) (tH _)
structure Turn(P:qa)(w:qq)(K:pV)(tg:qh)(J:It)(fp:List pz)(it:pz)(tn:Nat->qu->Prop):Prop where
 mem:it∈fp
 obj:∀i h,tn i h->∀b∈fp,∃o,h.get? b=Gc o/\∀v,o.data≠.cell v
 keep:∀i h h',tn i h->(∀b∈fp,∀o,h.get? b=Gc o->h'.get? b=Gc o)->tn i h'
 item:∀(X:Cx),X.prog=P->X.w=w->X.K=K->X.calm=true->∀(i:Nat) (pins:List (pz×Obj)) (s:pX) (σ:St) (H:Hp) (E:pW->pX->Prop),Inv X pins σ H s->(∀b∈fp,Mz X pins H b)->tn i s.heap->J.go i H->
  wpAny (model P w) X.A (pyNext (.ref it)) (λr s1=>∃u,r=Gc u/\
   wpAny (model P w) X.A (letOwnedTupleGo tg (.ref it) u) (λ_ s2=>∃x H',Inv X pins σ H' s2/\RelV x u/\J.yld i H x H'/\tn (i+1) s2.heap/\∀b∈fp,H' b=none) E s1) E s
 done:∀(X:Cx),X.prog=P->X.w=w->X.K=K->X.calm=true->∀(i:Nat) (pins:List (pz×Obj)) (s:pX) (σ:St) (H:Hp) (E:pW->pX->Prop),Inv X pins σ H s->(∀b∈fp,Mz X pins H b)->tn i s.heap->J.stop i H->
  wpAny (model P w) X.A (pyNext (.ref it)) (λr s1=>r=none/\Inv X pins σ H s1) E s
 self:∀(A:qx) (i:Nat) (s:pX) (Q:pW->pX->Prop) (E:pW->pX->Prop),tn i s.heap->Q (.ref it) s->wpAny (model P w) A (pyIter (.ref it)) Q E s
abbrev TI:=St->Hp->(It->Hp->Prop)->Prop
def PIE(X:Cx)(pins:List (pz×Obj))(σ:St)(tg:qh)(R:It->Hp->Prop)(itv:pW)(s2:pX):Prop:=
 ∃(it:pz) (fp:List pz) (tn:Nat->qu->Prop) (J:It) (H':Hp),itv=.ref it/\Inv X pins σ H' s2/\Turn X.prog X.w X.K tg J fp it tn/\tn 0 s2.heap/\(∀b∈fp,Mz X pins H' b)/\R J H'
def PI(X:Cx)(tg iter:qh)(wi:TI):Prop:=
 ∀(pins:List (pz×Obj)) (s:pX) (σ:St) (H:Hp) (R:It->Hp->Prop),Inv X pins σ H s->wi σ H R->
  wpAny (model X.prog X.w) X.A (eval iter X.env) (λv s1=>wpAny (model X.prog X.w) X.A (pyIter v) (PIE X pins σ tg R) X.xe s1) X.xe s
theorem bI{M:Model}{A:qx}{E:pW->pX->Prop}{s:pX}{tg:qh}{it:pz}{u:pW}{o:Obj}{n:tZ}{vs:qd pW}{Q:Unit->pX->Prop}(ho:s.heap.get? it=Gc o)(hc:o.cls=.type n)(hd:o.data=.fields vs)(hn:["enumerate","zip","dict_itemiterator","dict_reverseitemiterator","odict_iterator","itertools.zip_longest","itertools.pairwise"].contains n=false)(hQ:Q () s):wpAny M A (letOwnedTupleGo tg (.ref it) u) Q E s:=by
 unfold letOwnedTupleGo
 cases tg<;>first
  |exact pZ hQ
  |(cases u<;>first
     |exact pZ hQ
     |(refine Wp (z0 ho ?_)
       rw[hc,hd]
       show wpAny M A (if(["enumerate","zip","dict_itemiterator","dict_reverseitemiterator","odict_iterator","itertools.zip_longest","itertools.pairwise"].contains n && vs[0]?==Gc (rawInt _))=true then _ else _) Q E s
       rw[qj (by intro h;rw[hn,Bool.false_and]at h;cases h)]
       exact pZ hQ))
noncomputable def Itl(K:pV)(a:pz):It:=
 ⟨λi H=>∃xs x,SqL K H a xs/\xs[i]?=Gc x,λi H x H'=>H'=H/\∀xs,SqL K H a xs->xs[i]?=Gc x,λi H=>∃xs,SqL K H a xs/\xs.length<=i⟩
noncomputable def Itt(K:pV)(a:pz):It:=
 ⟨λi H=>∃xs x,SqT K H a xs/\xs[i]?=Gc x,λi H x H'=>H'=H/\∀xs,SqT K H a xs->xs[i]?=Gc x,λi H=>∃xs,SqT K H a xs/\xs.length<=i⟩
noncomputable def Itr(lo:Int)(n:Nat):It:=⟨λi _=>i<n,λi H x H'=>H'=H/\x=.int (lo+i),λi _=>n<=i⟩
theorem U3{P:qa}{w:qq}{K:pV}{tg:qh}(a it:pz):Turn P w K tg (Itl K a) [it] it (λi h=>h.IsListIter it a i) where
 mem:=by simp
 obj:=λi h st b hb=>by
  have e:b=it:=by simpa using hb
  subst e
  obtain⟨o,e,c,d⟩:=st
  exact⟨o,e,λv z=>by rw[d]at z;cases z⟩
 keep:=λi h h' st k=>st.at λo e=>k it (by simp) o e
 item:=by
  intro X hP hw hK hc i pins s σ H E I hf st hg
  subst hP hw hK
  obtain⟨xs,x,hq,hx⟩:=hg
  obtain⟨its,rv,p,hz⟩:=I.list hq
  obtain⟨u,hu,ru⟩:=rv.get hx
  obtain⟨f0,f1,f2,f3,f4,f5⟩:=hf it (by simp)
  refine wD st p.isList (x:=u) (by simpa using hu) λh' st' sb=>?_
  have I1:Inv X pins σ H {s with heap:=h'}:=I.turned (t':=s.toks) (λb o hb e=>(sb.2 b hb).trans e) f0 f1 f3 f4 f5
  obtain⟨o,e,c,d⟩:=id st'
  exact⟨u,rfl,bI (s:={s with heap:=h'}) e c d (by decide) ⟨x,H,I1,ru,⟨rfl,λys hy=>by rw[I.RN hy hq];exact hx⟩,st',λb hb=>(hf b hb).1⟩⟩
 done:=by
  intro X hP hw hK hc i pins s σ H E I hf st hg
  subst hP hw hK
  obtain⟨xs,hq,hx⟩:=hg
  obtain⟨its,rv,p,hz⟩:=I.list hq
  obtain⟨f0,f1,f2,f3,f4,f5⟩:=hf it (by simp)
  have hl:=rv.length
  exact wX (I.ok.hd hc) st p.isList (by simp;lia) λh' eb=>⟨rfl,I.turned (t':=s.toks) (λb o hb e=>eb b o hb e) f0 f1 f3 f4 f5⟩
 self:=λ_ _ _ _ _ st h=>yv st h
theorem Rc{P:qa}{w:qq}{K:pV}{tg:qh}(a it:pz):Turn P w K tg (Itt K a) [it] it (λi h=>h.IsTupleIter it a i) where
 mem:=by simp
 obj:=λi h st b hb=>by
  have e:b=it:=by simpa using hb
  subst e
  obtain⟨o,e,c,d⟩:=st
  exact⟨o,e,λv z=>by rw[d]at z;cases z⟩
 keep:=λi h h' st k=>st.at λo e=>k it (by simp) o e
 item:=by
  intro X hP hw hK hc i pins s σ H E I hf st hg
  subst hP hw hK
  obtain⟨xs,x,hq,hx⟩:=hg
  obtain⟨its,rv,p,hz⟩:=I.tuple hq
  obtain⟨u,hu,ru⟩:=rv.get hx
  obtain⟨f0,f1,f2,f3,f4,f5⟩:=hf it (by simp)
  refine wpAny_pyNext_tuple_item st (show s.heap.IsTuple a its.toArray from p) (x:=u) (by simpa using hu) λh' st' sb=>?_
  have I1:Inv X pins σ H {s with heap:=h'}:=I.turned (t':=s.toks) (λb o hb e=>(sb.2 b hb).trans e) f0 f1 f3 f4 f5
  obtain⟨o,e,c,d⟩:=id st'
  exact⟨u,rfl,bI (s:={s with heap:=h'}) e c d (by decide) ⟨x,H,I1,ru,⟨rfl,λys hy=>by rw[I.PY hy hq];exact hx⟩,st',λb hb=>(hf b hb).1⟩⟩
 done:=by
  intro X hP hw hK hc i pins s σ H E I hf st hg
  subst hP hw hK
  obtain⟨xs,hq,hx⟩:=hg
  obtain⟨its,rv,p,hz⟩:=I.tuple hq
  obtain⟨f0,f1,f2,f3,f4,f5⟩:=hf it (by simp)
  have hl:=rv.length
  exact wpAny_pyNext_tuple_end (I.ok.hd hc) st (show s.heap.IsTuple a its.toArray from p) (by simp;lia) λh' eb=>⟨rfl,I.turned (t':=s.toks) (λb o hb e=>eb b o hb e) f0 f1 f3 f4 f5⟩
 self:=λ_ _ _ _ _ st h=>wpAny_pyIter_tupleiter st h
theorem Ry{P:qa}{w:qq}{K:pV}{tg:qh}(it:pz)(lo:Int)(n:Nat):Turn P w K tg (Itr lo n) [it] it (λi h=>IsRangeIter h it (lo+(i:Nat)*1) ((n:Int)-(i:Nat)) 1) where
 mem:=by simp
 obj:=λi h st b hb=>by
  have e:b=it:=by simpa using hb
  subst e
  exact⟨_,st,λv z=>by
   have z':Data.fields _=Data.cell v:=z
   cases z'⟩
 keep:=λi h h' st k=>k it (by simp) _ st
 item:=by
  intro X hP hw hK hc i pins s σ H E I hf st hg
  subst hP hw hK
  obtain⟨f0,f1,f2,f3,f4,f5⟩:=hf it (by simp)
  have W:=Walks.range (prog:=X.prog) (w:=X.w) (I.ok.hd hc) it lo 1 n
  refine W.item i s _ _ hg st λv h' tk hv st' kk=>?_
  obtain⟨t,rfl⟩:=hv
  have I1:Inv X pins σ H {s with heap:=h',toks:=tk}:=I.turned (λb o hb e=>kk b o (by simpa using hb) e) f0 f1 f3 f4 f5
  refine⟨_,rfl,bI (s:={s with heap:=h',toks:=tk}) (n:="range_iterator") st' rfl rfl (by decide) ⟨.int (lo+i),H,I1,⟨t,?_⟩,⟨rfl,rfl⟩,st',λb hb=>(hf b hb).1⟩⟩
  rw[Int.mul_one]
 done:=by
  intro X hP hw hK hc i pins s σ H E I hf st hg
  subst hP hw hK
  obtain⟨f0,f1,f2,f3,f4,f5⟩:=hf it (by simp)
  exact wpAny_pyNext_range_end (I.ok.hd hc) st (by have:n<=i:=hg;lia) λh' eb=>⟨rfl,I.turned (t':=s.toks) (λb o hb e=>eb b o hb e) f0 f1 f3 f4 f5⟩
 self:=λ_ _ _ _ _ st h=>wpAny_pyIter_rangeiter st h
end L2
namespace L2
open PySem PySem.Spec PyProof.Rows
section
variable{X:Cx}{tg:qh}
theorem YN{pins:List (pz×Obj)}{σ:St}{H:Hp}{s:pX}{R:It->Hp->Prop}{E:pW->pX->Prop}{lo hi:Int}{t u v:Tok}{tk:Nat}(I:Inv X pins σ H s)(h1: -(2^62)<=lo)(h2:lo<2^62)(h3: -(2^62)<=hi)(h4:hi<2^62)(q:R (Itr lo (hi-lo).toNat) H):wpAny (model X.prog X.w) X.A (pyIter (.ref s.heap.objs.size)) (PIE X pins σ tg R) E {s with heap:=s.heap.push {cls:=.type "range",data:=.fields #[.int lo t,.int hi u,.int 1 v]},toks:=tk}:=by
 refine wpAny_pyIter_range (IsRange.new ..) (small_one h1 h2 h3 h4) ?_
 have I1:Inv X pins σ H {s with heap:=s.heap.push {cls:=.type "range",data:=.fields #[.int lo t,.int hi u,.int 1 v]},toks:=tk}:=I.kept λb o e=>pU _ e
 refine⟨(s.heap.push {cls:=.type "range",data:=.fields #[.int lo t,.int hi u,.int 1 v]}).objs.size,[(s.heap.push {cls:=.type "range",data:=.fields #[.int lo t,.int hi u,.int 1 v]}).objs.size],_,_,H,rfl,
  I1.kept (t':=tk) λb o e=>pU _ e,Ry _ lo (hi-lo).toNat,?_,λb hb=>?_,q⟩
 .have e1:lo+((0:Nat):Int)*1=lo:=by simp
  have e2:(((hi-lo).toNat:Nat):Int)-((0:Nat):Int)=Builtin.Range.rangeSize lo hi 1:=by rw[rangeSize_one];split<;>lia
  show IsRangeIter _ _ (lo+((0:Nat):Int)*1) ((((hi-lo).toNat:Nat):Int)-((0:Nat):Int)) 1
  rw[e1,e2]
  exact qG _ rfl
 .have e:b=(s.heap.push {cls:=.type "range",data:=.fields #[.int lo t,.int hi u,.int 1 v]}).objs.size:=by simpa using hb
  subst e
  exact I1.ZU (p9 _) (I1.hok.fresh (p9 _))
noncomputable def ki(ta:TA):TI:=λσ H R=>ta σ H λvs H1=>∃j:Int,vs=[.int j]/\ -(2^62)<=j/\j<2^62/\R (Itr 0 j.toNat) H1
theorem UH{a:qh}{ta:TA}{p pos:Pos}(hg:Gl X "range")(hm:X.mg "range"=none)(ha:PA X [a] ta)(hs:qb [a] X.env=[(false,eval a X.env)]:=by rfl):PI X tg (.Call (.Name "range" p) [a] [] pos) (ki ta):=by
 intro pins s σ H R I h
 refine Call_ (JX I hg hm boot_range (uA (thn (ha pos pins s σ H _ I h) λus s1 ⟨vs,H1,I1,r1,q1⟩=>?_) hs rfl))
 obtain⟨j,e,q1,q2,q⟩:=q1
 subst e
 cases r1 with
 |cons r rr=>
  cases rr
  obtain⟨t,rfl⟩:=r
  exact call_range_1 (YN I1 (by lia) (by lia) q1 q2 (by simpa using q))
noncomputable def oF(wi:TI)(g:TG)(tb:TS):TS:=λD σ H=>wi σ H λJ H1=>∃W:Nat->Nat->St->Hp->Prop,(∃m,W 0 m σ H1)/\∀i m σ H,W i m σ H->
 (J.stop i H/\D.nx σ H)\/(J.go i H/\∃N:St->Hp->Prop,(∀σ' H',N σ' H'->∃m',m'<m/\W (i+1) m' σ' H')/\∀x H',J.yld i H x H'->g x σ H' λσ2 H2=>tb {D with nx:=N,ct:=N,bk:=D.nx} σ2 H2)
noncomputable def NV(fp:List pz)(h:qu):List (pz×Obj):=fp.filterMap λb=>(h.get? b).map λo=>(b,o)
theorem FG{fp:List pz}{h:qu}{b:pz}{o:Obj}(hb:b∈fp)(e:h.get? b=Gc o):(b,o)∈NV fp h:=vo.mpr ⟨b,hb,by rw[e];rfl⟩
theorem Uo{fp:List pz}{h:qu}{p:pz×Obj}(hp:p∈NV fp h):p.1∈fp/\h.get? p.1=Gc p.2:=by
 obtain⟨b,hb,e⟩:=vo.mp hp
 cases q:h.get? b with
 |none=>rw[q]at e;cases e
 |some o=>
  rw[q]at e
  have e':(b,o)=p:=rG e
  subst e'
  exact⟨hb,q⟩
theorem Inv.pinned{pins:List (pz×Obj)}{σ:St}{H:Hp}{s:pX}{fp:List pz}(I:Inv X pins σ H s)(hf:∀b∈fp,Mz X pins H b)(ho:∀b∈fp,∃o,s.heap.get? b=Gc o/\∀v,o.data≠.cell v):Inv X (pins++NV fp s.heap) σ H s:=
 I.VR λp hp=>(qW.mp hp).elim (λz=>I.pin p (qm _ z)) λz=>by
  obtain⟨hb,e⟩:=Uo z
  obtain⟨f0,f1,f2,_⟩:=hf p.1 hb
  obtain⟨o,e',d⟩:=ho p.1 hb
  rw[e]at e';cases e'
  exact⟨e,f0,f1,f2,d⟩
theorem Inv.JF{pins pl:List (pz×Obj)}{σ:St}{H:Hp}{s:pX}(I:Inv X (pins++pl) σ H s):Inv X pins σ H s:=I.VR λp hp=>I.pin p (qm _ (wk _ hp))
theorem Zt{iter:qh}{body:List rO}{wi:TI}{g:TG}{tb:TS}{pos:Pos}(hp:zZ (model X.prog X.w) X.A X.env X.xe)(hc:X.calm=true)(hi:PI X tg iter wi)(hg:PG X tg g)(hb:PSs X body tb)(hs:∀x,foldedSetIterable iter X.env x=pure x:=by intro _;rfl):PS X (.For tg iter body [] pos) (oF wi g tb):=by
 intro pins s σ H D I h
 refine wpAny_For (thn (hi pins s σ H _ I h) λv s1 h1=>thn h1 λitv s2 h2=>?_) hs
 obtain⟨it,fp,tn,J,H2,e,I2,T,st2,f2,W,⟨m0,w0⟩,turn⟩:=h2
 subst e
 have stat:∀{H':Hp},(∀b∈fp,H' b=none)->∀b∈fp,Mz X pins H' b:=λhn b hb=>⟨hn b hb,(f2 b hb).2⟩
 refine codeAny_forLoop_any (λn s'=>∃i σ' H',Inv X pins σ' H' s'/\tn i s'.heap/\(∀b∈fp,H' b=none)/\W i n σ' H') ?_ m0 ⟨0,σ,H2,I2,st2,λb hb=>(f2 b hb).1,w0⟩
 rintro n s3 ⟨i,σ3,H3,I3,st3,fr3,w3⟩
 rcases turn i n σ3 H3 w3 with⟨stop,qn⟩|⟨go,N,hN,step⟩
 .refine uW hp (thn (T.done X rfl rfl rfl hc i pins s3 σ3 H3 X.xe I3 (stat fr3) st3 stop) λr s4 ⟨hr,I4⟩=>?_)
  subst hr
  exact wu ⟨σ3,H3,I4,qn⟩
 .refine uW hp (thn (T.item X rfl rfl rfl hc i pins s3 σ3 H3 X.xe I3 (stat fr3) st3 go) λr s4 ⟨u,hr,h4⟩=>?_)
  subst hr
  refine uW hp (thn h4 λ_ s5 ⟨x,H5,I5,r5,y5,st5,fr5⟩=>?_)
  have I5':=I5.pinned (stat fr5) (T.obj _ _ st5)
  refine uW hp (thn (hg _ s5 σ3 H5 x u _ I5' r5 (step x H5 y5)) λ_ s6 ⟨σ6,H6,I6,q6⟩=>?_)
  refine uW hp (thn (hb _ s6 σ6 H6 _ I6 q6) λf s7 q7=>?_)
  have again:∀{σ7:St} {H7:Hp},Inv X (pins++NV fp s5.heap) σ7 H7 s7->N σ7 H7->∃m,m<n/\∃i σ' H',Inv X pins σ' H' s7/\tn i s7.heap/\(∀b∈fp,H' b=none)/\W i m σ' H':=λ{σ7 H7} I7 n7=>by
   obtain⟨m',hm,w7⟩:=hN σ7 H7 n7
   refine⟨m',hm,i+1,σ7,H7,I7.JF,T.keep _ _ _ st5 λb hb o e=>(I7.pin (b,o) (qm _ (qm _ (FG hb e)))).1,λb hb=>?_,w7⟩
   obtain⟨o,e,d⟩:=T.obj _ _ st5 b hb
   exact(I7.pin (b,o) (qm _ (qm _ (FG hb e)))).2.1
  cases f with
  |next=>obtain⟨σ7,H7,I7,n7⟩:=q7;exact again I7 n7
  |cont=>obtain⟨σ7,H7,I7,n7⟩:=q7;exact again I7 n7
  |brk=>obtain⟨σ7,H7,I7,q7⟩:=q7;exact⟨σ7,H7,I7.JF,q7⟩
  |ret v=>obtain⟨x7,σ7,H7,I7,r7,q7⟩:=q7;exact⟨x7,σ7,H7,I7.JF,r7,q7⟩
end
end L2
namespace L2
open PySem PySem.Spec PyProof.Rows
abbrev R2:=V->V->Hp->VK->Prop
def OpR(X:Cx)(f:pW->pW->Sem pW)(r:R2):Prop:=
 ∀(pins:List (pz×Obj)) (s:pX) (σ:St) (H:Hp) (x y:V) (v u:pW) (Q:VK),Inv X pins σ H s->RelV x v->RelV y u->r x y H Q->
  wpAny (model X.prog X.w) X.A (f v u) (EP X pins σ Q) X.xe s
def UnR(X:Cx)(f:pW->Sem pW)(r:V->Hp->VK->Prop):Prop:=
 ∀(pins:List (pz×Obj)) (s:pX) (σ:St) (H:Hp) (x:V) (v:pW) (Q:VK),Inv X pins σ H s->RelV x v->r x H Q->
  wpAny (model X.prog X.w) X.A (f v) (EP X pins σ Q) X.xe s
def Ds(X:Cx)(f:pW)(r:List V->Hp->VK->Prop):Prop:=
 ∀(pins:List (pz×Obj)) (s:pX) (σ:St) (H:Hp) (xs:List V) (us:List pW) (Q:VK),Inv X pins σ H s->Vals xs us->r xs H Q->
  wpAny (model X.prog X.w) X.A (call f us) (EP X pins σ Q) X.xe s
noncomputable def tOp(r:R2)(ta tb:TE):TE:=λσ H Q=>ta σ H λx H1=>tb σ H1 λy H2=>r x y H2 Q
noncomputable def tUn(r:V->Hp->VK->Prop)(ta:TE):TE:=λσ H Q=>ta σ H λx H1=>r x H1 Q
noncomputable def rI(C:Int->Int->Prop)(g:Int->Int->V):R2:=λx y H Q=>∃i j,x=.int i/\y=.int j/\C i j/\Q (g i j) H
noncomputable def rI0(g:Int->Int->V):R2:=λx y H Q=>∃i j,x=.int i/\y=.int j/\Q (g i j) H
def rU(g:Int->V):V->Hp->VK->Prop:=λx H Q=>∃i,x=.int i/\Q (g i) H
section
variable{X:Cx}{a b c:qh}{ta tb tc:TE}{pos:Pos}
theorem jz(ha:PE X a ta)(hb:PE X b tb){pins:List (pz×Obj)}{s:pX}{σ:St}{H:Hp}{R:V->V->Hp->Prop}(I:Inv X pins σ H s)(h:ta σ H λx H1=>tb σ H1 λy H2=>R x y H2){Q:pW->pX->Prop}{f:pW->pW->Sem pW}(hf:∀v u s2 x y H2,Inv X pins σ H2 s2->RelV x v->RelV y u->R x y H2->wpAny (model X.prog X.w) X.A (f v u) Q X.xe s2):wpAny (model X.prog X.w) X.A (eval a X.env) (λv s₁=>wpAny (model X.prog X.w) X.A (eval b X.env) (λu s₂=>wpAny (model X.prog X.w) X.A (f v u) Q X.xe s₂) X.xe s₁) X.xe s:=by
 refine thn (ha pins s σ H _ I h) λv s1 ⟨x,H1,I1,r1,q1⟩=>?_
 refine thn (hb pins s1 σ H1 _ I1 q1) λu s2 ⟨y,H2,I2,r2,q2⟩=>?_
 exact hf v u s2 x y H2 I2 r1 r2 q2
theorem kc{op:Operator}{r:R2}(ho:OpR X (binaryOp op) r)(ha:PE X a ta)(hb:PE X b tb):PE X (.BinOp a op b pos) (tOp r ta tb):=by
 intro pins s σ H Q I h
 exact wpAny_BinOp (jz ha hb I h λv u s2 x y H2 I2 rx ry q=>ho pins s2 σ H2 x y v u Q I2 rx ry q)
theorem gk{op:UnaryOp}{r:V->Hp->VK->Prop}(ho:UnR X (unaryOp op) r)(ha:PE X a ta):PE X (.UnaryOp op a pos) (tUn r ta):=by
 intro pins s σ H Q I h
 exact UnaryOp_ (thn (ha pins s σ H _ I h) λv s1 ⟨x,H1,I1,r1,q1⟩=>ho pins s1 σ H1 x v Q I1 r1 q1)
theorem opI{f:pW->pW->Sem pW}{C:Int->Int->Prop}{g:Int->Int->Int}(rule:∀(i j:Int) (t u:Tok) (s:pX) (Q:pW->pX->Prop) (E:pW->pX->Prop),C i j->Q (.int (g i j) s.toks) {s with toks:=s.toks+1}->wpAny (model X.prog X.w) X.A (f (.int i t) (.int j u)) Q E s):OpR X f (rI C λi j=>.int (g i j)):=by
 intro pins s σ H x y v u Q I rx ry h
 obtain⟨i,j,rfl,rfl,hc,q⟩:=h
 obtain⟨t,rfl⟩:=rx
 obtain⟨t',rfl⟩:=ry
 exact rule i j t t' s _ _ hc ⟨.int (g i j),H,I.tok _,⟨_,rfl⟩,q⟩
theorem mP{f:pW->pW->Sem pW}{g:Int->Int->Int}(rule:∀(i j:Int) (t u:Tok) (s:pX) (Q:pW->pX->Prop) (E:pW->pX->Prop),Q (.int (g i j) s.toks) {s with toks:=s.toks+1}->wpAny (model X.prog X.w) X.A (f (.int i t) (.int j u)) Q E s):OpR X f (rI0 λi j=>.int (g i j)):=by
 intro pins s σ H x y v u Q I rx ry h
 obtain⟨i,j,rfl,rfl,q⟩:=h
 obtain⟨t,rfl⟩:=rx
 obtain⟨t',rfl⟩:=ry
 exact rule i j t t' s _ _ ⟨.int (g i j),H,I.tok _,⟨_,rfl⟩,q⟩
theorem kD{f:pW->pW->Sem pW}{g:Int->Int->qk}(rule:∀(i j:Int) (t u:Tok) (s:pX) (Q:pW->pX->Prop) (E:pW->pX->Prop),Q (.bool (g i j)) s->wpAny (model X.prog X.w) X.A (f (.int i t) (.int j u)) Q E s):OpR X f (rI0 λi j=>.bl (g i j)):=by
 intro pins s σ H x y v u Q I rx ry h
 obtain⟨i,j,rfl,rfl,q⟩:=h
 obtain⟨t,rfl⟩:=rx
 obtain⟨t',rfl⟩:=ry
 exact rule i j t t' s _ _ ⟨.bl (g i j),H,I,rfl,q⟩
def nQ(i j:Int):Prop:=0<=j/\j<=1000000/\i.natAbs<2^64
def kR(i j:Int):Prop:=(-(2^64)<i/\i<2^64)\/(-(2^64)<j/\j<2^64)
theorem kR.ok{i j:Int}(h:kR i j):IntMulOk i j:=by
 rcases h with⟨h1,h2⟩|⟨h1,h2⟩
 .exact .of_left (intBits_le_64 h1 h2)
 .exact .of_right (intBits_le_64 h1 h2)
theorem eY:OpR X (binaryOp .Add) (rI0 λi j=>.int (i+j)):=mP λ_ _ _ _ _ _ _ q=>add_int q
theorem eR:OpR X (binaryOp .Sub) (rI0 λi j=>.int (i-j)):=mP λ_ _ _ _ _ _ _ q=>sub_int q
theorem Y2:OpR X (binaryOp .Mult) (rI kR λi j=>.int (i*j)):=opI λ_ _ _ _ _ _ _ hc q=>mul_int q hc.ok
theorem cy:OpR X (binaryOp .Mod) (rI (λ_ j=>0<j) λi j=>.int (i % j)):=opI λi j _ _ _ _ _ hc q=>by
 have h1:(0:Int)<j:=hc
 exact mod_int' (by lia) (by rw[Int.fmod_eq_emod_of_nonneg i (by lia)];exact q)
theorem dS:OpR X (binaryOp .Pow) (rI nQ λi j=>.int (i^j.toNat)):=opI λ_ _ _ _ _ _ _ hc q=>pow_int_small hc.1 hc.2.1 hc.2.2 q
theorem unI{f:pW->Sem pW}{g:Int->Int}(rule:∀(i:Int) (t:Tok) (s:pX) (Q:pW->pX->Prop) (E:pW->pX->Prop),Q (.int (g i) s.toks) {s with toks:=s.toks+1}->wpAny (model X.prog X.w) X.A (f (.int i t)) Q E s):UnR X f (rU λi=>.int (g i)):=by
 intro pins s σ H x v Q I rx h
 obtain⟨i,rfl,q⟩:=h
 obtain⟨t,rfl⟩:=rx
 exact rule i t s _ _ ⟨.int (g i),H,I.tok _,⟨_,rfl⟩,q⟩
theorem ZR:UnR X (unaryOp .USub) (rU λi=>.int (-i)):=unI λ_ _ _ _ _ q=>neg_int q
end
section
variable{X:Cx}{a b c:qh}{ta tb tc:TE}{pos:Pos}
theorem Y5{pins:List (pz×Obj)}{σ:St}{H:Hp}{s:pX}{Q:VK}{k k':qk}(I:Inv X pins σ H s)(q:Q (.bl k) H)(e:k=k'):EP X pins σ Q (.bool k') s:=by
 subst e
 exact⟨.bl k,H,I,rfl,q⟩
theorem k6:OpR X (compareOp .Lt) (rI0 λi j=>.bl (decide (i<j))):=kD λ_ _ _ _ _ _ _ q=>lt_int q
theorem kW:OpR X (compareOp .Gt) (rI0 λi j=>.bl (decide (j<i))):=kD λ_ _ _ _ _ _ _ q=>gt_int q
theorem jZ:OpR X (compareOp .GtE) (rI0 λi j=>.bl (decide (j<=i))):=kD λ_ _ _ _ _ _ _ q=>ge_int q
theorem fA:OpR X (compareOp .Is) (λx y H Q=>y=.non/\Q (.bl (decide (x=.non))) H):=by
 intro pins s σ H x y v u Q I rx ry h
 obtain⟨rfl,q⟩:=h
 cases ry
 refine is_none_gen (Y5 I q ?_)
 cases x<;>first
  |(cases rx;rfl)
  |(obtain⟨t,rfl⟩:=rx;rfl)
theorem aF:OpR X (compareOp .IsNot) (λx y H Q=>y=.non/\Q (.bl (!decide (x=.non))) H):=by
 intro pins s σ H x y v u Q I rx ry h
 obtain⟨rfl,q⟩:=h
 cases ry
 refine isnot_none_gen (Y5 I q ?_)
 cases x<;>first
  |(cases rx;rfl)
  |(obtain⟨t,rfl⟩:=rx;rfl)
theorem b9{op:CmpOp}{r:R2}(ho:OpR X (compareOp op) r)(ha:PE X a ta)(hb:PE X b tb)(hm:behindInMarks op b=false):PE X (.Compare a [op] [b] pos) (tOp r ta tb):=by
 intro pins s σ H Q I h
 exact wpAny_Compare1 (jz ha hb I h λv u s2 x y H2 I2 rx ry q=>ho pins s2 σ H2 x y v u Q I2 rx ry q) hm
noncomputable def fE(t:TE):TT:=λσ H Q=>t σ H λx H'=>∃k,x=.bl k/\Q k H'
theorem cK{op:CmpOp}{r:R2}(ho:OpR X (compareOp op) r)(ha:PE X a ta)(hb:PE X b tb)(hm:behindInMarks op b=false):PT X (.Compare a [op] [b] pos) (fE (tOp r ta tb)):=by
 intro pins s σ H Q I h
 refine wpAny_isTrue_Compare1 (thn (ha pins s σ H _ I h) λv s1 ⟨x,H1,I1,r1,q1⟩=>thn (hb pins s1 σ H1 _ I1 q1) λu s2 ⟨y,H2,I2,r2,q2⟩=>
  thn (ho pins s2 σ H2 x y v u _ I2 r1 r2 q2) λc s3 ⟨z,H3,I3,r3,k,e,q3⟩=>?_) hm
 subst e
 cases r3
 exact ua ⟨H3,I3,q3⟩
theorem Pa:(sizeLine:Nat)<2^63:=by rw[vt];decide
theorem Rx:OpR X (binaryOp .Add) (λx y H Q=>∃i j,x=.str i/\y=.str j/\i.length+j.length<=sizeLine/\Q (.str (i++j)) H):=by
 intro pins s σ H x y v u Q I rx ry h
 obtain⟨i,j,rfl,rfl,hz,q⟩:=h
 obtain⟨t,rfl⟩:=rx
 obtain⟨t',rfl⟩:=ry
 exact add_str (λt' tk=>⟨.str (i++j),H,I.tok _,⟨_,rfl⟩,q⟩) hz
theorem vals1{x:V}{us:List pW}(r:Vals [x] us):∃u,us=[u]/\RelV x u:=by
 cases r with
 |cons r1 r2=>cases r2;exact⟨_,rfl,r1⟩
theorem vals2{x y:V}{us:List pW}(r:Vals [x,y] us):∃u w',us=[u,w']/\RelV x u/\RelV y w':=by
 cases r with
 |cons r1 r2=>
  cases r2 with
  |cons r3 r4=>cases r4;exact⟨_,_,rfl,r1,r3⟩
theorem YV:Ds X (.builtin "abs") (λxs H Q=>∃i,xs=[.int i]/\Q (.int (if i<0 then-i else i)) H):=by
 intro pins s σ H xs us Q I r h
 obtain⟨i,rfl,q⟩:=h
 obtain⟨u,rfl,t,rfl⟩:=vals1 r
 exact call_abs_int λu tk=>⟨.int (if i<0 then-i else i),H,I.tok _,⟨_,rfl⟩,q⟩
theorem Uu(hc:X.calm=true):Ds X (.builtin "max") (λxs H Q=>∃i j,xs=[.int i,.int j]/\Q (.int (if j>i then j else i)) H):=by
 intro pins s σ H xs us Q I r h
 obtain⟨i,j,rfl,q⟩:=h
 obtain⟨u,w',rfl,⟨t,rfl⟩,⟨t',rfl⟩⟩:=vals2 r
 refine max_two_ints (I.ok.hd hc) λh' tk k=>⟨_,H,I.kept k,?_,q⟩
 by_cases hj:j>i
 .rw[qc hj,qc hj];exact⟨_,rfl⟩
 .rw[qj hj,qj hj];exact⟨_,rfl⟩
theorem Ur(hc:X.calm=true):Ds X (.builtin "min") (λxs H Q=>∃i j,xs=[.int i,.int j]/\Q (.int (if j<i then j else i)) H):=by
 intro pins s σ H xs us Q I r h
 obtain⟨i,j,rfl,q⟩:=h
 obtain⟨u,w',rfl,⟨t,rfl⟩,⟨t',rfl⟩⟩:=vals2 r
 refine min_two_ints (I.ok.hd hc) λh' tk k=>⟨_,H,I.kept k,?_,q⟩
 by_cases hj:j<i
 .rw[qc hj,qc hj];exact⟨_,rfl⟩
 .rw[qj hj,qj hj];exact⟨_,rfl⟩
theorem Ou:Ds X (.type "int") (λxs H Q=>(∃i,xs=[.int i]/\Q (.int i) H)\/∃k,xs=[.bl k]/\Q (.int (if k then 1 else 0)) H):=by
 intro pins s σ H xs us Q I r h
 rcases h with⟨i,rfl,q⟩|⟨k,rfl,q⟩
 .obtain⟨u,rfl,t,rfl⟩:=vals1 r
  exact call_int_int ⟨.int i,H,I,⟨_,rfl⟩,q⟩
 .obtain⟨u,rfl,r1⟩:=vals1 r
  cases r1
  exact call_int_bool ⟨.int (if k then 1 else 0),H,I.tok _,⟨_,rfl⟩,q⟩
theorem PJ:Ds X (.type "str") (λxs H Q=>∃i,xs=[.int i]/\i.natAbs.log2<1920/\Q (.str (toString i)) H):=by
 intro pins s σ H xs us Q I r h
 obtain⟨i,rfl,hz,q⟩:=h
 obtain⟨u,rfl,t,rfl⟩:=vals1 r
 exact PySem.P.str_of_int hz ⟨.str _,H,I.tok _,⟨_,rfl⟩,q⟩
end
end L2
namespace L2
open PySem PySem.Spec PyProof.Rows
structure lM(h:qu)(x dx C:pz)(mA:Str->pY pW):Prop where
 obj:h.get? x=Gc (ym C dx)
 ns:h.Ns1 dx mA
 ne:dx≠x
theorem Tn{h:qu}{dx:pz}{mA:Str->pY pW}(n:h.Ns1 dx mA):∃od,h.get? dx=Gc od/\∀name,zC name od=Gc (mA name):=by
 obtain⟨o,es,ep,ho,hd,hk,_,hm⟩:=n
 refine⟨o,ho,λname=>?_⟩
 have e:=hm name
 unfold nsFind findBy at e
 rw[<-Array.find?_toList]at e
 unfold zC
 rw[hd]
 dsimp only
 split
 .rename_i y q
  rw[q]at e
  exact congrArg Gc e
 .rename_i q
  rw[q]at e
  have a:es.toList.any (·.refKey)=false:=by
   rw[List.any_eq_false]
   intro y hy
   obtain⟨z,t,hkey⟩:=hk y (Array.mem_toList_iff.mp hy)
   simp[DictEntry.refKey,hkey]
  have a':¬es.toList.any (·.refKey)=true:=by rw[a];exact rH
  rw[qj a']
  exact congrArg Gc e
theorem lM.look{h:qu}{x dx C:pz}{mA:Str->pY pW}(I:lM h x dx C mA):∃od,PySem.W.InstAt h x (ym C dx) C (Gc od)/\∀name,zC name od=Gc (mA name):=
 let⟨od,ho,hl⟩:=Tn I.ns
 ⟨od,⟨I.obj,rfl,rfl,ho⟩,hl⟩
section
variable{prog:qa}{w:qq}{A:qx}{E:pW->pX->Prop}{s:pX}{K:pV}{x dx C f:pz}{mA:Str->pY pW}{name:Str}{v:pW}
end
section
variable{P:qa}{w:qq}{H H':Hp}{h h':qu}{a C dx:pz}{fs fs':List (Str×V)}
theorem bT(hok:HOk P w H h)(e:H a=Gc (.ins C dx fs)):∃mA,lM h a dx C mA/\(∀f,V1 (fs.lookup f) (mA f))/\PySem.Within mA (fs.map (·.1))/\fs.length<=1000/\H dx=Gc (.own a):=by
 obtain⟨d,z,ne,ob,mA,n,r,q⟩:=(show D3 P w H h a (.ins C dx fs)from hok a _ e)
 exact⟨mA,⟨ob,n,ne⟩,r,q,z,d⟩
end
structure Cls(K:pV)(C:pz):Prop where
 pg:PySem.W.plainGet K C Str.empty=true
 hd:PySem.W.hasDictIn K C=true
 po:PySem.W.plainOver K C=true
 sa:wF K (.ref C) "__setattr__"=Gc (Gc (.builtin "object.__setattr__"))
theorem Cls.get{K:pV}{C:pz}(c:Cls K C)(f:Str):PySem.W.plainGet K C f=true:=c.pg
structure Con(K:pV)(C:pz)(f:Str)(v:V)(u:pW):Prop where
 at_:wF K (.ref C) f=Gc (Gc u)
 rel:RelV v u
 get:PySem.W.specialIn K u "__get__"=Gc none
 cp:PySem.W.copiedNames.contains f=false
structure Meth(K:pV)(C:pz)(m:Str)(f:pz):Prop where
 at_:wF K (.ref C) m=Gc (Gc (.ref f))
 fn:PySem.W.isFn K (.ref f)=true
 kp:uJ K (.ref f)=true
section
variable{X:Cx}{pins:List (pz×Obj)}{σ:St}{H:Hp}{s:pX}{a C dx:pz}{fs:List (Str×V)}{f:Str}{v:V}{A:qx}{E:pW->pX->Prop}
end
section
variable{X:Cx}{o e value:qh}{f:Str}{pos pos' tpos:Pos}{ta tv:TE}
end
section
variable{X:Cx}{pins:List (pz×Obj)}{σ:St}{H:Hp}{s:pX}{A:qx}{E:pW->pX->Prop}{Q:pW->pX->Prop}{c:pW}{b:qk}
inductive SX(K:pV)(H:Hp):V->pW->Prop where
 |non:SX K H .non (.type "NoneType")
 |bl (x:qk):SX K H (.bl x) (.type "bool")
 |int (i:Int):SX K H (.int i) (.type "int")
 |str (x:Str):SX K H (.str x) (.type "str")
 |flt (x:UInt64):SX K H (.flt x) (.type "float")
 |lst {a:pz} {xs:List V} (e:H a=Gc (.lst xs)):SX K H (.ref a) (.type "list")
 |frz {a:pz} {o:Obj} {xs:List V} (e:H a=Gc (.frz o (.lst xs))):SX K H (.ref a) (.type "list")
 |tup {a:pz} {xs:List V} (e:H a=Gc (.tup xs)):SX K H (.ref a) (.type "tuple")
 |dK {a:pz} {kvs:List (Key×V)} (e:H a=Gc (.dK kvs)):SX K H (.ref a) (.type "dict")
 |dT {a:pz} {kvs:List (List Key×V)} (e:H a=Gc (.dT kvs)):SX K H (.ref a) (.type "dict")
 |ins {a C dx:pz} {fs:List (Str×V)} (e:H a=Gc (.ins C dx fs)) (cl:Cls K C) (ha:wF K (.ref C) "__class__"=Gc (Gc (.builtin "object.__class__")))
   (hn:PySem.W.specialIn K (.builtin "object.__class__") "__get__"=Gc (Gc (.builtin "getset_descriptor.__get__"))) (htk:PySem.W.takesIn K (.builtin "object.__class__")=Gc true)
   (hm:PySem.W.mroIn K C (.type "object")=Gc true):SX K H (.ref a) (.ref C)
theorem Fb{x:V}{u t:pW}(I:Inv X pins σ H s)(rx:RelV x u)(ty:SX X.K H x t)(e:uK X.K t c=Gc b)(h:∀tk,Q (.bool b) {s with toks:=tk}):wpAny (model X.prog X.w) A (call (.builtin "isinstance") [u,c]) Q E s:=by
 cases ty with
 |non=>cases (show u=sL from rx);exact sI PySem.W.kitx_none I.kIn uL e (λz=>nomatch z) h
 |bl y=>cases (show u=xM y from rx);exact sI PySem.W.kitx_bool I.kIn uL e (λz=>nomatch z) h
 |int i=>obtain⟨t,q⟩:=(show∃t,u=vc i t from rx);cases q;exact sI PySem.W.kitx_int I.kIn uL e (λz=>nomatch z) h
 |str y=>obtain⟨t,q⟩:=(show∃t,u=yK y t from rx);cases q;exact sI PySem.W.kitx_str I.kIn uL e (λz=>nomatch z) h
 |flt y=>obtain⟨t,q⟩:=(show∃t,u=Value.float y t from rx);cases q;exact sI PySem.W.kitx_float I.kIn uL e (λz=>nomatch z) h
 | @lst a xs ea=>
   cases (show u=qz a from rx)
   obtain⟨_,_,n,_,h1⟩:=(show D3 X.prog X.w H s.heap a (.lst xs)from I.hok a _ ea)
   exact sI PySem.W.kitx_list I.kIn ⟨_,h1,rfl⟩ e (λz=>nomatch z) h
 | @frz a ob xs ea=>
   cases (show u=qz a from rx)
   obtain⟨_,_,_,n,_,h1⟩:=(show D3 X.prog X.w H s.heap a (.frz ob (.lst xs))from I.hok a _ ea)
   exact sI PySem.W.kitx_list I.kIn ⟨_,h1,rfl⟩ e (λz=>nomatch z) h
 | @tup a xs ea=>
   cases (show u=qz a from rx)
   obtain⟨_,_,_,p⟩:=(show D3 X.prog X.w H s.heap a (.tup xs)from I.hok a _ ea)
   obtain⟨o,h1,h2,_⟩:=p
   exact sI z7 I.kIn ⟨o,h1,h2⟩ e (λz=>nomatch z) h
 | @dK a kvs ea=>
   cases (show u=qz a from rx)
   obtain⟨_,_,vs,_,p⟩:=(show D3 X.prog X.w H s.heap a (.dK kvs)from I.hok a _ ea)
   obtain⟨o,es,ep,h1,h2,_⟩:=p
   exact sI PySem.W.kitx_dict I.kIn ⟨o,h1,h2.1⟩ e (λz=>nomatch z) h
 | @dT a kvs ea=>
   cases (show u=qz a from rx)
   obtain⟨_,_,xs,_,o,es,ep,h1,h2,_⟩:=(show D3 X.prog X.w H s.heap a (.dT kvs)from I.hok a _ ea)
   exact sI PySem.W.kitx_dict I.kIn ⟨o,h1,h2.1⟩ e (λz=>nomatch z) h
 | @ins a C dx fs ea cl ha hn htk hm=>
   cases (show u=qz a from rx)
   obtain⟨mA,O,_⟩:=bT I.hok ea
   obtain⟨od,J,_⟩:=O.look
   exact sI (PySem.W.kitx_own (cl.get _) cl.hd ha hn htk hm) I.kIn J e (λz=>nomatch z) h
end
end L2
namespace L2
open PySem PySem.Spec PyProof.Rows
structure MM(k:Nat)(A:qx):Prop where
 hd:A.handled=none
 dp:A.depth+3*k+5<recursionLimit
 un:A.units+16*k+200<cLine
theorem MM.mono{j k:Nat}{A:qx}(r:MM k A)(h:j<=k):MM j A:=⟨r.hd,by have:=r.dp;lia,by have:=r.un;lia⟩
theorem MM.deeper{k:Nat}{A:qx}(r:MM (k+1) A)(env:Env):MM k (A.deeper env):=
 ⟨r.hd,by have:=r.dp;show A.depth+1+3*k+5<_;lia,by have:=r.un;show A.units+3+16*k+200<_;lia⟩
theorem MM.depth{k:Nat}{A:qx}(r:MM k A):A.depth<recursionLimit:=by have:=r.dp;lia
noncomputable def mS:TA:=λ_ H Q=>Q [] H
noncomputable def gO(ta:TE)(tr:TA):TA:=λσ H Q=>ta σ H λx H1=>tr σ H1 λxs H2=>Q (x::xs) H2
section
variable{X:Cx}{e:qh}{es:List qh}{te:TE}{t:TA}{pos:Pos}
theorem T7:PA X [] mS:=λ_ _ _ _ H Q I h=>vU ⟨[],H,I,.nil,h⟩
theorem Nq(ha:PE X e te)(hr:PA X es t)(hs:qb (e::es) X.env=(false,eval e X.env)::qb es X.env:=by rfl):PA X (e::es) (gO te t):=by
 intro pos pins s σ H Q I h
 rw[hs]
 show wpAny _ _ (spliced ((false,eval e X.env)::backTo pos (qb es X.env))) _ _ s
 refine vQ (thn (ha pins s σ H _ I h) λu s1 ⟨x,H1,I1,r1,q1⟩=>?_)
 exact thn (hr pos pins s1 σ H1 _ I1 q1) λus s2 ⟨xs,H2,I2,r2,q2⟩=>⟨x::xs,H2,I2,.cons r1 r2,q2⟩
noncomputable def oX(t:TA):TE:=λσ H Q=>t σ H λxs H1=>xs.length<=sizeLine/\∀p,H1 p=none->Q (.ref p) (upd H1 p (.tup xs))
noncomputable def oV(t:TA):TE:=λσ H Q=>t σ H λxs H1=>xs.length<=sizeLine/\∀p,H1 p=none->Q (.ref p) (upd H1 p (.lst xs))
theorem di{x1}(h:PA X es t):PE X (.Tuple es x1 pos) (oX t):=by
 intro pins s σ H Q I hq
 refine wpAny_Tuple_spliced (thn (h pos pins s σ H _ I hq) λus s1 ⟨xs,H1,I1,r,z,q⟩=>⟨by rw[<-r.length];exact z,?_⟩)
 have hf:H1 s1.heap.objs.size=none:=I1.hok.fresh (p9 _)
 refine⟨.ref s1.heap.objs.size,upd H1 s1.heap.objs.size (.tup xs),I1.laid (t':=s1.toks) (λb u e=>pU _ e) (p9 _) ?_,rfl,q _ hf⟩
 exact⟨z,us,r,⟨_,qG _ rfl,rfl,_,rfl⟩⟩
theorem eQ(h:PA X es t):PE X (.List es pos) (oV t):=by
 intro pins s σ H Q I hq
 refine wpAny_List_spliced (thn (h pos pins s σ H _ I hq) λus s1 ⟨xs,H1,I1,r,z,q⟩=>⟨by rw[<-r.length];exact z,?_⟩)
 have hf:H1 s1.heap.objs.size=none:=I1.hok.fresh (p9 _)
 refine⟨.ref s1.heap.objs.size,upd H1 s1.heap.objs.size (.lst xs),I1.laid (t':=s1.toks) (λb u e=>pU _ e) (p9 _) ?_,rfl,q _ hf⟩
 exact⟨z,us,0,r,qG _ rfl⟩
end
abbrev Sp:=List V->Hp->VK->XK->Prop
abbrev CXT:=List Env->Hp->pX->XK->pW->pX->Prop
structure jN(P:qa)(w:qq)(K:pV)(mg:Str->pY pW)(base:qu)(A:qx)(outer:List Env)(s:pX)(H:Hp):Prop where
 frames:A.frames=Gc outer
 mod:Mod K mg base
 bs:∀b o,base.get? b=Gc o->s.heap.get? b=Gc o/\H b=none
 bsz:base.objs.size<=s.heap.objs.size
 Up:s.heap.FunFrames base outer
 frf:∀b∈frs outer,H b=none
 hok:HOk P w H s.heap
 bare:xn s.gens
def CE(outer:List Env)(P:qa)(w:qq)(H:Hp)(s:pX)(Q:VK)(u:pW)(s':pX):Prop:=
 ∃v H',s'.os=s.os/\xn s'.gens/\Un (frs outer) [] H H' s.heap s'.heap/\HOk P w H' s'.heap/\RelV v u/\Q v H'
def CR(CX:CXT)(outer:List Env)(P:qa)(w:qq)(H:Hp)(s:pX)(Q:VK)(E:XK)(r:z8)(s':pX):Prop:=
 match r with
 | .ok (.ret u)=>CE outer P w H s Q u s'
 | .ok _=>ur
 | .error e=>CX outer H s E e s'
structure PU(P:qa)(w:qq)(K:pV)(mg:Str->pY pW)(base:qu)(CX:CXT)(k:Nat)(f:pz)(fd:tU)(ps:List Str)(sp:Sp):Prop where
 len:∀vs H Q E,sp vs H Q E->vs.length=ps.length
 run:∀(A:qx) (outer:List Env) (s:pX) (H:Hp) (args:Args) (us:List pW) (vs:List V) (Q:VK) (E:XK),MM k A->jN P w K mg base A outer s H->BindsTo s fd args (ps.zip us)->Vals vs us->sp vs H Q E->
  codeAny (model P w) A (.call (.ref f) args) (CR CX outer P w H s Q E) s
theorem PU.imp{P:qa}{w:qq}{K:pV}{mg:Str->pY pW}{base:qu}{CX:CXT}{k:Nat}{f:pz}{fd:tU}{ps:List Str}{sp sp':Sp}(F:PU P w K mg base CX k f fd ps sp)(h:∀vs H Q E,sp' vs H Q E->sp vs H Q E):PU P w K mg base CX k f fd ps sp':=
 ⟨λvs H Q E q=>F.len vs H Q E (h _ _ _ _ q),λA outer s H args us vs Q E hr he hb hv hs=>F.run A outer s H args us vs Q E hr he hb hv (h _ _ _ _ hs)⟩
section
variable{X:Cx}{pins:List (pz×Obj)}{σ:St}{H:Hp}{s s':pX}
theorem Inv.nN(I:Inv X pins σ H s):jN X.prog X.w X.K X.mg X.base X.A X.stack s H:=
 ⟨I.ok.frames,I.ok.mod,I.bs,qD I.ok.bsz I.sz,I.stack,I.UP,I.hok,I.bare⟩
theorem Inv.after{Q:VK}{u:pW}(I:Inv X pins σ H s)(h:CE X.stack X.prog X.w H s Q u s'):EP X pins σ Q u s':=by
 obtain⟨v,H',os,bare,un,hok,r,q⟩:=h
 obtain⟨hh,g,d,t,os'⟩:=s'
 obtain rfl:os'=s.os:=os
 exact⟨v,H',I.call (h':=hh) (g':=g) (d':=d) (t':=t) (ch:=[]) un hok bare (λb z=>absurd z (by simp)),r,q⟩
end
noncomputable def ak(sp:Sp)(dvs:List V)(E:XK)(t:TA):TE:=λσ H Q=>t σ H λvs H1=>sp (vs++dvs) H1 Q E
def Binds(K:pV)(fd:tU)(ps:List Str)(ds:List pW):Prop:=
 ∀(s:pX) (us:List pW),K.In s.heap->(us++ds).length=ps.length->BindsTo s fd ⟨us,[]⟩ (ps.zip (us++ds))
theorem Binds.all{K:pV}{fd:tU}{ps:List Str}(h:∀us:List pW,us.length=ps.length->bindArgs fd ⟨us,[]⟩=pure (ps.zip us)):Binds K fd ps []:=λs us _ hl=>by
 rw[uX]at hl⊢
 exact .of_eq (h us hl)
def Passes(CX:CXT)(X:Cx)(E:XK):Prop:=∀(pins:List (pz×Obj)) (σ:St) (H:Hp) (s:pX) (e:pW) (s':pX),Inv X pins σ H s->CX X.stack H s E e s'->X.xe e s'
section
variable{X:Cx}{CX:CXT}{k:Nat}{f C:pz}{fd:tU}{ps:List Str}{sp:Sp}{dvs:List V}{ds:List pW}{E:XK}{x m:Str}{p pos apos:Pos}{e o:qh}{es:List qh}{ta:TE}{t:TA}
theorem eS{pins:List (pz×Obj)}{σ:St}{H:Hp}{s:pX}{Q:VK}{us:List pW}{vs:List V}(F:PU X.prog X.w X.K X.mg X.base CX k f fd ps sp)(hr:MM k X.A)(hb:Binds X.K fd ps ds)(hd:Vals dvs ds)(hx:Passes CX X E)(I:Inv X pins σ H s)(r:Vals vs us)(h:sp (vs++dvs) H Q E):wpAny (model X.prog X.w) X.A (call (.ref f) us) (EP X pins σ Q) X.xe s:=by
 have r2:Vals (vs++dvs) (us++ds):=r.append hd
 have hl:(us++ds).length=ps.length:=by rw[<-r2.length];exact F.len _ _ _ _ h
 refine wpAny_call (wG (F.run X.A X.stack s H ⟨us,[]⟩ (us++ds) (vs++dvs) Q E hr I.nN (hb s us I.kIn hl) r2 h) λr s' hq=>?_)
 cases r with
 |error e=>exact hx pins σ H s e s' I hq
 |ok fl=>
  cases fl with
  |ret u=>exact I.after hq
  |next=>exact vC hq
  |brk=>exact vC hq
  |cont=>exact vC hq
theorem bz(F:PU X.prog X.w X.K X.mg X.base CX k f fd ps sp)(hr:MM k X.A)(hg:Gl X x)(hm:X.mg x=Gc (.ref f))(hk:uJ X.K (.ref f)=true)(hb:Binds X.K fd ps ds)(hd:Vals dvs ds)(hx:Passes CX X E)(ha:PA X (e::es) t)(hdb:(x==("__debug__":Str))=false:=by decide)(he:qb (e::es) X.env=(false,eval e X.env)::qb es X.env:=by rfl)(hpl:(backTo pos (qb es X.env)).any (·.1)=false:=by rfl):PE X (.Call (.Name x p) (e::es) [] pos) (ak sp dvs E t):=by
 intro pins s σ H Q I h
 refine uM (bN I hg hm ?_ hdb)
 refine PySem.W.callWith_K (h₀:=X.base) I.ok.mod.kin hk (thn (ha pos pins s σ H _ I h) λus s1 ⟨vs,H1,I1,r,q⟩=>⟨I1.kIn,?_⟩) he hpl
 exact eS F hr hb hd hx I1 r q
structure Mk(K:pV)(C f:pz):Prop where
 makes:PySem.W.makesIn K C=true
 init:wF K (.ref C) "__init__"=Gc (Gc (.ref f))
 fn:PySem.W.isFn K (.ref f)=true
 kp:uJ K (.ref C)=true
end
section
variable{X:Cx}{CX:CXT}{k:Nat}{f C:pz}{fd:tU}{ps ks:List Str}{sp:Sp}{E:XK}{x m:Str}{p pos apos kpos:Pos}{e o:qh}{es:List qh}{kws:List xo}{te ta:TE}{t tk:TA}{nm:pY Str}
structure mF(K:pV)(fd:tU)(ps ks:List Str)(g:List pW->List pW->List pW)(gV:List V->List V->List V):Prop where
 to:∀(s:pX) (us ws:List pW),K.In s.heap->(g us ws).length=ps.length->BindsTo s fd ⟨us,ks.zip ws⟩ (ps.zip (g us ws))
 rel:∀{vs:List V} {us:List pW} {zs:List V} {ws:List pW},Vals vs us->Vals zs ws->Vals (gV vs zs) (g us ws)
variable{g:List pW->List pW->List pW}{gV:List V->List V->List V}
end
structure AX(N P:List Str)(sc:tT):Prop where
 kind:sc.kind=.function
 co:sc.isCoroutine=false
 gen:sc.isGenerator=false
 nd:N.Nodup
 pre:N.take P.length=P
 par:∀x∈P,sc.names.lookup x=Gc .local\/sc.names.lookup x=Gc .cell
 fg:∀y∈sc.names,y.2≠.free
theorem PN{kindOf:Str->pY uw}{x:Str}:∀{binds:List (Str×pW)} {m:Str->pY pW},(∀v,(x,v)∉binds)->bindL kindOf binds m x=m x
 | [],_,_=>rfl
 |(n,v)::r,m,h=>by
  unfold bindL
  rw[PN λw hw=>h w (qC _ hw)]
  split
  .have:x≠n:=by rintro rfl;exact h v qH
   simp[this]
  .rfl
theorem Oo{kindOf:Str->pY uw}{x:Str}:∀{binds:List (Str×pW)} {m:Str->pY pW},(∀v,(x,v)∉binds)->bindC kindOf binds m x=m x
 | [],_,_=>rfl
 |(n,v)::r,m,h=>by
  unfold bindC
  rw[Oo λw hw=>h w (qC _ hw)]
  split
  .rfl
  .have:x≠n:=by rintro rfl;exact h v qH
   simp[this]
theorem O8{kindOf:Str->pY uw}{x:Str}{v:pW}:∀{P:List Str} {vs:List pW} {i:Nat} {m:Str->pY pW},P.Nodup->P[i]?=Gc x->vs[i]?=Gc v->kindOf x=Gc .local->bindL kindOf (P.zip vs) m x=Gc v
 | [],_,_,_,_,h,_,_=>by simp at h
 |_::_,[],_,_,_,_,h,_=>by simp at h
 |p::P,w::vs,0,m,nd,h1,h2,hk=>by
  simp at h1 h2;subst h1;subst h2
  show bindL kindOf ((p,w)::P.zip vs) m p=_
  unfold bindL
  rw[PN λv hv=>(tj.mp nd).1 (uY hv).1,qc hk]
  simp
 |p::P,w::vs,i+1,m,nd,h1,h2,hk=>by
  show bindL kindOf ((p,w)::P.zip vs) m x=_
  unfold bindL
  exact O8 (i:=i) (tj.mp nd).2 (by simpa using h1) (by simpa using h2) hk
theorem O5{kindOf:Str->pY uw}{x:Str}{v:pW}:∀{P:List Str} {vs:List pW} {i:Nat} {m:Str->pY pW},P.Nodup->P[i]?=Gc x->vs[i]?=Gc v->kindOf x≠Gc .local->bindC kindOf (P.zip vs) m x=Gc v
 | [],_,_,_,_,h,_,_=>by simp at h
 |_::_,[],_,_,_,_,h,_=>by simp at h
 |p::P,w::vs,0,m,nd,h1,h2,hk=>by
  simp at h1 h2;subst h1;subst h2
  show bindC kindOf ((p,w)::P.zip vs) m p=_
  unfold bindC
  rw[Oo λv hv=>(tj.mp nd).1 (uY hv).1,qj hk]
  simp
 |p::P,w::vs,i+1,m,nd,h1,h2,hk=>by
  show bindC kindOf ((p,w)::P.zip vs) m x=_
  unfold bindC
  exact O5 (i:=i) (tj.mp nd).2 (by simpa using h1) (by simpa using h2) hk
noncomputable def start(N:List Str)(vs:List V):St:=vs.map Gc++qZ (N.length-vs.length) none
noncomputable def Xb(CX:CXT)(P:qa)(w:qq)(K:pV)(mg:Str->pY pW)(base:qu)(N:List Str)(qual:Str)(scope:tT)(f:pz)(cd:pW)(A:qx)(outer:List Env)(s:pX)(H:Hp)(E:XK):Cx where
 prog:=P
 w:=w
 K:=K
 mg:=mg
 base:=base
 A:=A.deeper (envOfC qual scope s.heap.objs.size f cd)
 N:=N
 s₀:=s
 H₀:=H
 env:=envOfC qual scope s.heap.objs.size f cd
 outer:=outer
 stack:=envOfC qual scope s.heap.objs.size f cd::outer
 ex:=[]
 calm:=true
 fn:=λ_=>true
 pn:=[]
 xe:=λe s'=>wpAny (model P w) (A.deeper (envOfC qual scope s.heap.objs.size f cd)) (leaving (envOfC qual scope s.heap.objs.size f cd) e) (λ_ s''=>CX outer H s E e s'') (λe' s''=>CX outer H s E e' s'') s'
theorem K2{sc:tT}{n:Nat}{x:Str}(h:sc.names.lookup x=Gc .cell):∃c,(cellsFrom n sc.names []).lookup x=Gc c:=by
 have q:=yY sc.names n [] (.inl h)
 exact yB.mp q
theorem UZ{CX:CXT}{P:qa}{w:qq}{K:pV}{mg:Str->pY pW}{base:qu}{N ps:List Str}{qual:Str}{scope:tT}{f:pz}{cd:pW}{A:qx}{outer:List Env}{s s1:pX}{H:Hp}{E:XK}{us:List pW}{vs:List V}(S:AX N ps scope)(hd:A.handled=none)(e0:jN P w K mg base A outer s H)(hl:vs.length=ps.length)(r:Vals vs us)(x:InCallC s s.heap.objs.size (bindL (envOfC qual scope s.heap.objs.size f cd).kindOf (ps.zip us) λ_=>none) (cellsFrom (s.heap.objs.size+1) scope.names []) (bindC (envOfC qual scope s.heap.objs.size f cd).kindOf (ps.zip us) λ_=>none) s1):Inv (Xb CX P w K mg base N qual scope f cd A outer s H E) [] (start N vs) H s1:=by
 have hpl:ps.length<=N.length:=by have:=congrArg xp S.pre;rw[uG]at this;lia
 obtain⟨h1,tk,rfl,hk⟩:=x.done
 have noA:∀b:pz,b∉(Xb CX P w K mg base N qual scope f cd A outer s H E).ex:=λb z=>absurd (show b∈([]:List pz)from z) (by simp)
 refine⟨⟨e0.mod,S.kind,rfl,rfl,p9 _,λy z c h1 h2=>?_,λy hy=>?_,λy c _ h=>?_,λ_=>hd,Around.frames_deeper e0.frames,.inr ⟨rfl,rfl⟩,λb z=>absurd z (noA b),e0.bs,e0.bsz,λb _ _=>noA b,λb z=>absurd z (noA b),e0.Up,e0.frf⟩,
  rfl,e0.bare,Un.kept hk,⟨_,x.toInCall.ns,λi y v h1 h2 h3=>?_⟩,λy c h=>⟨_,x.cell y c h⟩,e0.hok.fresh (p9 _),λy c h=>?_,λp hp=>absurd (show p∈([]:List (pz×Obj))from hp) (by simp),e0.hok.kept hk,?_⟩
 .exact name_of_addr x.apart (rZ h1) (rZ h2)
 .have hy:scope.names.lookup y=Gc .cell\/scope.names.lookup y=Gc .free:=hy
  rcases hy with hy|hy
  .exact K2 hy
  .exact absurd rfl (S.fg _ (rZ hy))
 .exact sF (x.above y c (rZ h))
 .have hi:i<vs.length:=by
   unfold start at h2
   by_cases hi:i<vs.length
   .exact hi
   .rw[qy (by simpa using hi)]at h2
    rw[yL]at h2
    split at h2<;>cases h2
  have ha:vs[i]?=Gc v:=by
   unfold start at h2
   rw[pq (by simpa using hi),qf]at h2
   cases e:vs[i]? with
   |none=>rw[e]at h2;cases h2
   |some a=>rw[e]at h2;cases h2;rfl
  obtain⟨u,hu,rv⟩:=r.get ha
  have hp:ps[i]?=Gc y:=by
   rw[<-S.pre,List.getElem?_take_of_lt (by lia)];exact h1
  have ndP:ps.Nodup:=by rw[<-S.pre];exact S.nd.sublist (wH _ _)
  refine⟨u,rv,?_⟩
  rcases S.par y (qX hp)with k|k
  .exact .inl ⟨k,O8 ndP hp hu k⟩
  .obtain⟨c,e⟩:=K2 (n:=s.heap.objs.size+1) k
   refine .inr ⟨.inl k,c,e,?_⟩
   have q:=x.cell y c e
   rw[O5 ndP hp hu (by show scope.names.lookup y≠_;rw[k];decide)]at q
   exact q
 .exact e0.hok.fresh (sF (x.above y c (rZ h)))
 .unfold start
  show _=N.length
  rw[qw,qP,List.length_replicate]
  lia
theorem lE{CX:CXT}{P:qa}{w:qq}{K:pV}{mg:Str->pY pW}{base:qu}{k:Nat}{f:pz}{name qual:Str}{params:Arguments}{body:List rO}{scope:tT}{dV kV doc pm cdv ct oc:pW}{an od:pY pz}{osl:qd (pY pW)}{N ps:List Str}{sp:Sp}(lk:K.lookup f=Gc ⟨oc,od,.func (vE name qual params body scope dV kV doc pm an cdv ct),osl⟩)(hcd:xP K cdv qual=true)(S:AX N ps scope)(len:∀vs H Q E,sp vs H Q E->vs.length=ps.length)(hbody:∀(A:qx) (outer:List Env) (s:pX) (H:Hp) (vs:List V) (Q:VK) (E:XK),MM k (A.deeper (envOfC qual scope s.heap.objs.size f cdv))->sp vs H Q E->∃t,PSs (Xb CX P w K mg base N qual scope f cdv A outer s H E) body t/\t {nx:=λ_ H'=>Q .non H',rt:=Q} (start N vs) H):PU P w K mg base CX (k+1) f (vE name qual params body scope dV kV doc pm an cdv ct) ps sp:=by
 refine⟨len,λA outer s H args us vs Q E hr e0 hb r hsp=>?_⟩
 have hl:=len _ _ _ _ hsp
 have KX:K.In s.heap:=e0.mod.kin.keeps λb o e=>(e0.bs b o e).1
 have lim:s.heap.NoLimit:=e0.mod.nolimit.keeps λb o e=>(e0.bs b o e).1
 have hkind:∀y∈ps.zip us,scope.names.lookup y.1=Gc .local\/(scope.names.lookup y.1=Gc .cell/\((cellsFrom (s.heap.objs.size+1) scope.names []).lookup y.1).isSome=true):=λ⟨n,v⟩ hy=>by
  rcases S.par n (uY hy).1 with q|q
  .exact .inl q
  .exact .inr ⟨q,yY _ _ _ (.inl q)⟩
 refine codeAny_call_function hr.depth (KX _ _ lk) rfl S.co S.gen rfl (PySem.W.codeRec_of KX hcd) (hb _ _ _ _ ?_)
 refine wpAny_newFunctionEnv_cells S.kind hkind λenv he s1 x=>?_
 subst he
 refine⟨lim.keeps x.toInCall.keep,codeAny_func ?_⟩
 obtain⟨t,ht,hq⟩:=hbody A outer s H vs Q E (hr.deeper _) hsp
 have I:Inv (Xb CX P w K mg base N qual scope f cdv A outer s H E) [] (start N vs) H s1:=UZ S hr.hd e0 hl r x
 refine wZ (ht [] s1 (start N vs) H _ I hq) (λfl s' hs=>?_) λe s' hs=>hs
 have fin:∀{σ':St} {H':Hp} {v:V} {u:pW},Inv (Xb CX P w K mg base N qual scope f cdv A outer s H E) [] σ' H' s'->RelV v u->Q v H'->CE outer P w H s Q u s':=
  λ{σ' H' v u} J rv q=>⟨v,H',J.os,J.bare,J.base,J.hok,rv,q⟩
 cases fl with
 |ret u=>
  obtain⟨v,σ',H',J,rv,q⟩:=hs
  exact fin J rv q
 |next=>
  obtain⟨σ',H',J,q⟩:=hs
  exact fin (v:=V.non) (u:=sL) J rfl q
 |brk=>
  obtain⟨_,_,_,q⟩:=hs
  exact vC q
 |cont=>
  obtain⟨_,_,_,q⟩:=hs
  exact vC q
end L2
namespace L2
open PySem PySem.Spec PyProof.Rows
section
variable{X:Cx}{x:Str}{p pos:Pos}{e:qh}{es:List qh}{t:TA}{id T:tZ}{r:List V->Hp->VK->Prop}
noncomputable def tCB(r:List V->Hp->VK->Prop)(t:TA):TE:=λσ H Q=>t σ H λvs H1=>r vs H1 Q
theorem XU(hc:Ds X (.builtin id) r)(hg:Gl X x)(hm:X.mg x=none)(hv:bootBuiltins x=Gc (.builtin id))(ha:PA X (e::es) t)(hn:x≠ "__name__":=by decide)(hdb:(x==("__debug__":Str))=false:=by decide)(he:qb (e::es) X.env=(false,eval e X.env)::qb es X.env:=by rfl)(hpl:(backTo pos (qb es X.env)).any (·.1)=false:=by rfl):PE X (.Call (.Name x p) (e::es) [] pos) (tCB r t):=by
 intro pins s σ H Q I h
 refine uM (JX I hg hm hv ?_ hn hdb)
 exact wc (thn (ha pos pins s σ H _ I h) λus s1 ⟨vs,H1,I1,r1,q1⟩=>hc pins s1 σ H1 vs us Q I1 r1 q1) he hpl
theorem O4(hc:Ds X (.type T) r)(hg:Gl X x)(hm:X.mg x=none)(hv:bootBuiltins x=Gc (.type T))(ha:PA X (e::es) t)(hn:x≠ "__name__":=by decide)(hdb:(x==("__debug__":Str))=false:=by decide)(he:qb (e::es) X.env=(false,eval e X.env)::qb es X.env:=by rfl)(hpl:(backTo pos (qb es X.env)).any (·.1)=false:=by rfl):PE X (.Call (.Name x p) (e::es) [] pos) (tCB r t):=by
 intro pins s σ H Q I h
 refine uM (JX I hg hm hv ?_ hn hdb)
 exact uA (thn (ha pos pins s σ H _ I h) λus s1 ⟨vs,H1,I1,r1,q1⟩=>hc pins s1 σ H1 vs us Q I1 r1 q1) he hpl
end
end L2
namespace HT
open PySem PyProof.Rows
section
open PySem.SeqAt
open PySem.AutoSeq1 (wpAny_loadPart')
open PySem.MeetsSeq PySem.MeetsSeq2 PySem.MeetsSeq3
end
section
variable{prog:qa}{w:qq}{A:qx}{E:pW->pX->Prop}{s:pX}
theorem aO{t b:pz}{vs ws:List pW}{Q:pW->pX->Prop}(ht:IsTup s.heap t vs.toArray)(hb:IsTup s.heap b ws.toArray)(hv:vs≠[])(h1:ws=[]->Q (.ref t) s)(h2:ws≠[]->Q (.ref s.heap.objs.size) {s with heap:=s.heap.push {cls:=.type "tuple",data:=.seq (vs++ws).toArray}})(hsz:vs.length+ws.length<=sizeLine):wpAny (model prog w) A (binaryOp .Add (.ref t) (.ref b)) Q E s:=by
 obtain⟨⟨cls,dd,data,sl⟩,ho,hc,n,hd⟩:=id ht
 obtain⟨⟨cls2,dd2,data2,sl2⟩,ho2,hc2,n2,hd2⟩:=id hb
 simp only at hc hd hc2 hd2
 subst hc hd hc2 hd2
 have e:vs.toArray++ws.toArray=(vs++ws).toArray:=by simp
 by_cases hw:ws=[]
 .exact concat_meets ⟨_,ho,rfl⟩ ⟨_,ho2,rfl⟩ yM zm wI vy (vh _ _)
   (tuple_addW1 t b vs.toArray ws.toArray n n2 dd dd2 sl sl2 (by simpa using hv) (by simp[hw])) ⟨ho,ho2,h1 hw⟩
 .refine concat_meets ⟨_,ho,rfl⟩ ⟨_,ho2,rfl⟩ yM zm wI vy (vh _ _)
   (tuple_addW2 t b vs.toArray ws.toArray n n2 dd dd2 sl sl2 (by simpa using hv) (by simpa using hw) (by rw[qK,qK];exact hsz)) ⟨ho,ho2,?_⟩
  rw[e]
  exact h2 hw
noncomputable def sIx(n d:Nat):pY Int->Nat
 |none=>d
 |some v=>if v<0 then(v+(n:Int)).toNat else min v.toNat n
theorem QQ(n d k:Nat):sIx n d (Gc (k:Int))=min k n:=by
 show(if(k:Int)<0 then((k:Int)+(n:Int)).toNat else min (k:Int).toNat n)=min k n
 rw[qj (by lia),vS]
theorem gn(n d:Nat)(hd:d<=n)(o:pY Int):sIx n d o<=n:=by
 cases o with
 |none=>exact hd
 |some v=>
  show(if v<0 then(v+(n:Int)).toNat else min v.toNat n)<=n
  by_cases hv:v<0
  .rw[qc hv];lia
  .rw[qj hv];exact Nat.min_le_right _ _
theorem TH(v:Int)(n d:Nat):(if v<0 then max (v+(n:Int)) 0 else min v (n:Int))=((sIx n d (Gc v):Nat):Int):=by
 show(if v<0 then max (v+(n:Int)) 0 else min v (n:Int))=(((if v<0 then(v+(n:Int)).toNat else min v.toNat n):Nat):Int)
 by_cases hv:v<0
 .simp only[qc hv];lia
 .simp only[qj hv];lia
theorem RZ(lo hi:pY Int)(n:Nat):sU lo hi 1 (n:Int)=(((sIx n 0 lo:Nat):Int),((sIx n n hi:Nat):Int)):=by
 have h1:¬((1:Int)<0):=by lia
 unfold sU
 simp only[h1,ux]
 refine Prod.ext ?_ ?_
 .cases lo with
  |none=>rfl
  |some v=>exact TH v n 0
 .cases hi with
  |none=>rfl
  |some v=>exact TH v n n
theorem Rp(i j:Nat):rT (i:Int) (j:Int) 1=j-i:=by
 unfold rT
 have h1:(1:Int)>0:=by lia
 simp only[h1,wJ,Int.ediv_one]
 split<;>lia
theorem Mg{v:pW}{o:pY Int}{Q:pY Int->pX->Prop}(p:yZ v o)(h:Q o s):wpAny (model prog w) A (Builtin.Slice.slicePartIndex v) Q E s:=by
 cases p with
 |none=>exact xQ h
 |int i t=>exact slicePart_int h
theorem HF{sl:pz}{vl vu:pW}{lo hi:pY Int}{n:Nat}{Q:Int×Int×Nat->pX->Prop}(hs:s.heap.IsSliceOf sl vl vu .none)(pl:yZ vl lo)(pu:yZ vu hi)(h:Q (((sIx n 0 lo:Nat):Int),1,sIx n n hi-sIx n 0 lo) s):wpAny (model prog w) A (uN (.ref sl) (pure (n:Int))) Q E s:=by
 obtain⟨os,hos,hcs,hds⟩:=id hs
 unfold uN xg
 refine Wp (Wp (si hos hds (x:=vl) rfl (Wp (si hos hds (x:=vu) rfl (Wp (si hos hds (x:=.none) rfl (pZ ?_)))))))
 refine Wp (xQ ?_)
 show wpAny _ _ (if((1:Int)==0)=true then _ else _) _ _ s
 rw[qj (by decide)]
 refine Wp (Mg pl (Wp (Mg pu (Wp (pZ ?_)))))
 show wpAny _ _ (match sU lo hi 1 (n:Int)with|(lo,hi)=>pure (lo,(1:Int),rT lo hi 1)) _ _ s
 rw[RZ lo hi n]
 show wpAny _ _ (pure (((sIx n 0 lo:Nat):Int),(1:Int),rT ((sIx n 0 lo:Nat):Int) ((sIx n n hi:Nat):Int) 1)) _ _ s
 rw[Rp]
 exact pZ h
theorem Xh(xs:qd pW)(i k:Nat):((qR k).filterMap λ(m:Nat)=>xs[((i:Int)+(m:Int)*1).toNat]?).toArray=((xs.toList.drop i).take k).toArray:=by
 have e:(λ(m:Nat)=>xs[((i:Int)+(m:Int)*1).toNat]?)=λm=>xs[i+m]?:=by
  funext m
  have:((i:Int)+(m:Int)*1).toNat=i+m:=by lia
  rw[this]
 rw[e]
 have:=pick_run xs i k
 rw[List.filterMap_map]at this
 have e2:((λx=>xs[x]?)∘λx=>i+x)=λm=>xs[i+m]?:=rfl
 rw[e2]at this
 rw[this]
theorem Jt{t sl:pz}{items:qd pW}{vl vu:pW}{lo hi:pY Int}{Q:pW->pX->Prop}(ht:IsTup s.heap t items)(hs:s.heap.IsSliceOf sl vl vu .none)(pl:yZ vl lo)(pu:yZ vu hi)(hw:¬(sIx items.size 0 lo=0/\sIx items.size items.size hi=items.size))(h:Q (.ref s.heap.objs.size) {s with heap:=s.heap.push {cls:=.type "tuple",data:=.seq ((items.toList.drop (sIx items.size 0 lo)).take (sIx items.size items.size hi-sIx items.size 0 lo)).toArray}})(hsz:items.size<=sizeLine):wpAny (model prog w) A (getItem (.ref t) (.ref sl)) Q E s:=by
 have htake:sizeOk (.seq ((items.toList.drop (sIx items.size 0 lo)).take (sIx items.size items.size hi-sIx items.size 0 lo)).toArray):=by
  show((items.toList.drop (sIx items.size 0 lo)).take (sIx items.size items.size hi-sIx items.size 0 lo)).toArray.size<=sizeLine
  rw[qK,uG,yN,rY]
  lia
 have hj:sIx items.size items.size hi<=items.size:=gn _ _ (p9 _) hi
 obtain⟨os,hos,hcs,hds⟩:=id hs
 have hTs:s.TypeIs (.ref sl) "slice":=⟨os,hos,hcs⟩
 unfold getItem
 try with_reducible refine rB ?_
 first|refine Wp (pZ ?_)|skip
 refine Wp (xq ht.typeIs (by decide) ?_)
 refine Wp (rC (name:=rK "__getitem__") ht.typeIs qp
  (q9 qp ht.typeIs xD ?_ (xR _ _)))
 show wpAny _ _ (vV (.ref t) >>= _) _ _ s
 refine Wp (zo ht ?_)
 refine Wp (vF hTs ?_)
 rw[qc (by decide)]
 refine Wp (HF hs pl pu ?_)
 have hno:¬((((sIx items.size 0 lo:Nat):Int)==0 && (1:Int)==1 && (sIx items.size items.size hi-sIx items.size 0 lo)==items.size)=true):=by
  intro q
  rw[qO,qO]at q
  have q1:((sIx items.size 0 lo:Nat):Int)=0:=eq_of_beq q.1.1
  have q2:sIx items.size items.size hi-sIx items.size 0 lo=items.size:=eq_of_beq q.2
  exact hw ⟨by lia,by lia⟩
 show wpAny _ _ (if(((sIx items.size 0 lo:Nat):Int)==0 && (1:Int)==1 && (sIx items.size items.size hi-sIx items.size 0 lo)==items.size)=true then _ else _) _ _ s
 rw[qj hno,Xh]
 first
  |exact Wp (m:=rV _) (qr (pZ ⟨_,rfl,pZ h⟩) htake)
  |exact Wp (m:=rV _) (qr (Wp (pZ (pZ ⟨_,rfl,pZ h⟩))) htake)
  |exact Wp (Wp (m:=rV _) (qr (pZ (pZ ⟨_,rfl,pZ h⟩)) htake))
  |exact Wp (Wp (m:=rV _) (qr (pZ ⟨_,rfl,pZ h⟩) htake))
end
end HT
namespace L2
open PySem PySem.Spec PyProof.Rows
abbrev TO:=St->Hp->(pY Int->Hp->Prop)->Prop
def PO(X:Cx)(e:pY qh)(t:TO):Prop:=
 ∀(pins:List (pz×Obj)) (s:pX) (σ:St) (H:Hp) (Q:pY Int->Hp->Prop),Inv X pins σ H s->t σ H Q->
  wpAny (model X.prog X.w) X.A (evalPart e X.env) (λu s'=>∃o H',Inv X pins σ H' s'/\yZ u o/\Q o H') X.xe s
noncomputable def ay:TO:=λ_ H Q=>Q none H
noncomputable def lA(t:TE):TO:=λσ H Q=>t σ H λx H1=>∃i,x=.int i/\Q (Gc i) H1
theorem intsAre_of{ns:List Int}:∀{us:List pW},Vals (ns.map V.int) us->tW us ns:=by
 induction ns with
 |nil=>intro us r;rw[sG]at r;cases r;exact .nil
 |cons n ns ih=>
  intro us r
  rw[qS]at r
  cases r with
  |cons r1 r2=>
   obtain⟨t,e⟩:=r1
   subst e
   exact .cons n t (ih r2)
section
variable{X:Cx}{e:qh}{te:TE}{lo hi:pY qh}{tl th:TO}{pos p2:Pos}
theorem Uy:PO X none ay:=by
 intro pins s σ H Q I h
 rw[zp]
 exact pZ ⟨none,H,I,.none,h⟩
theorem Ng(h:PE X e te):PO X (Gc e) (lA te):=by
 intro pins s σ H Q I hw
 rw[evalPart_some]
 refine thn (h pins s σ H _ I hw) λu s1 ⟨x,H1,I1,r1,q1⟩=>?_
 obtain⟨i,rfl,q⟩:=q1
 obtain⟨t,rfl⟩:=r1
 exact⟨Gc i,H1,I1,.int i t,q⟩
def SlR(X:Cx)(r:V->pY Int->pY Int->Hp->VK->Prop):Prop:=
 ∀(pins:List (pz×Obj)) (s:pX) (σ:St) (H:Hp) (x:V) (v vl vu:pW) (lo hi:pY Int) (sl:pz) (Q:VK),Inv X pins σ H s->RelV x v->s.heap.IsSliceOf sl vl vu .none->yZ vl lo->yZ vu hi->r x lo hi H Q->
  ∃T id,typeLookup (.type T) "__getitem__"=pure (Gc (.builtin id))/\s.TypeIs v T/\wpAny (model X.prog X.w) X.A (getItem v (.ref sl)) (EP X pins σ Q) X.xe s
noncomputable def tSl(r:V->pY Int->pY Int->Hp->VK->Prop)(te:TE)(tl th:TO):TE:=λσ H Q=>te σ H λx H1=>tl σ H1 λl H2=>th σ H2 λu H3=>r x l u H3 Q
theorem N1{r:V->pY Int->pY Int->Hp->VK->Prop}(hr:SlR X r)(he:PE X e te)(hl:PO X lo tl)(hu:PO X hi th):PE X (.Subscript e (.Slice lo hi none p2) pos) (tSl r te tl th):=by
 intro pins s σ H Q I h
 refine y8 (thn (he pins s σ H _ I h) λv s1 ⟨x,H1,I1,r1,q1⟩=>?_)
 refine wpAny_Slice (thn (hl pins s1 σ H1 _ I1 q1) λvl s2 ⟨l,H2,I2,pl,q2⟩=>thn (hu pins s2 σ H2 _ I2 q2) λvu s3 ⟨u,H3,I3,pu,q3⟩=>?_)
 rw[zp]
 refine pZ ?_
 have I4:Inv X pins σ H3 {s3 with heap:=s3.heap.push {cls:=.type "slice",data:=.fields #[vl,vu,.none]}}:=I3.kept (t':=s3.toks) λb ob q=>pU _ q
 obtain⟨T,id,hT,ht,hg⟩:=hr pins {s3 with heap:=s3.heap.push {cls:=.type "slice",data:=.fields #[vl,vu,.none]}} σ H3 x v vl vu l u s3.heap.objs.size Q I4 r1 (z9 ..) pl pu q3
 show wpAny (model X.prog X.w) X.A (subscriptTail e (.Slice lo hi none p2) v (.ref s3.heap.objs.size)) (EP X pins σ Q) X.xe {s3 with heap:=s3.heap.push {cls:=.type "slice",data:=.fields #[vl,vu,.none]}}
 exact tail_any (ops:=[.ref s3.heap.objs.size,v]) ht hT hg (by with_unfolding_all rfl)
noncomputable def Za(xs:List V)(lo hi:pY Int):List V:=(xs.drop (HT.sIx xs.length 0 lo)).take (HT.sIx xs.length xs.length hi-HT.sIx xs.length 0 lo)
theorem LW(xs:List V)(lo hi:pY Int):(Za xs lo hi).length<=xs.length:=by
 unfold Za
 rw[uG,yN]
 lia
def oC(K:pV):V->pY Int->pY Int->Hp->VK->Prop:=λx lo hi H Q=>∃a xs,x=.ref a/\SqT K H a xs/\
 ¬(HT.sIx xs.length 0 lo=0/\HT.sIx xs.length xs.length hi=xs.length)/\∀p,H p=none->Q (.ref p) (upd H p (.tup (Za xs lo hi)))
theorem gQ:SlR X (oC X.K):=by
 intro pins s σ H x v vl vu lo hi sl Q I rx hs pl pu h
 obtain⟨a,xs,rfl,hx,hw,q⟩:=h
 cases rx
 obtain⟨its,r,ht,hz⟩:=I.tuple hx
 have hlen:its.toArray.size=xs.length:=by rw[qK];exact r.length.symm
 refine⟨"tuple",_,qp.lookup,ht.typeIs,?_⟩
 refine HT.Jt ht hs pl pu (by rw[hlen];exact hw) ?_ (by rw[hlen];exact hz)
 rw[hlen]
 refine⟨.ref s.heap.objs.size,_,I.laid (t':=s.toks) (o:=.tup (Za xs lo hi)) (λb ob q=>pU _ q) (p9 _) ?_,rfl,q _ (I.hok.fresh (p9 _))⟩
 exact⟨qD (LW xs lo hi) hz,_,(r.drop (HT.sIx xs.length 0 lo)).take (HT.sIx xs.length xs.length hi-HT.sIx xs.length 0 lo),ui _ _⟩
noncomputable def jw(K:pV):R2:=λx y H Q=>∃a b xs ys,x=.ref a/\y=.ref b/\SqT K H a xs/\SqT K H b ys/\xs≠[]/\xs.length+ys.length<=sizeLine/\
 (ys=[]->Q (.ref a) H)/\(ys≠[]->∀p,H p=none->Q (.ref p) (upd H p (.tup (xs++ys))))
theorem Vals.Nh{xs:List V}{us:List pW}(r:Vals xs us):us=[]↔xs=[]:=by
 cases r with
 |nil=>simp
 |cons _ _=>simp
theorem aH:OpR X (binaryOp .Add) (jw X.K):=by
 intro pins s σ H x y v u Q I rx ry h
 obtain⟨a,b,xs,ys,rfl,rfl,ha,hb,hx,hz,q1,q2⟩:=h
 cases rx
 cases ry
 obtain⟨its,r1,p1,_⟩:=I.tuple ha
 obtain⟨its2,r2,p2,_⟩:=I.tuple hb
 refine HT.aO p1 p2 (λz=>hx (r1.Nh.mp z)) (λz=>⟨.ref a,H,I,rfl,q1 (r2.Nh.mp z)⟩) (λz=>?_) (by rw[<-r1.length,<-r2.length];exact hz)
 refine⟨.ref s.heap.objs.size,_,I.laid (t':=s.toks) (o:=.tup (xs++ys)) (λb ob q=>pU _ q) (p9 _) ?_,rfl,q2 (λw=>z (r2.Nh.mpr w)) _ (I.hok.fresh (p9 _))⟩
 exact⟨by rw[qw];exact hz,_,r1.append r2,ui _ _⟩
end
end L2
namespace L2
open PySem PySem.Spec PyProof.Rows
noncomputable def ixN(n:Nat)(i:Int):pY Nat:=if 0<=i then(if i<n then Gc i.toNat else none)else if-(n:Int)<=i then Gc (i+n).toNat else none
noncomputable def atI{α:Type}(xs:List α)(i:Int):pY α:=(ixN xs.length i).bind λj=>xs[j]?
theorem Ub{n:Nat}{i:Int}{j:Nat}(h:ixN n i=Gc j):seqIndex? i n=Gc j/\j<n/\ -(n:Int)<=i/\i<n:=by
 unfold ixN at h
 by_cases h0:0<=i
 .rw[qc h0]at h
  by_cases h1:i<n
  .rw[qc h1]at h
   have e:i.toNat=j:=rG h
   exact⟨by rw[seqIndex_of h0 h1,e],by lia,by lia,h1⟩
  .rw[qj h1]at h;cases h
 .rw[qj h0]at h
  by_cases h1: -(n:Int)<=i
  .rw[qc h1]at h
   have e:(i+n).toNat=j:=rG h
   exact⟨by rw[seqIndex_neg (by lia) h1,e],by lia,h1,by lia⟩
  .rw[qj h1]at h;cases h
theorem U6{α:Type}{xs:List α}{i:Int}{v:α}(h:atI xs i=Gc v):∃j,seqIndex? i xs.length=Gc j/\xs[j]?=Gc v/\j<xs.length/\ -(xs.length:Int)<=i/\i<xs.length:=by
 unfold atI at h
 cases e:ixN xs.length i with
 |none=>rw[e]at h;cases h
 |some j=>
  rw[e]at h
  obtain⟨h1,h2,h3,h4⟩:=Ub e
  exact⟨j,h1,h,h2,h3,h4⟩
theorem cG{α:Type}{xs:List α}{j:Nat}{v:α}(h:xs[j]?=Gc v):atI xs (j:Int)=Gc v:=by
 have hj:j<xs.length:=(qF.mp h).1
 have e:ixN xs.length (j:Int)=Gc j:=by
  unfold ixN
  rw[qc (by lia),qc (by lia)];simp
 unfold atI;rw[e];exact h
theorem RV{α:Type}(xs:List α)(v:α):atI (xs++[v]) (-1)=Gc v:=by
 have hl:(xs++[v]).length=xs.length+1:=by simp
 have e:ixN (xs++[v]).length (-1)=Gc xs.length:=by
  unfold ixN
  rw[hl,qj (by decide),qc (by lia)]
  congr 1
  lia
 unfold atI
 rw[e]
 show(xs++[v])[xs.length]?=Gc v
 simp
def TY(b:qh):Prop:=∀o i,subscripted b false o i=operate [o,i] (getItem o i)
def IxR(X:Cx)(r:R2):Prop:=
 ∀(value slice:qh) (pins:List (pz×Obj)) (s:pX) (σ:St) (H:Hp) (x y:V) (v u:pW) (Q:VK),Inv X pins σ H s->RelV x v->RelV y u->r x y H Q->
  subscripted slice false v u=operate [v,u] (getItem v u)->wpAny (model X.prog X.w) X.A (subscriptTail value slice v u) (EP X pins σ Q) X.xe s
def MtR(X:Cx)(id:tZ)(r:V->List V->Hp->VK->Prop):Prop:=
 ∀(pins:List (pz×Obj)) (s:pX) (σ:St) (H:Hp) (x:V) (xs:List V) (v:pW) (us:List pW) (Q:VK),Inv X pins σ H s->RelV x v->Vals xs us->r x xs H Q->
  wpAny (model X.prog X.w) X.A (call (.builtin id) (v::us)) (EP X pins σ Q) X.xe s
section
variable{X:Cx}{a b:qh}{ta tb:TE}{pos:Pos}
theorem j8{r:R2}(hr:IxR X r)(ha:PE X a ta)(hb:PE X b tb)(hs:TY b):PE X (.Subscript a b pos) (tOp r ta tb):=by
 intro pins s σ H Q I h
 exact y8 (jz ha hb I h λv u s2 x y H2 I2 rx ry q=>hr a b pins s2 σ H2 x y v u Q I2 rx ry q (hs _ _))
noncomputable def oW(K:pV):R2:=λx y H Q=>∃p xs i v,x=.ref p/\y=.int i/\SqL K H p xs/\atI xs i=Gc v/\Q v H
noncomputable def oS(K:pV):R2:=λx y H Q=>∃p xs i v,x=.ref p/\y=.int i/\SqT K H p xs/\atI xs i=Gc v/\Q v H
theorem Z3:IxR X (oW X.K):=by
 intro value slice pins s σ H x y v u Q I rx ry h hs
 obtain⟨p,xs,i,z,rfl,rfl,hq,he,q⟩:=h
 cases rx
 obtain⟨t,rfl⟩:=ry
 obtain⟨its,r,pl,hz⟩:=I.list hq
 obtain⟨j,h1,h2,h3,h4,h5⟩:=U6 he
 obtain⟨w,ew,rw'⟩:=r.get h2
 have hl:=r.length
 have hn:=Pa
 have fin:EP X pins σ Q w s:=⟨z,H,I,rw',q⟩
 by_cases h0:0<=i
 .have hj:i.toNat=j:=by
   rw[seqIndex_of h0 h5]at h1
   exact rG h1
  exact item_listR pl.isList h0 (by lia) (by rw[hj];simpa using ew) fin hs
 .have hj:(i+(its.toArray.size:Int)).toNat=j:=by
   rw[seqIndex_neg (by lia) h4]at h1
   rw[qK,<-hl]
   exact rG h1
  exact ya (x:=w) pl.isList.typeIs slot_list_getitem.lookup
   (wpAny_getItem_list_neg (Q:=λr s'=>r=w/\EP X pins σ Q r s') pl.isList (by lia) (by rw[qK]<;>lia) (by lia) (by rw[hj];simpa using ew) ⟨rfl,fin⟩) hs
theorem gi:IxR X (oS X.K):=by
 intro value slice pins s σ H x y v u Q I rx ry h hs
 obtain⟨p,xs,i,z,rfl,rfl,hq,he,q⟩:=h
 cases rx
 obtain⟨t,rfl⟩:=ry
 obtain⟨its,r,pl,hz⟩:=I.tuple hq
 obtain⟨j,h1,h2,h3,h4,h5⟩:=U6 he
 obtain⟨w,ew,rw'⟩:=r.get h2
 have hl:=r.length
 have hn:=Pa
 have fin:EP X pins σ Q w s:=⟨z,H,I,rw',q⟩
 exact ya (x:=w) pl.typeIs qp.lookup
  (getItem_tuple (j:=j) (Q:=λr s'=>r=w/\EP X pins σ Q r s') pl (by lia) (by lia) (by rw[qK,<-hl];exact h1) (by simpa using ew) ⟨rfl,fin⟩) hs
theorem SS(its:List pW)(n j:Nat)(u:pW):rA (·.setIfInBounds j u) {cls:=.type "list",data:=.seq its.toArray n}={cls:=.type "list",data:=.seq (its.set j u).toArray n}:=by
 simp[rA]
theorem Inv.lst{pins:List (pz×Obj)}{σ:St}{H:Hp}{s:pX}{p:pz}{xs:List V}(I:Inv X pins σ H s)(h:H p=Gc (.lst xs)):∃(its:List pW) (n:Nat),Vals xs its/\s.heap.get? p=Gc {cls:=.type "list",data:=.seq its.toArray n}/\xs.length<=sizeLine:=by
 obtain⟨z,its,n,r,e⟩:=I.hok p _ h
 exact⟨its,n,r,e,z⟩
theorem Inv.gL{pins:List (pz×Obj)}{σ:St}{H:Hp}{s:pX}{p:pz}{xs ys:List V}{its its':List pW}{n n':Nat}{f:Obj->Obj}(I:Inv X pins σ H s)(h:H p=Gc (.lst xs))(ho:s.heap.get? p=Gc {cls:=.type "list",data:=.seq its.toArray n})(hf:f {cls:=.type "list",data:=.seq its.toArray n}={cls:=.type "list",data:=.seq its'.toArray n'})(r:Vals ys its')(hz:ys.length<=sizeLine)(t:Nat):Inv X pins σ (upd H p (.lst ys)) {s with heap:=s.heap.update p f,toks:=t}:=by
 have e:(s.heap.update p f).get? p=Gc {cls:=.type "list",data:=.seq its'.toArray n'}:=by
  rw[rE f ho (by rw[hf]<;>rfl),hf]
 refine I.write (x:=p) (e:=p) (by rw[h];trivial) (.inl rfl) (λb u hb q=>(sH _ _ (rm hb)).trans q) ⟨_,e⟩ ?_
 exact⟨hz,its',n',r,e⟩
def j4:V->V->V->Hp->(Hp->Prop)->Prop:=λo i v H Q=>∃p xs k j,o=.ref p/\i=.int k/\H p=Gc (.lst xs)/\ixN xs.length k=Gc j/\Q (upd H p (.lst (xs.set j v)))
theorem set_list:lQ X j4:=by
 intro pins s σ H o i v ov iv u Q I ro ri rv h
 obtain⟨p,xs,k,j,rfl,rfl,hp,hj,q⟩:=h
 cases ro
 obtain⟨t,rfl⟩:=ri
 obtain⟨its,n,r,ho,hz⟩:=I.lst hp
 obtain⟨h1,h2,h3,h4⟩:=Ub hj
 have hl:=r.length
 have hn:=Pa
 have I':Inv X pins σ (upd H p (.lst (xs.set j v))) {s with heap:=s.heap.update p (rA (·.setIfInBounds j u))}:=
  I.gL hp ho (SS its n j u) (r.set rv j) (by rw[tm];exact hz) s.toks
 by_cases h0:0<=k
 .have hk:k.toNat=j:=by
   rw[seqIndex_of h0 h4]at h1
   exact rG h1
  exact PySem.W.ki_setAt ho h0 (by lia) (by rw[qK,<-hl];exact h4) (by rw[hk];exact⟨_,I',q⟩)
 .have hk:(k+(its.toArray.size:Int)).toNat=j:=by
   rw[seqIndex_neg (by lia) h3]at h1
   rw[qK,<-hl]
   exact rG h1
  exact PySem.W.ki_setBack ho (by lia) (by rw[qK,<-hl];exact h3) (by lia) (by rw[hk];exact⟨_,I',q⟩)
theorem Pz(lo hi:pY Int)(n:Nat):(sliceBounds lo hi none n).1=((HT.sIx n 0 lo:Nat):Int)/\(sliceBounds lo hi none n).2.1=((HT.sIx n n hi:Nat):Int)/\(sliceBounds lo hi none n).2.2=1:=by
 refine⟨?_,?_,rfl⟩
 .cases lo with
  |none=>simp[sliceBounds,HT.sIx]
  |some i=>
   simp only[sliceBounds,HT.sIx,Option.getD_none,show(1:Int)>0 by decide,wJ]
   by_cases h:i<0
   .simp only[h,wJ]<;>lia
   .simp only[h,ux]<;>lia
 .cases hi with
  |none=>simp[sliceBounds,HT.sIx]
  |some i=>
   simp only[sliceBounds,HT.sIx,Option.getD_none,show(1:Int)>0 by decide,wJ]
   by_cases h:i<0
   .simp only[h,wJ]<;>lia
   .simp only[h,ux]<;>lia
theorem Nt(its:List pW)(lo hi:pY Int):slicePick its.toArray lo hi none=((its.drop (HT.sIx its.length 0 lo)).take (HT.sIx its.length its.length hi-HT.sIx its.length 0 lo)).toArray:=by
 obtain⟨h1,h2,h3⟩:=Pz lo hi its.toArray.size
 unfold slicePick
 rw[h1,h2,h3]
 simp only[sliceRange_one,pick_run,qK]<;>rfl
def nC(K:pV):V->pY Int->pY Int->Hp->VK->Prop:=λx lo hi H Q=>∃a xs,x=.ref a/\SqL K H a xs/\∀p,H p=none->Q (.ref p) (upd H p (.lst (Za xs lo hi)))
theorem bV:SlR X (nC X.K):=by
 intro pins s σ H x v vl vu lo hi sl Q I rx hs pl pu h
 obtain⟨a,xs,rfl,hx,q⟩:=h
 cases rx
 obtain⟨its,r,ht,hz⟩:=I.list hx
 have hlen:=r.length
 refine⟨"list",_,slot_list_getitem.lookup,ht.isList.typeIs,?_⟩
 refine wpAny_getItem_list_slice ht.isList hs pl pu .none (by simp) ?_ (by rw[qK]<;>lia)
 rw[Nt,<-hlen]
 refine⟨.ref s.heap.objs.size,_,I.laid (t':=s.toks) (o:=.lst (Za xs lo hi)) (λb ob q=>pU _ q) (p9 _) ?_,rfl,q _ (I.hok.fresh (p9 _))⟩
 exact⟨qD (LW xs lo hi) hz,_,0,(r.drop (HT.sIx xs.length 0 lo)).take (HT.sIx xs.length xs.length hi-HT.sIx xs.length 0 lo),qG _ rfl⟩
noncomputable def Mc:V->qk
 | .non=>true
 | .bl _=>true
 | .int _=>true
 | .str _=>true
 |_=>false
noncomputable def eqV:V->V->qk
 | .non,.non=>true
 | .bl a,.bl b=>a==b
 | .bl a,.int b=>(if a then 1 else 0)==b
 | .int a,.bl b=>a==(if b then 1 else 0)
 | .int a,.int b=>a==b
 | .str a,.str b=>a==b
 |_,_=>false
theorem fP{A:qx}{s:pX}{y x:V}{u v:pW}(ry:RelV y u)(rx:RelV x v)(fy:Mc y=true)(fx:Mc x=true):SeqAt.EqAt A s u v (eqV y x):=by
 cases y with
 |non=>
  cases ry
  cases x with
  |non=>cases rx;exact SeqAt.EqAt.same _
  |bl b=>cases rx;exact SeqAt.EqAt.none_bool b
  |int b=>obtain⟨t,rfl⟩:=rx;exact SeqAt.EqAt.none_int b t
  |str b=>obtain⟨t,rfl⟩:=rx;exact SeqAt.EqAt.none_str b t
  |_=>exact absurd (show false=true from fx) rH
 |bl a=>
  cases ry
  cases x with
  |non=>cases rx;exact SeqAt.EqAt.bool_none a
  |bl b=>cases rx;exact SeqAt.EqAt.bool_bool a b
  |int b=>obtain⟨t,rfl⟩:=rx;exact SeqAt.EqAt.bool_int a b t
  |str b=>obtain⟨t,rfl⟩:=rx;exact SeqAt.EqAt.bool_str a b t
  |_=>exact absurd (show false=true from fx) rH
 |int a=>
  obtain⟨t',rfl⟩:=ry
  cases x with
  |non=>cases rx;exact SeqAt.EqAt.int_none a t'
  |bl b=>cases rx;exact SeqAt.EqAt.int_bool a t' b
  |int b=>obtain⟨t,rfl⟩:=rx;exact SeqAt.EqAt.int_int a t' b t
  |str b=>obtain⟨t,rfl⟩:=rx;exact zx a t' b t
  |_=>exact absurd (show false=true from fx) rH
 |str a=>
  obtain⟨t',rfl⟩:=ry
  cases x with
  |non=>cases rx;exact SeqAt.EqAt.str_none a t'
  |bl b=>cases rx;exact SeqAt.EqAt.str_bool a t' b
  |int b=>obtain⟨t,rfl⟩:=rx;exact zy a t' b t
  |str b=>obtain⟨t,rfl⟩:=rx;exact SeqAt.EqAt.str_str a t' b t
  |_=>exact absurd (show false=true from fx) rH
 |_=>exact absurd (show false=true from fy) rH
noncomputable def eqU(x:V)(u:pW):qk:=match u with
 | .none=>eqV .non x
 | .bool b=>eqV (.bl b) x
 | .int i _=>eqV (.int i) x
 | .str z _=>eqV (.str z) x
 |_=>false
theorem ZC{x y:V}{u:pW}(r:RelV y u)(f:Mc y=true):eqU x u=eqV y x:=by
 cases y with
 |non=>cases r;rfl
 |bl b=>cases r;rfl
 |int i=>obtain⟨t,rfl⟩:=r;rfl
 |str z=>obtain⟨t,rfl⟩:=r;rfl
 |_=>exact absurd (show false=true from f) rH
theorem Lq{x:V}:∀{xs:List V} {us:List pW},Vals xs us->xs.all Mc=true->us.any (eqU x)=xs.any λy=>eqV y x
 |_,_,.nil,_=>rfl
 |y::xs,u::us,.cons r t,f=>by
  rw[uF,qO]at f
  rw[sV,sV,ZC r f.1,Lq t f.2]
theorem JM{A:qx}{s:pX}{x:V}{v:pW}(rx:RelV x v)(fx:Mc x=true):∀{xs:List V} {us:List pW},Vals xs us->xs.all Mc=true->∀u∈us,SeqAt.EqAt A s u v (eqU x u)
 |_,_,.nil,_=>λu hu=>by cases hu
 |y::xs,u::us,.cons r t,f=>λu' hu=>by
  rw[uF,qO]at f
  rcases qA.mp hu with rfl|hu
  .rw[ZC r f.1];exact fP r rx f.1 fx
  .exact JM rx fx t f.2 u' hu
noncomputable def inV(x:V)(xs:List V):qk:=xs.any λy=>eqV y x
noncomputable def rIn(K:pV)(neg:qk):R2:=λx y H Q=>∃p xs,y=.ref p/\(SqL K H p xs\/SqT K H p xs)/\Mc x=true/\xs.all Mc=true/\Q (.bl (if neg then !inV x xs else inV x xs)) H
theorem Ve:OpR X (compareOp .In) (rIn X.K false):=by
 intro pins s σ H x y v u Q I rx ry h
 obtain⟨p,xs,rfl,hq,fx,fs,q⟩:=h
 cases ry
 rcases hq with hq|hq
 .obtain⟨its,r,pl,hz⟩:=I.list hq
  refine SeqAt.in_listAt (eqU x) pl.isList (λw hw=>JM rx fx r fs w (by simpa using hw)) ⟨.bl _,H,I,rfl,?_⟩
  rw[show its.toArray.any (eqU x)=its.any (eqU x) by simp,Lq r fs]
  exact q
 .obtain⟨its,r,pl,hz⟩:=I.tuple hq
  refine SeqAt.in_tupleAt (eqU x) pl (λw hw=>JM rx fx r fs w (by simpa using hw)) ⟨.bl _,H,I,rfl,?_⟩
  rw[show its.toArray.any (eqU x)=its.any (eqU x) by simp,Lq r fs]
  exact q
theorem PQ:OpR X (compareOp .NotIn) (rIn X.K true):=by
 intro pins s σ H x y v u Q I rx ry h
 obtain⟨p,xs,rfl,hq,fx,fs,q⟩:=h
 cases ry
 rcases hq with hq|hq
 .obtain⟨its,r,pl,hz⟩:=I.list hq
  refine SeqAt.notIn_listAt (eqU x) pl.isList (λw hw=>JM rx fx r fs w (by simpa using hw)) ⟨.bl _,H,I,rfl,?_⟩
  rw[show its.toArray.any (eqU x)=its.any (eqU x) by simp,Lq r fs]
  exact q
 .obtain⟨its,r,pl,hz⟩:=I.tuple hq
  refine SeqAt.notIn_tupleAt (eqU x) pl (λw hw=>JM rx fx r fs w (by simpa using hw)) ⟨.bl _,H,I,rfl,?_⟩
  rw[show its.toArray.any (eqU x)=its.any (eqU x) by simp,Lq r fs]
  exact q
theorem PD:Ds X (.builtin "len") (λxs H Q=>∃p ys,xs=[.ref p]/\(SqL X.K H p ys\/SqT X.K H p ys)/\Q (.int ys.length) H):=by
 intro pins s σ H xs us Q I r h
 obtain⟨p,ys,rfl,hq,q⟩:=h
 obtain⟨u,rfl,rx⟩:=vals1 r
 cases rx
 have hn:=Pa
 rcases hq with hq|hq
 .obtain⟨its,r',pl,hz⟩:=I.list hq
  have hlen:=r'.length
  exact Calls.call_len_list pl.isList (by simp only[qK]<;>lia) ⟨.int ys.length,H,I.tok _,⟨s.toks+1,by rw[qK,hlen]⟩,q⟩
 .obtain⟨its,r',pl,hz⟩:=I.tuple hq
  have hlen:=r'.length
  exact len_tuple pl (by simp only[qK]<;>lia) ⟨.int ys.length,H,I.tok _,⟨s.toks+1,by rw[qK,hlen]⟩,q⟩
theorem Pr:Ds X (.builtin "len") (λxs H Q=>∃z,xs=[.str z]/\z.length<=sizeLine/\Q (.int z.length) H):=by
 intro pins s σ H xs us Q I r h
 obtain⟨z,rfl,hz,q⟩:=h
 obtain⟨u,rfl,t,rfl⟩:=vals1 r
 have hn:=Pa
 exact len_str (by lia) ⟨.int z.length,H,I.tok _,⟨_,rfl⟩,q⟩
theorem Ov:Ds X (.type "list") (λxs H Q=>∃p ys,xs=[.ref p]/\(SqL X.K H p ys\/SqT X.K H p ys)/\∀l,H l=none->Q (.ref l) (upd H l (.lst ys))):=by
 intro pins s σ H xs us Q I r h
 obtain⟨p,ys,rfl,hq,q⟩:=h
 obtain⟨u,rfl,rx⟩:=vals1 r
 cases rx
 have fin:∀(its:List pW),Vals ys its->ys.length<=sizeLine->∀(h':qu) (c':Nat),(∀b o',s.heap.get? b=Gc o'->h'.get? b=Gc o')->
   h'.get? s.heap.objs.size=Gc {cls:=.type "list",dict:=none,data:=.seq its.toArray c',slots:= #[]}->EP X pins σ Q (.ref s.heap.objs.size) {s with heap:=h'}:=λits r' hz h' c' kp e=>
  ⟨.ref s.heap.objs.size,_,I.laid (t':=s.toks) kp (p9 _) (show D3 X.prog X.w _ h' _ (.lst ys)from⟨hz,its,c',r',e⟩),rfl,q _ (I.hok.fresh (p9 _))⟩
 rcases hq with hq|hq
 .obtain⟨its,r',pl,hz⟩:=I.list hq
  have hlen:=r'.length
  obtain⟨o,ho,hc,n,hd⟩:=pl.isList
  exact call_list_seq p (.inl rfl) ho hc hd (λh' c' kp e=>fin its r' hz h' c' kp e) (by simp only[qK]<;>lia)
 .obtain⟨its,r',pl,hz⟩:=I.tuple hq
  have hlen:=r'.length
  obtain⟨o,ho,hc,n,hd⟩:=pl
  exact call_list_seq p (.inr rfl) ho hc hd (λh' c' kp e=>fin its r' hz h' c' kp e) (by simp only[qK]<;>lia)
theorem Oc:Ds X (.type "tuple") (λxs H Q=>∃p ys,xs=[.ref p]/\((SqL X.K H p ys/\∀l,H l=none->Q (.ref l) (upd H l (.tup ys)))\/(SqT X.K H p ys/\Q (.ref p) H))):=by
 intro pins s σ H xs us Q I r h
 obtain⟨p,ys,rfl,h⟩:=h
 obtain⟨u,rfl,rx⟩:=vals1 r
 cases rx
 rcases h with⟨hq,q⟩|⟨hq,q⟩
 .obtain⟨its,r',pl,hz⟩:=I.list hq
  have hlen:=r'.length
  refine call_tuple_list pl.isList (λh' kp=>?_) (by simp only[qK]<;>lia)
  have I1:Inv X pins σ H {s with heap:=h'}:=I.kept (t':=s.toks) kp
  have I2:Inv X pins σ (upd H h'.objs.size (.tup ys)) {s with heap:=h'.push {cls:=.type "tuple",data:=.seq its.toArray}}:=
   I1.laid (t':=s.toks) (λb o e=>pU _ e) (p9 _) (show D3 X.prog X.w _ _ _ (.tup ys)from⟨hz,its,r',ui _ _⟩)
  exact⟨.ref h'.objs.size,_,I2,rfl,q _ (I1.hok.fresh (p9 _))⟩
 .obtain⟨its,r',pl,hz⟩:=I.tuple hq
  exact call_tuple_same pl ⟨.ref p,H,I,rfl,q⟩
def tyV(K:pV)(T:tZ)(x:V)(H:Hp):Prop:=match x with
 | .str _=>T="str"
 | .int _=>T="int"
 | .ref p=>(T="list" /\∃xs,SqL K H p xs)\/(T="tuple" /\∃o,K.lookup p=Gc o/\o.cls=.type "tuple" /\o.dict=none)∨
    (T="dict" /\((∃kvs,H p=Gc (.dK kvs))\/∃kvs,H p=Gc (.dT kvs)))\/(T="set" /\∃S n,H p=Gc (.set S n))
 |_=>ur
theorem Y8{pins:List (pz×Obj)}{σ:St}{H:Hp}{s:pX}{T:tZ}{x:V}{v:pW}(I:Inv X pins σ H s)(r:RelV x v)(ty:tyV X.K T x H):s.TypeIs v T/\∀a,v=.ref a->∃ob,s.heap.get? a=Gc ob/\ob.dict=none:=by
 cases x with
 |str z=>
  obtain⟨t,rfl⟩:=r
  cases (show T="str" from ty)
  exact⟨xS s z t,λ_ e=>nomatch e⟩
 |int i=>
  obtain⟨t,rfl⟩:=r
  cases (show T="int" from ty)
  exact⟨vW s i t,λ_ e=>nomatch e⟩
 |ref p=>
  cases r
  rcases ty with⟨rfl,xs,hq⟩|⟨rfl,o,hk,hc,hd⟩|⟨rfl,hk⟩|⟨rfl,S,n,hk⟩
  .obtain⟨its,_,pl,_⟩:=I.list hq
   refine⟨pl.isList.typeIs,λa e=>?_⟩
   cases e
   obtain⟨o,n,e,c,hd,_⟩:=pl
   exact⟨o,e,hd⟩
  .refine⟨⟨o,I.kIn p o hk,hc⟩,λa e=>?_⟩
   cases e
   exact⟨o,I.kIn _ o hk,hd⟩
  .have z:∃o,s.heap.get? p=Gc o/\o.ExactDict:=by
    rcases hk with⟨kvs,hk⟩|⟨kvs,hk⟩
    .obtain⟨_,_,_,_,o,_,_,e,ex,_⟩:=I.hok p _ hk
     exact⟨o,e,ex⟩
    .obtain⟨_,_,_,_,o,_,_,e,ex,_⟩:=I.hok p _ hk
     exact⟨o,e,ex⟩
   obtain⟨o,e,ex⟩:=z
   refine⟨⟨o,e,ex.1⟩,λa e2=>?_⟩
   cases e2
   exact⟨o,e,ex.2.1⟩
  .obtain⟨o,_,_,_,e,ex,_⟩:=I.hok p _ hk
   refine⟨⟨o,e,ex.1⟩,λa e2=>?_⟩
   cases e2
   exact⟨o,e,ex.2.1⟩
 |_=>exact vC ty
noncomputable def pD(K:pV)(T:tZ)(r:V->List V->Hp->VK->Prop)(to:TE):TE:=λσ H Q=>to σ H λx H1=>tyV K T x H1/\r x [] H1 Q
noncomputable def tBM(K:pV)(T:tZ)(r:V->List V->Hp->VK->Prop)(to:TE)(t:TA):TE:=λσ H Q=>to σ H λx H1=>tyV K T x H1/\t σ H1 λxs H2=>r x xs H2 Q
variable{o e:qh}{es:List qh}{to:TE}{t:TA}{name:Str}{apos cpos:Pos}{T id:tZ}{r:V->List V->Hp->VK->Prop}
theorem dh(pa:PlainAttrs T)(slot:Slot T name id)(hty:typeOf (.builtin id)=pure (.type "method_descriptor"))(hm:MtR X id r)(ho:PE X o to)(hbase:attributeBase o name X.env (eval o X.env)=eval o X.env:=by rfl)(hline:(apos.endLine==cpos.line)=true:=by rfl):PE X (.Call (.Attribute o name apos) [] [] cpos) (pD X.K T r to):=by
 intro pins s σ H Q I h
 refine wpAny_Call_method0_late hbase hline (thn (ho pins s σ H _ I h) λv s1 ⟨x,H1,I1,r1,ty,q1⟩=>?_)
 obtain⟨h1,h2⟩:=Y8 I1 r1 ty
 exact⟨T,id,pa,slot,hty,h1,h2,wK rfl (PySem.evalArgs_none (hm pins s1 σ H1 x [] v [] Q I1 r1 .nil q1))⟩
theorem j0(pa:PlainAttrs T)(slot:Slot T name id)(hty:typeOf (.builtin id)=pure (.type "method_descriptor"))(hm:MtR X id r)(ho:PE X o to)(ha:PA X (e::es) t)(hbase:attributeBase o name X.env (eval o X.env)=eval o X.env:=by rfl)(hfew:((backTo cpos (qb (e::es) X.env)).all (λx=> !x.1) && (backToKw cpos (keywordEach [] X.env)).all (λx=>x.1.isSome) && decide ((e::es).length+([]:List xo).length+(if([]:List xo).isEmpty then 0 else 1)<30))=true:=by rfl)(hline:(apos.endLine==cpos.line)=true:=by rfl)(hs:qb (e::es) X.env=(false,eval e X.env)::qb es X.env:=by rfl)(hplain:(backTo cpos (qb es X.env)).any (·.1)=false:=by rfl):PE X (.Call (.Attribute o name apos) (e::es) [] cpos) (tBM X.K T r to t):=by
 intro pins s σ H Q I h
 refine wpAny_Call_method_late hbase hfew hline rfl (thn (ho pins s σ H _ I h) λv s1 ⟨x,H1,I1,r1,ty,q1⟩=>?_)
 obtain⟨h1,h2⟩:=Y8 I1 r1 ty
 refine⟨T,id,pa,slot,hty,h1,h2,?_⟩
 have hA:=ha cpos pins s1 σ H1 _ I1 q1
 rw[hs]at hA⊢
 refine wK (by show(false||(backTo cpos (qb es X.env)).any (·.1))=false;rw[hplain]<;>rfl) (zD ?_)
 exact thn hA λus s2 ⟨vs,H2,I2,r2,q2⟩=>hm pins s2 σ H2 x vs v us Q I2 r1 r2 q2
end
end L2
namespace L2
open PySem PySem.Spec PyProof.Rows
def MtM(X:Cx)(id:tZ)(r:V->List V->Hp->VK->Prop):Prop:=
 ∀(pins:List (pz×Obj)) (s:pX) (σ:St) (H:Hp) (x:V) (xs:List V) (v:pW) (us:List pW) (Q:VK),Inv X pins σ H s->RelV x v->Vals xs us->r x xs H Q->
  wpAny (model X.prog X.w) X.A (call (.builtin id) (v::us)) (EP X pins σ Q) X.xe s
theorem Vals.one:∀{x:V} {us:List pW},Vals [x] us->∃u,us=[u]/\RelV x u:=λh=>by
 cases h with
 |cons r t=>cases t;exact⟨_,rfl,r⟩
theorem Vals.two:∀{x y:V} {us:List pW},Vals [x,y] us->∃u v,us=[u,v]/\RelV x u/\RelV y v:=λh=>by
 cases h with
 |cons r t=>
  cases t with
  |cons q t=>cases t;exact⟨_,_,rfl,r,q⟩
theorem Vals.rep{xs:List V}{us:List pW}(h:Vals xs us):∀k:Nat,Vals (qZ k xs).flatten (qZ k us).flatten
 |0=>.nil
 |k+1=>by
  rw[tO,tO,ub,ub]
  exact Vals.append h (Vals.rep h k)
theorem foldl_rep(its:List pW):∀(k:Nat) (acc:List pW),AAA (λx1 x2=>x1++x2) acc.toArray (qZ k its.toArray)=(acc++(qZ k its).flatten).toArray
 |0,acc=>by simp
 |k+1,acc=>by
  have e:acc.toArray++its.toArray=(acc++its).toArray:=by simp
  have e2:(acc++its)++(qZ k its).flatten=acc++(qZ (k+1) its).flatten:=by
   rw[tO,ub,rz]
  rw[<-e2,<-foldl_rep its k (acc++its),<-e,tO,yn]
section
variable{X:Cx}{pins:List (pz×Obj)}{σ:St}{H:Hp}{s:pX}{l b:pz}{xs ys zs:List V}
theorem Inv.ke{its its':List pW}{n:Nat}{f:qd pW->qd pW}{t':Nat}(I:Inv X pins σ H s)(hH:H l=Gc (.lst xs))(e:s.heap.get? l=Gc {cls:=.type "list",data:=.seq its.toArray n})(hf:f its.toArray=its'.toArray)(hv:Vals ys its')(hz:ys.length<=sizeLine):Inv X pins σ (upd H l (.lst ys)) {s with heap:=s.heap.update l (rA f),toks:=t'}:=by
 have q:=PySem.IsL.update e f
 rw[hf]at q
 refine I.write (x:=l) (e:=l) (by rw[hH];exact trivial) (.inl rfl) (λb' u hb hu=>(sH s.heap (rA f) (rm hb)).trans hu) ⟨_,q⟩ ?_
 exact⟨hz,its',_,hv,q⟩
theorem Inv.mh{its:List pW}{t':Nat}(I:Inv X pins σ H s)(hv:Vals ys its)(hz:ys.length<=sizeLine):Inv X pins σ (upd H s.heap.objs.size (.lst ys)) {s with heap:=s.heap.push {cls:=.type "list",data:=.seq its.toArray},toks:=t'}:=
 I.laid (λ_ _ q=>pU _ q) (p9 _) ⟨hz,its,0,hv,qG _ rfl⟩
theorem Inv.fresh(I:Inv X pins σ H s):H s.heap.objs.size=none:=I.hok.fresh (p9 _)
theorem Inv.Yt(I:Inv X pins σ H s)(hH:H l=Gc (.lst xs)):xs.length<=sizeLine/\∃(its:List pW) (n:Nat),Vals xs its/\xs.length=its.length/\s.heap.get? l=Gc {cls:=.type "list",data:=.seq its.toArray n}:=by
 obtain⟨z,its,n,r,e⟩:=I.hok l _ hH
 exact⟨z,its,n,r,r.length,e⟩
theorem OA{n:Nat}(h:n<=sizeLine):sW n=false:=by
 unfold sW
 exact tP (by lia)
end
section
variable{X:Cx}
def bQ:V->List V->Hp->VK->Prop:=λx vs H Q=>∃l xs y,x=.ref l/\vs=[y]/\H l=Gc (.lst xs)/\xs.length<sizeLine/\Q .non (upd H l (.lst (xs++[y])))
theorem Ol:MtM X "list.append" bQ:=by
 intro pins s σ H x vs v us Q I rx rv h
 obtain⟨l,xs,y,rfl,rfl,hH,hz,q⟩:=h
 cases rx
 obtain⟨u,rfl,ru⟩:=rv.one
 obtain⟨z,its,n,r,hl,e⟩:=I.Yt hH
 refine uO qo ⟨_,e,rfl⟩ F.entry_list_append (F.args_list_append_2 _ _) (PySem.list_append l its.toArray n u (by rw[qK];lia)) ⟨e,?_⟩
 refine⟨.non,_,I.ke (its':=its++[u]) hH e (by simp) (r.append (.cons ru .nil)) ?_,rfl,q⟩
 rw[qw,yw]
 lia
def Z6:V->List V->Hp->VK->Prop:=λx vs H Q=>∃l b xs zs,x=.ref l/\vs=[.ref b]/\H l=Gc (.lst xs)/\H b=Gc (.lst zs)/\xs.length+zs.length<=sizeLine/\Q .non (upd H l (.lst (xs++zs)))
theorem Ta:MtM X "list.extend" Z6:=by
 intro pins s σ H x vs v us Q I rx rv h
 obtain⟨l,b,xs,zs,rfl,rfl,hH,hB,hz,q⟩:=h
 cases rx
 obtain⟨u,rfl,ru⟩:=rv.one
 cases ru
 obtain⟨z,its,n,r,hl,e⟩:=I.Yt hH
 obtain⟨z2,its2,n2,r2,hl2,e2⟩:=I.Yt hB
 have hsz:its.toArray.size+its2.toArray.size<=sizeLine:=by rw[qK,qK];lia
 have hlong:¬(!its.toArray.isEmpty && sW (its.toArray.size+its2.toArray.size))=true:=by
  rw[OA hsz,zE]
  exact rH
 refine uO wm ⟨_,e,rfl⟩ zf (zG _ _)
  (AutoSeq1.list_extend_list_list_0 l its.toArray n b its2.toArray n2 hlong (by rw[qK];lia) (by lia)) ⟨e,e2,?_⟩
 refine⟨.non,_,I.ke (its':=its++its2) hH e (by simp) (r.append r2) ?_,rfl,q⟩
 rw[qw]
 lia
noncomputable def oU:R2:=λx y H Q=>∃l b xs zs,x=.ref l/\y=.ref b/\H l=Gc (.lst xs)/\H b=Gc (.lst zs)/\xs.length+zs.length<=sizeLine/\∀p,H p=none->Q (.ref p) (upd H p (.lst (xs++zs)))
theorem eX:OpR X (binaryOp .Add) oU:=by
 intro pins s σ H x y v u Q I rx ry h
 obtain⟨l,b,xs,zs,rfl,rfl,hH,hB,hz,q⟩:=h
 cases rx
 cases ry
 obtain⟨z,its,n,r,hl,e⟩:=I.Yt hH
 obtain⟨z2,its2,n2,r2,hl2,e2⟩:=I.Yt hB
 refine PySem.P.add_list e e2 ?_ (by rw[qK,qK];lia)
 have ea:its.toArray++its2.toArray=(its++its2).toArray:=by simp
 rw[ea]
 exact⟨.ref _,_,I.mh (t':=s.toks) (r.append r2) (by rw[qw];lia),rfl,q _ I.fresh⟩
noncomputable def oY:R2:=λx y H Q=>∃l k xs,x=.ref l/\y=.int k/\H l=Gc (.lst xs)/\ -(2^63)<=k/\k<2^63/\xs.length*k.toNat<=sizeLine/\
 ∀p,H p=none->Q (.ref p) (upd H p (.lst (qZ k.toNat xs).flatten))
theorem len_rep{α:Type}(xs:List α)(k:Nat):(qZ k xs).flatten.length=k*xs.length:=by
 induction k with
 |zero=>simp
 |succ k ih=>rw[tO,ub,qw,ih,Nat.succ_mul,Nat.add_comm]
theorem d6:OpR X (binaryOp .Mult) oY:=by
 intro pins s σ H x y v u Q I rx ry h
 obtain⟨l,k,xs,rfl,rfl,hH,h1,h2,hz,q⟩:=h
 cases rx
 obtain⟨t,rfl⟩:=ry
 obtain⟨z,its,n,r,hl,e⟩:=I.Yt hH
 have hlen:its.toArray.size*k.toNat<=sizeLine:=by rw[qK,<-hl];exact hz
 have hcap:¬its.toArray.size*k.toNat>(2^63-1) / 8:=by
  have:(sizeLine:Nat)<=(2^63-1) / 8:=by decide
  lia
 have hfit:¬(!Builtin.List.listFitsIndex k)=true:=by
  rw[fitsIndex_both h1 h2]
  exact rH
 have hlong:¬sW (its.toArray.size*k.toNat)=true:=by
  rw[OA hlen]
  exact rH
 have hnew:AAA (λx1 x2=>x1++x2) #[] (qZ (if its.toArray.isEmpty=true then 0 else k.toNat) its.toArray)=(qZ k.toNat its).flatten.toArray:=by
  have f0:∀m:Nat,AAA (λx1 x2=>x1++x2) #[] (qZ m its.toArray)=(qZ m its).flatten.toArray:=λm=>by
   have:=foldl_rep its m []
   rw[qU]at this
   exact this
  rw[f0]
  cases its with
  |nil=>simp
  |cons a r'=>rw[qj (by simp)]
 refine ve (T:="list") (U:="int") (by decide) ⟨_,e,rfl⟩ (λs'=>vW s' k t) noFill_list_mul yo vL repeat_list yO.lookup
  (uO vL (vW s k t) yP (xr _ _) (int___rmul___int_list k t l its.toArray n)
    ⟨e,rfl,⟨_,e,rfl⟩,uO F.slot_list_mul ⟨_,e,rfl⟩ F.entry_list_mul (F.args_list_mul_2 _ _) (AutoListH.list___mul___list_int_3 l its.toArray n k t hfit hcap hlong) ⟨e,?_⟩⟩)
 rw[hnew]
 exact⟨.ref _,_,I.mh (t':=s.toks) (r.rep k.toNat) (by rw[len_rep,vG];exact hz),rfl,q _ I.fresh⟩
end
section
variable{prog:qa}{w:qq}{A:qx}{E:pW->pX->Prop}{s:pX}
end
section
variable{X:Cx}
end
end L2
namespace Att
open PySem PySem.W PySem.Calls PyProof.Rows
theorem ints_of_wellAll{P:Params}{h:qu}:∀(ns:List Int) (vs:List pW),WellAll P h vs (ns.map WData.int)->tW vs ns:=by
 intro ns
 induction ns with
 |nil=>
  intro vs w
  rw[sG]at w
  cases w
  exact .nil
 |cons n ns ih=>
  intro vs w
  rw[qS]at w
  cases w with
  |cons a b=>
   cases a
   exact .cons _ _ (ih _ b)
theorem script_of{l:wo}{n:Nat}(hn:l.most=Gc n){P:Params}{h:qu}{args:List WData}{vals:List pW}(hpre:l.row.toRowW.claim.pre args=true)(hwl:WellAll P h vals args):∃a vs ns,vals=[qz a]/\args=[WData.list (ns.map WData.int)]/\h.get? a=Gc {cls:=.type "list",data:=.seq vs.toArray}/\tW vs ns/\ns.length<=n:=by
 have hsh:WShape.hasAll [] args [.list .int]=true:=(pre_splitW hpre).1
 have hc:l.pre.holds [] {args:=args}=true:=(pre_splitW hpre).2
 obtain⟨d,r,rfl,h1,h2⟩:=hasAllW_cons hsh
 obtain rfl:=hasAllW_nil h2
 obtain⟨xs,rfl,h3⟩:=hasW_list h1
 obtain⟨ns,rfl⟩:=items_int h3
 have hlen:ns.length<=n:=by
  unfold OpenLaw.pre at hc
  have h4:(WTm.not (.lt (.lit (.int (n:Int))) (.len (.arg 0)))).holds [] {args:=[.list (ns.map .int)]}=true:=by
   have h4:=(holds_andW hc).1
   rw[hn]at h4
   exact h4
  have h5:=condW_of h4 (w_not (w_lt w_lit (w_len_list (w_arg rfl))))
  rw[qP]at h5
  refine Nat.le_of_not_lt λq=>?_
  have q':(n:Int)<((ns.length:Nat):Int):=by lia
  first
   |(rw[sX q']at h5;exact absurd h5 (by decide))
   |(simp at h5;lia)
 cases hwl with
 |cons w1 w2=>
  cases w2
  cases w1 with
  |list ho hall=>exact⟨_,_,ns,rfl,rfl,ho,ints_of_wellAll ns _ hall,hlen⟩
theorem post_true(l:wo)(args:List WData):l.row.toRowW.claim.post args (.bool true) args=true:=
 postW_of (r:=l.row.toRowW) (X:=(true==true))
  (show WShape.has [] (.bool true) .bool=true by first|rfl|decide|simp[WShape.has,WShape.arms,WShape.armsAll])
  (show(WTm.eq .res (.lit (.bool true))).value [] {args:=args,res:=Gc (.bool true),after:=args}=Gc (.bool (true==true))from w_eq_bool (w_res rfl) w_lit) rfl
theorem attach_call{l:wo}{n:Nat}{q:qa}{loose:List Str}{XP:(Str->pY pW)->qu->Prop}{YP:qq->qu->Prop}{d:DefRec}(hn:l.most=Gc n)(hdf:d.params.defaults=[])(call:∀(w:qq) (s₀ s₁:pX) (mg mb:Str->pY pW) (fa:pz) (o:Obj) (pm cd doc:pW) (a:pz) (vs:List pW) (ns:List Int),Ground q loose [] XP w s₀ mg mb s₁.heap->YP w s₁.heap->s₁.heap.get? fa=Gc o->o.data=.func (docDef d.name d.params d.body d.scope pm cd doc)->s₁.heap.CodeRec cd d.name->mg d.name=Gc (.ref fa)->s₁.heap.get? a=Gc {cls:=.type "list",data:=.seq vs.toArray}->tW vs ns->ns.length<=n->s₁.gens= #[]->codeAny (model l.prog w) callerA (.call (.ref fa) ⟨[.ref a],[]⟩) (λr s'=>r=.ok (.ret (.bool true))/\OldK s₁.heap s'.heap/\s'.os=s₁.os/\xn s'.gens) s₁):WalkO q loose XP YP l.row.toRowW d [] (λf vs=>PySem.call f vs):=by
 intro w s₀ s₁ mg mb G Y fa o pm cd doc dV kV ho hd hcd hD hmg hg args vals as hpre hlay hrd hwl hlo
 obtain rfl:dV=.none:=Dflts.none hD hdf
 obtain rfl:kV=.none:=Dflts.noKw hD
 obtain⟨a,vs,ns,rfl,rfl,hobj,hints,hlen⟩:=script_of hn hpre hwl
 refine enter_call (wG (call w s₀ s₁ mg mb fa o pm cd doc a vs ns G Y ho (fd_plain hd) hcd hmg hobj hints hlen hg) λr s' hq=>?_)
 obtain⟨rfl,h2,h3,h4⟩:=hq
 exact⟨.inl ⟨.bool true,.bool true,[],rfl,λ_=>rfl,.bool true,post_true l _,λ_=>⟨xt,λ_ hm=>(nomatch hm)⟩⟩,h2,h3,h4⟩
section
variable{prog:qa}{w:qq}{A:qx}{E:pW->pX->Prop}{s:pX}{K:pV}
end
end Att
namespace L2
open PySem PySem.Spec PyProof.Rows
theorem Pd:∀{vs:List pW} {ns:List Int},tW vs ns->Vals (ns.map V.int) vs
 |_,_,.nil=>.nil
 |_,_,.cons n t h=>.cons ⟨t,rfl⟩ (Pd h)
def ju(H:Hp):Prop:=∀b,H b=none\/∃o xs,H b=Gc (.frz o (.lst xs))
theorem WJ{P:qa}{w:qq}{K:pV}{mg mb:Str->pY pW}{CX:CXT}{k:Nat}{fa a:pz}{fd:tU}{x:Str}{sp:Sp}{s₁:pX}{vs:List pW}{ns:List Int}(KX:K.In s₁.heap)(hns:s₁.heap.Ns mainGlobals mg)(hb:s₁.heap.Ns builtinsNs mb)(hbb:∀x:Str,x≠ "__name__"->mb x=bootBuiltins x)(hlim:s₁.heap.NoLimit)(hg:s₁.gens= #[])(ha:s₁.heap.get? a=Gc {cls:=.type "list",data:=.seq vs.toArray})(hi:tW vs ns)(hl:ns.length<=sizeLine)(hr:MM k callerA)(F:∀base:qu,K.In base->base.Ns mainGlobals mg->PU P w K mg base CX k fa fd [x] sp)(hbind:∀(s:pX) (u:pW),BindsTo s fd ⟨[u],[]⟩ [(x,u)])(hsp:∀H:Hp,ju H->SqL K H a (ns.map V.int)->sp [.ref a] H (λv _=>v=.bl true) λ_ _ _=>ur)(hCX:∀H e s',CX [] H s₁ (λ_ _ _=>ur) e s'->ur):codeAny (model P w) callerA (.call (.ref fa) ⟨[.ref a],[]⟩) (λr s'=>r=.ok (.ret (.bool true))/\OldK s₁.heap s'.heap/\s'.os=s₁.os/\xn s'.gens) s₁:=by
 have rv:=Pd hi
 have lenV:=hi.length
 have core:∀H:Hp,ju H->SqL K H a (ns.map V.int)->HOk P w H s₁.heap->(∀b,H b≠none->b=a)->(H a≠none->K.lookup a=none)->
   codeAny (model P w) callerA (.call (.ref fa) ⟨[.ref a],[]⟩) (λr s'=>r=.ok (.ret (.bool true))/\OldK s₁.heap s'.heap/\s'.os=s₁.os/\xn s'.gens) s₁:=by
  intro H hO hS hok hA hK
  have base_of:∀{b:pz} {o:Obj},s₁.heap.get? b=Gc o->H b=none->(WO s₁.heap H).get? b=Gc o:=λe n=>XX e n
  have noA:∀{b:pz} {o:Obj} {es:qd DictEntry} {ep:Nat},s₁.heap.get? b=Gc o->o.data=.dict es ep->H b=none:=λ{b o es ep} e d=>by
   cases q:H b with
   |none=>rfl
   |some u=>
    have e':b=a:=hA b (by rw[q];simp)
    subst e'
    rw[ha]at e;cases e
    have d':Data.seq vs.toArray _=Data.dict es ep:=d
    cases d'
  have nsK:∀{b:pz} {m:Str->pY pW},s₁.heap.Ns b m->(WO s₁.heap H).Ns b m:=λ{b m} ⟨o,es,ep,e,d,r⟩=>⟨o,es,ep,base_of e (noA e d),d,r⟩
  have hKb:K.In (WO s₁.heap H):=λb o e=>base_of (KX b o e) (by
   cases q:H b with
   |none=>rfl
   |some u=>
    have e':b=a:=hA b (by rw[q];simp)
    subst e'
    rw[hK (by rw[q];simp)]at e;cases e)
  have hM:Mod K mg (WO s₁.heap H):=⟨hKb,nsK hns,⟨mb,nsK hb,hbb⟩,let⟨mc,h1,h2⟩:=hlim;⟨mc,nsK h1,h2⟩⟩
  have e0:jN P w K mg (WO s₁.heap H) callerA [] s₁ H:=⟨rfl,hM,λb o e=>bX e,Nat.le_of_eq (VI _ _),trivial,λb hb=>absurd (show b∈([]:List pz)from hb) (by simp),hok,.of_eq hg⟩
  refine wG ((F _ hKb (nsK hns)).run callerA [] s₁ H ⟨[.ref a],[]⟩ [.ref a] [.ref a] _ _ hr e0 (hbind s₁ (.ref a)) (.cons rfl .nil) (hsp H hO hS)) λr s' h=>?_
  cases r with
  |error e=>exact(hCX H e s' h).elim
  |ok fl=>
   cases fl with
   |next=>exact vC h
   |brk=>exact vC h
   |cont=>exact vC h
   |ret u=>
    obtain⟨v,H',os,bare,un,hok',r',q⟩:=h
    have q':v=.bl true:=q
    subst q'
    obtain rfl:u=xM true:=r'
    refine⟨rfl,OldK.of_keep λb o e=>?_,os,bare⟩
    cases q:H b with
    |none=>exact un.keep b o e q (by intro z;exact absurd (show b∈([]:List pz)from z) (by simp)) (by simp)
    |some u=>
     rcases hO b with z|⟨ob,xs,z⟩
     .rw[q]at z;cases z
     .have z2:=un.Wu b ob _ z
      obtain⟨e1,_⟩:=hok b _ z
      obtain⟨e2,_⟩:=hok' b _ z2
      rw[e]at e1;cases e1
      exact e2
 cases hk:K.lookup a with
 |some o=>
  have e:=KX a o hk
  rw[ha]at e
  cases e
  refine core (λ_=>none) (λ_=>.inl rfl) (.inr ⟨_,vs.toArray,_,hk,rfl,rfl,rfl,by rw[qK,lenV];exact hl,by simpa using rv⟩) (λb u z=>by have z':(none:pY HO)=Gc u:=z;cases z') (λb z=>absurd rfl z) λz=>absurd rfl z
 |none=>
  refine core (λb=>if b=a then Gc (.frz {cls:=.type "list",data:=.seq vs.toArray} (.lst (ns.map V.int)))else none) (λb=>?_) (.inl (.inr ⟨{cls:=.type "list",data:=.seq vs.toArray},qc rfl⟩)) (λb u z=>?_) (λb z=>?_) λ_=>hk
  .by_cases hb:b=a
   .exact .inr ⟨_,_,qc hb⟩
   .exact .inl (qj hb)
  .by_cases hb:b=a
   .have z':=(qc hb).symm.trans z
    cases z'
    subst hb
    exact⟨ha,by rw[qP];exact hl,vs,_,rv,ha⟩
   .have z':=(qj hb).symm.trans z
    cases z'
  .by_cases hb:b=a
   .exact hb
   .exact absurd (qj hb) z
end L2
namespace L2
open PySem PySem.Spec PyProof.Rows
theorem bf{l:wo}{n k:Nat}{q:qa}{loose:List Str}{XP:(Str->pY pW)->qu->Prop}{YP:qq->qu->Prop}{d:DefRec}{K:Params->pV}{CX:qq->CXT}{sp:qq->Sp}{x:Str}(hn:l.most=Gc n)(hn2:n<=sizeLine)(hdf:d.params.defaults=[])(hr:MM k callerA)(hY:∀(w:qq) (h:qu),YP w h->(K w.params).In h)(F:∀(w:qq) (mg:Str->pY pW) (fa:pz) (h:qu),(K w.params).In h->h.Ns mainGlobals mg->mg d.name=Gc (.ref fa)->∃fd:tU,(∀(s:pX) (u:pW),BindsTo s fd ⟨[u],[]⟩ [(x,u)])/\∀base:qu,(K w.params).In base->base.Ns mainGlobals mg->PU l.prog w (K w.params) mg base (CX w) k fa fd [x] (sp w))(hsp:∀(w:qq) (H:Hp) (a:pz) (ns:List Int),ns.length<=n->ju H->SqL (K w.params) H a (ns.map V.int)->sp w [.ref a] H (λv _=>v=.bl true) λ_ _ _=>ur)(hCX:∀(w:qq) (H:Hp) (s:pX) (e:pW) (s':pX),CX w [] H s (λ_ _ _=>ur) e s'->ur):PySem.W.WalkO q loose XP YP l.row.toRowW d [] (λf vs=>PySem.call f vs):=by
 refine Att.attach_call hn hdf λw s₀ s₁ mg mb fa o pm cd doc a vs ns G Y ho hd hcd hmg hobj hints hlen hg=>?_
 have KX:=hY w _ Y
 obtain⟨fd,hb,hF⟩:=F w mg fa _ KX G.T.g hmg
 exact WJ KX G.T.g G.T.b G.T.builtins G.T.nolimit hg hobj hints (qD hlen hn2) hr hF hb (λH hO hS=>hsp w H a ns hlen hO hS) λH e s'=>hCX w H s₁ e s'
end L2
namespace L2
open PySem PySem.Spec PyProof.Rows
noncomputable def Jz(s:rO):Arguments:=match s with
 | .FunctionDef _ a _ _ _ _ _ _ _ _=>a
 |_=>{posonlyargs:=[],args:=[],vararg:=none,kwonlyargs:=[],kw_defaults:=[],kwarg:=none,defaults:=[]}
noncomputable def Em(s:rO):List rO:=match s with
 | .FunctionDef _ _ b _ _ _ _ _ _ _=>b
 |_=>[]
noncomputable def AK(s:rO):tT:=match s with
 | .FunctionDef _ _ _ _ _ _ sc _ _ _=>sc
 |_=>{kind:=.function,names:=[],isGenerator:=false,isCoroutine:=false}
abbrev CX0:CXT:=λ_ _ _ _ _ _=>ur
abbrev E0:XK:=λ_ _ _=>ur
theorem lG{X:Cx}:Passes CX0 X E0:=λ_ _ _ _ _ _ _ h=>h.elim
structure Fun(K:pV)(x qual:Str)(st:rO)(f:pz)(fd:tU):Prop where
 ex:∃(oc:pW) (od:pY pz) (kV doc pm:pW) (an:pY pz) (cdv ct:pW) (osl:qd (pY pW)),
  fd=vE x qual (Jz st) (Em st) (AK st) .none kV doc pm an cdv ct/\K.lookup f=Gc ⟨oc,od,.func fd,osl⟩/\xP K cdv qual=true
 kp:uJ K (.ref f)=true
section
variable{P:qa}{w:qq}{K:pV}{mg:Str->pY pW}{base:qu}
theorem Fun.ok{x qual:Str}{st:rO}{f:pz}{fd:tU}{N ps:List Str}{k:Nat}{sp:Sp}(F:Fun K x qual st f fd)(S:AX N ps (AK st))(len:∀vs H Q E,sp vs H Q E->vs.length=ps.length)(hbody:∀(cdv:pW) (A:qx) (outer:List Env) (s:pX) (H:Hp) (vs:List V) (Q:VK) (E:XK),MM k (A.deeper (envOfC qual (AK st) s.heap.objs.size f cdv))->sp vs H Q E->∃t,PSs (Xb CX0 P w K mg base N qual (AK st) f cdv A outer s H E).nox (Em st) t/\t {nx:=λ_ H'=>Q .non H',rt:=Q} (start N vs) H):PU P w K mg base CX0 (k+1) f fd ps sp:=by
 obtain⟨oc,od,kV,doc,pm,an,cdv,ct,osl,rfl,lk,hcd⟩:=F.ex
 refine lE lk hcd S len λA outer s H vs Q E hr hsp=>?_
 obtain⟨t,h,q⟩:=hbody cdv A outer s H vs Q E hr hsp
 exact⟨t,h.nox,q⟩
theorem Fun.binds{x qual:Str}{st:rO}{f:pz}{fd:tU}{ps:List Str}(F:Fun K x qual st f fd)(h:∀(kV doc pm:pW) (an:pY pz) (cdv ct:pW) (us:List pW),us.length=ps.length->bindArgs (vE x qual (Jz st) (Em st) (AK st) .none kV doc pm an cdv ct) ⟨us,[]⟩=pure (ps.zip us)):Binds K fd ps []:=by
 obtain⟨oc,od,kV,doc,pm,an,cdv,ct,osl,rfl,lk,hcd⟩:=F.ex
 exact .all (h kV doc pm an cdv ct)
theorem eJ{x qual:Str}{st:rO}{f:pz}{oc:pW}{od an:pY pz}{osl:qd (pY pW)}{kV doc pm cdv ct:pW}(l:K.lookup f=Gc ⟨oc,od,.func (vE x qual (Jz st) (Em st) (AK st) .none kV doc pm an cdv ct),osl⟩)(c:xP K cdv qual=true)(k:uJ K (.ref f)=true):Fun K x qual st f (vE x qual (Jz st) (Em st) (AK st) .none kV doc pm an cdv ct):=⟨⟨oc,od,kV,doc,pm,an,cdv,ct,osl,rfl,l,c⟩,k⟩
end
section
variable{X:Cx}
theorem pv(i:Nat){x:Str}{pos:Pos}(hN:X.N[i]?=Gc x:=by rfl)(hv:Vis X.env.scope x:=by first|exact Or.inl rfl|exact Or.inr (Or.inl rfl)|exact Or.inr (Or.inr rfl))(hd:(x==("__debug__":Str))=false:=by decide)(hcd:(x==("__classdict__":Str))=false:=by decide):PE X (.Name x pos) (mH i):=ZZ hN hv hd hcd
end
theorem Zk{A B:Prop}(h:B):if false=true then A else B:=by
 rw[qj rH]
 exact h
theorem Yp{A B:Prop}(h:A):if true=true then A else B:=by
 rw[qc rfl]
 exact h
def Ca(H H':Hp):Prop:=∀b o,H b=Gc o->H' b=Gc o
end L2
end
noncomputable section
namespace L2
open PySem PySem.Spec PyProof.Rows
noncomputable def GC(cells:List (Str×pz)):List (Str×uw)->List (Str×pz)->List (Str×pz)
 | [],cs=>cs
 |(n,k)::r,cs=>if(k==sA)=true then GC cells r ((n,(cells.lookup n).getD 0)::cs)else GC cells r cs
theorem Pp{env:Env}:∀(names:List (Str×uw)) (cs:List (Str×pz)),(∀y∈names,y.2=.free->∃a,env.cells.lookup y.1=Gc a)->(forIn names cs λ(x:Str×uw) r=>match x with|(name,kind)=>if(kind==sA)=true then(do let a<-cellOf env name;pure (wy ((name,a)::r)))else pure (wy r):Sem (List (Str×pz)))=pure (GC env.cells names cs)
 | [],cs,_=>by simp[GC]
 |(n,k)::r,cs,h=>by
  rw[yp]
  have ih:=λcs=>Pp r cs λy hy=>h y (qC _ hy)
  by_cases hk:(k==sA)=true
  .obtain⟨a,ha⟩:=h (n,k) qH (by simpa using hk)
   have ha':env.cells.lookup n=Gc a:=ha
   have e:cellOf env n=pure a:=by unfold cellOf;rw[ha']
   simp only[hk,wJ,e,pure_bind,GC,ha',Option.getD_some]
   exact ih _
  .simp only[hk,ux,pure_bind,GC]
   exact ih _
theorem N2{scope:tT}{env:Env}(h:∀y∈scope.names,y.2=.free->∃a,env.cells.lookup y.1=Gc a):closureFor scope env=pure (GC env.cells scope.names []):=by
 unfold closureFor
 have:=Pp (env:=env) scope.names [] h
 simp only[bind_pure]at this⊢
 exact this
theorem LY{cells:List (Str×pz)}{x:Str}{c:pz}:∀{names:List (Str×uw)} {cs:List (Str×pz)},(∀y∈names,y.2=.free->∃a,cells.lookup y.1=Gc a)->(GC cells names cs).lookup x=Gc c->cs.lookup x=Gc c\/cells.lookup x=Gc c
 | [],cs,_,h=>.inl h
 |(n,k)::r,cs,hh,h=>by
  have hr:∀y∈r,y.2=.free->∃a,cells.lookup y.1=Gc a:=λy hy=>hh y (qC _ hy)
  unfold GC at h
  by_cases hk:(k==sA)=true
  .rw[qc hk]at h
   rcases LY hr h with q|q
   .obtain⟨a,ha⟩:=hh (n,k) qH (by simpa using hk)
    have ha':cells.lookup n=Gc a:=ha
    rw[sr]at q
    cases hx:x==n with
    |true=>
     rw[hx,ha']at q
     have e:x=n:=by simpa using hx
     subst e
     cases q
     exact .inr ha'
    |false=>
     rw[hx]at q
     exact .inl q
   .exact .inr q
  .rw[qj hk]at h
   exact LY hr h
theorem JV{cells:List (Str×pz)}{x:Str}:∀{names:List (Str×uw)} {cs:List (Str×pz)},((x,sA)∈names\/∃c,cs.lookup x=Gc c)->∃c,(GC cells names cs).lookup x=Gc c
 | [],cs,h=>h.elim (λz=>nomatch z) id
 |(n,k)::r,cs,h=>by
  unfold GC
  by_cases hk:(k==sA)=true
  .rw[qc hk]
   refine JV ?_
   by_cases hx:x=n
   .subst hx
    exact .inr ⟨_,by rw[sr,beq_self_eq_true]⟩
   .rcases h with h|⟨c,h⟩
    .rcases qA.mp h with e|e
     .cases e;exact absurd rfl hx
     .exact .inl e
    .refine .inr ⟨c,?_⟩
     rw[sr,show(x==n)=false by simpa using hx]
     exact h
  .rw[qj hk]
   refine JV ?_
   rcases h with h|h
   .rcases qA.mp h with e|e
    .cases e;exact absurd rfl hk
    .exact .inl e
   .exact .inr h
theorem J7{env:Env}{x:Str}:∀{names:List (Str×uw)},names.lookup x=Gc .free->(names.map λ(n,k)=>if(k==sA && env.scope.kind== .function && env.kindOf n==Gc .cell)then(n,vO)else(n,k)).lookup x=Gc .cell\/(names.map λ(n,k)=>if(k==sA && env.scope.kind== .function && env.kindOf n==Gc .cell)then(n,vO)else(n,k)).lookup x=Gc .free
 | [],h=>by simp at h
 |(n,k)::r,h=>by
  have ih:= @J7 env x r
  show List.lookup x ((if(k==sA && env.scope.kind== .function && env.kindOf n==Gc .cell)=true then(n,vO)else(n,k))::_)=_\/List.lookup x ((if(k==sA && env.scope.kind== .function && env.kindOf n==Gc .cell)=true then(n,vO)else(n,k))::_)=_
  cases hx:x==n with
  |true=>
   simp only[sr,hx]at h
   cases h
   by_cases hc:(sA==sA && env.scope.kind== .function && env.kindOf n==Gc .cell)=true
   .rw[qc hc];simp only[sr,hx];exact .inl trivial
   .rw[qj hc];simp only[sr,hx];exact .inr trivial
  |false=>
   simp only[sr,hx]at h
   by_cases hc:(k==sA && env.scope.kind== .function && env.kindOf n==Gc .cell)=true
   .rw[qc hc];simp only[sr,hx];exact ih h
   .rw[qj hc];simp only[sr,hx];exact ih h
theorem Lc{env:Env}{scope:tT}{x:Str}{k':uw}(hk:k'=.cell\/k'=.free)(h:(relabel scope env).names.lookup x=Gc k'):(x,sA)∈scope.names\/(x,vO)∈scope.names:=by
 have hm:=rZ h
 obtain⟨⟨n,k⟩,hy,e⟩:=qi.mp (show(x,k')∈scope.names.map _ from hm)
 by_cases hc:(k==sA && env.scope.kind== .function && env.kindOf n==Gc .cell)=true
 .simp only[hc,wJ]at e
  cases e
  have:k=.free:=by
   have:=((qO _ _).mp hc).1
   exact AAB.mp ((qO _ _).mp this).1
  subst this
  exact .inl hy
 .simp only[hc,ux]at e
  cases e
  rcases hk with rfl|rfl
  .exact .inr hy
  .exact .inl hy
theorem B6:∀(names:List (Str×uw)) (n:Nat) (cs:List (Str×pz)),cellsFrom n names cs=cellsFrom n names []++cs
 | [],_,_=>rfl
 |(x,k)::r,n,cs=>by
  unfold cellsFrom
  split
  .rw[B6 r _ ((x,n)::cs),B6 r _ [(x,n)]];simp
  .exact B6 r n cs
theorem G9{x:Str}{c:pz}:∀{names:List (Str×uw)} {n:Nat},(x,c)∈cellsFrom n names []->(x,vO)∈names
 | [],_,h=>nomatch h
 |(y,k)::r,n,h=>by
  unfold cellsFrom at h
  split at h
  .rename_i hk
   rw[B6]at h
   rcases qW.mp h with z|z
   .exact qC _ (G9 z)
   .have e:=qV.mp z
    cases e
    rw[AAB.mp hk]
    exact qH
  .exact qC _ (G9 h)
theorem GI{M:Model}{A:qx}{E:pW->pX->Prop}{s:pX}{scope:tT}{globals:pz}{cl:List (Str×pz)}{qual:Str}{env:Env}{Q:Env->pX->Prop}(hQ:∀h':qu,h'.Ns s.heap.objs.size (λ_=>none)->(∀b o,s.heap.get? b=Gc o->h'.get? b=Gc o)->CellsOk h' (s.heap.objs.size+1) (cellsFrom (s.heap.objs.size+1) scope.names [])->Q (newEnv scope s.heap.objs.size globals (cellsFrom (s.heap.objs.size+1) scope.names cl) qual none .none (Gc env) builtinsNs) {s with heap:=h'}):wpAny M A (newFunctionEnv scope globals cl [] qual none .none (Gc env)) Q E s:=by
 simp only[newFunctionEnv,AAC,wJ]
 refine Wp (wpAny_alloc ?_)
 refine Wp (wpAny_layCells _ (λname kind cells=>by cases hkc:kind==vO<;>simp[hkc]) _ _ _ _ ?_)
 have ok:=cellsFrom_ok scope.names (s.heap.push {cls:=.type "dict",data:=.dict #[]}) (s.heap.objs.size+1) [] ⟨λ_ _ hm=>(nomatch hm),xt⟩ (by rw[ql];exact p9 _)
 rw[ql]at ok
 rw[show({s with heap:=s.heap.push {cls:=.type "dict",data:=.dict #[]}}:pX).heap.objs.size=s.heap.objs.size+1 from ql ..]
 rw[zH]
 refine Wp (pZ (pZ ?_))
 exact hQ _ ((Heap.Ns.new s.heap (.type "dict")).keeps (pushCells_keeps _ _)) (λb o e=>pushCells_keeps _ _ b o (pU _ e)) ok
end L2
end
noncomputable section
namespace L2
open PySem PySem.Spec PyProof.Rows
noncomputable def RP(N:List Str)(osc scope:tT):List Str->List (pY Nat)->qk
 | [],[]=>true
 |_::r,none::q=>RP N osc scope r q
 |x::r,Gc i::q=>decide (N[i]?=Gc x) && (decide (osc.names.lookup x=Gc .cell)||decide (osc.names.lookup x=Gc .free)) && decide (scope.names.lookup x=Gc .free) && RP N osc scope r q
 |_,_=>false
theorem Vj{N:List Str}{osc scope:tT}:∀{N':List Str} {ix:List (pY Nat)},RP N osc scope N' ix=true->ix.length=N'.length
 | [],[],_=>rfl
 |_::r,none::q,h=>by
  unfold RP at h
  simp[Vj h]
 |x::r,Gc i::q,h=>by
  unfold RP at h
  have:=((qO _ _).mp h).2
  simp[Vj this]
 | [],_::_,h=>by simp[RP]at h
 |_::_,[],h=>by simp[RP]at h
theorem cH{N:List Str}{osc scope:tT}:∀{N':List Str} {ix:List (pY Nat)},RP N osc scope N' ix=true->∀{j i:Nat} {x:Str},N'[j]?=Gc x->ix[j]?=Gc (Gc i)->N[i]?=Gc x/\(osc.names.lookup x=Gc .cell\/osc.names.lookup x=Gc .free)/\scope.names.lookup x=Gc .free
 | [],[],_,j,_,_,h,_=>by simp at h
 |_::r,none::q,h,j,i,x,h1,h2=>by
  unfold RP at h
  cases j with
  |zero=>simp at h2
  |succ j=>exact cH h (by simpa using h1) (by simpa using h2)
 |y::r,Gc k::q,h,j,i,x,h1,h2=>by
  unfold RP at h
  obtain⟨ha,hr⟩:=(qO _ _).mp h
  obtain⟨ha,h3⟩:=(qO _ _).mp ha
  obtain⟨h4,h5⟩:=(qO _ _).mp ha
  cases j with
  |zero=>
   simp at h1 h2
   subst h1 h2
   refine⟨qM h4,?_,qM h3⟩
   rcases(sJ _ _).mp h5 with z|z
   .exact .inl (qM z)
   .exact .inr (qM z)
  |succ j=>exact cH hr (by simpa using h1) (by simpa using h2)
 | [],_::_,h,_,_,_,_,_=>by simp[RP]at h
 |_::_,[],h,_,_,_,_,_=>by simp[RP]at h
structure AS(N:List Str)(osc:tT)(N':List Str)(ix:List (pY Nat))(scope:tT):Prop where
 kind:scope.kind=.function
 cells:∀y∈scope.names,y.2=.cell->scope.names.lookup y.1=Gc .cell
 names:∀y∈scope.names,y.2=.local->scope.names.lookup y.1=Gc .local
 free:∀y∈scope.names,y.2=.free->(osc.names.lookup y.1=Gc .cell\/osc.names.lookup y.1=Gc .free)
 ok:RP N osc scope N' ix=true
noncomputable def sig(ix:List (pY Nat))(σ:St):St:=ix.map λo=>o.bind λi=>(σ[i]?).join
noncomputable def Cp(X:Cx)(N':List Str)(scope:tT)(s:pX)(H:Hp)(fp:List pz):Cx where
 prog:=X.prog
 w:=X.w
 K:=X.K
 mg:=X.mg
 base:=X.base
 A:=X.A
 N:=N'
 s₀:=s
 H₀:=H
 env:=compEnvC scope (cellsFrom (s.heap.objs.size+1) scope.names (GC X.env.cells scope.names [])) s.heap.objs.size X.env
 outer:=X.stack
 stack:=X.stack
 ex:=fp
 fn:=λx=>decide (scope.names.lookup x=Gc .cell)
 calm:=true
 pn:=[]
 xe:=λ_ _=>ur
section
variable{X:Cx}{pins:List (pz×Obj)}{σ:St}{H:Hp}{s:pX}{N':List Str}{ix:List (pY Nat)}{scope:tT}{fp:List pz}
theorem Inv.cellsOf(I:Inv X pins σ H s)(S:AS X.N X.env.scope N' ix scope):∀y∈scope.names,y.2=.free->∃a,X.env.cells.lookup y.1=Gc a:=λy hy hk=>I.ok.has y.1 (S.free y hy hk)
theorem Qu(S:AS X.N X.env.scope N' ix scope)(hc:X.calm=true)(I:Inv X pins σ H s)(hf:∀b∈fp,Mz X pins H b)(hlt:∀b∈fp,b<s.heap.objs.size){h1:qu}{m1:Str->pY pW}{tk:Nat}(hn:h1.Ns s.heap.objs.size m1)(hk:∀b o,s.heap.get? b=Gc o->h1.get? b=Gc o)(hC:CellsOk h1 (s.heap.objs.size+1) (cellsFrom (s.heap.objs.size+1) scope.names [])):Inv (Cp X N' scope s H fp) [] (sig ix σ) H {s with heap:=h1,toks:=tk}:=by
 have hcl:=I.cellsOf S
 have sub:∀{x:Str} {c:pz},(GC X.env.cells scope.names []).lookup x=Gc c->X.env.cells.lookup x=Gc c:=λ{x c} h=>by
  rcases LY hcl h with z|z
  .simp at z
  .exact z
 have old:∀{x:Str} {c:pz},X.env.cells.lookup x=Gc c->c<s.heap.objs.size:=λ{x c} h=>by
  obtain⟨v,oc,ho,_⟩:=I.cell x c h
  exact qI ho
 have look:∀{x:Str} {c:pz},(cellsFrom (s.heap.objs.size+1) scope.names (GC X.env.cells scope.names [])).lookup x=Gc c->(x,c)∈cellsFrom (s.heap.objs.size+1) scope.names []\/X.env.cells.lookup x=Gc c:=λ{x c} h=>by
  rw[B6,vp]at h
  cases e:(cellsFrom (s.heap.objs.size+1) scope.names []).lookup x with
  |some a=>rw[e]at h;cases h;exact .inl (rZ e)
  |none=>rw[e]at h;exact .inr (sub h)
 refine⟨⟨I.ok.mod,S.kind,I.ok.glob,I.ok.blt,p9 _,λx y c h1 h2=>?_,λx hx=>?_,λx c hx h=>?_,λ_=>I.ok.hd hc,I.ok.frames,.inl rfl,λb hb=>?_,I.bs,qD I.ok.bsz I.sz,λb o e hb=>?_,λb hb hs=>?_,I.stack,I.UP⟩,
  rfl,I.bare,Un.kept hk,⟨m1,hn,λj x v h1 h2 h3=>?_⟩,λx c h=>?_,I.hok.fresh (p9 _),λx c h=>?_,λp hp=>absurd (show p∈([]:List (pz×Obj))from hp) (by simp),I.hok.kept hk,?_⟩
 . -- inj
   rcases look h1 with a|a<;>rcases look h2 with b|b
   .exact name_of_addr hC.apart a b
   .exact absurd (qB (old b) (vT (hC.empty _ _ a).2)) (tH _)
   .exact absurd (qB (old a) (vT (hC.empty _ _ b).2)) (tH _)
   .exact I.ok.inj x y c a b
 . -- has
   have hx':(relabel scope X.env).names.lookup x=Gc .cell\/(relabel scope X.env).names.lookup x=Gc .free:=hx
   show∃c,(cellsFrom (s.heap.objs.size+1) scope.names (GC X.env.cells scope.names [])).lookup x=Gc c
   rw[B6,vp]
   cases e:(cellsFrom (s.heap.objs.size+1) scope.names []).lookup x with
   |some a=>exact⟨a,rfl⟩
   |none=>
    rcases(hx'.elim (Lc (.inl rfl)) (Lc (.inr rfl)))with z|z
    .exact JV (.inl z)
    .obtain⟨c,hc⟩:=K2 (n:=s.heap.objs.size+1) (S.cells _ z rfl)
     rw[e]at hc;cases hc
 . -- cab
   obtain⟨c',hc'⟩:=K2 (n:=s.heap.objs.size+1) (qM hx)
   have h:(cellsFrom (s.heap.objs.size+1) scope.names (GC X.env.cells scope.names [])).lookup x=Gc c:=h
   rw[B6,vp,hc']at h
   cases h
   exact vT (hC.empty _ _ (rZ hc')).2
 . -- exf
   refine⟨qN (hlt b hb),λx c h=>?_⟩
   rcases look h with a|a
   .exact λe=>absurd (qB (e▸hlt b hb) (vT (hC.empty _ _ a).2)) (tH _)
   .exact(hf b hb).2.2.2.2.1 x c a
 . -- bq
   rcases(hf b hb).2.2.2.1 with z|z
   .exact I.ok.bq b o e z
   .exact absurd (qB (qI (I.ok.bs b o e).1) z) (tH _)
 . -- bP
   rcases qA.mp (I.Vd b hs)with z|z
   .exact(hf b hb).2.1 z
   .exact(hf b hb).2.2.1 z
 . -- loc
   unfold sig at h2
   rw[qf]at h2
   cases e:ix[j]? with
   |none=>rw[e]at h2;cases h2
   |some o=>
    rw[e]at h2
    cases o with
    |none=>cases h2
    |some i=>
     have h2':(σ[i]?).join=Gc v:=by simpa using h2
     have h4:σ[i]?=Gc (Gc v):=by
      cases e4:σ[i]? with
      |none=>rw[e4]at h2';cases h2'
      |some q=>rw[e4]at h2';exact congrArg Gc h2'
     obtain⟨q1,q2,q3⟩:=cH S.ok h1 e
     obtain⟨m,_,hl⟩:=I.loc
     obtain⟨u,r,l⟩:=hl i x v q1 h4 (q2.elim (λz=>.inr (.inl z)) λz=>.inr (.inr z))
     refine⟨u,r,?_⟩
     rcases l with⟨l,_⟩|⟨_,c,lc,z⟩
     .have l':X.env.scope.names.lookup x=Gc .local:=l
      rcases q2 with z|z<;>(rw[z]at l';cases l')
     .refine .inr ⟨J7 q3,?_⟩
      obtain⟨c',hc'⟩:=JV (cells:=X.env.cells) (cs:=[]) (.inl (rZ q3))
      have ec:=sub hc'
      rw[lc]at ec
      cases ec
      have no:(cellsFrom (s.heap.objs.size+1) scope.names []).lookup x=none:=by
       cases e:(cellsFrom (s.heap.objs.size+1) scope.names []).lookup x with
       |none=>rfl
       |some a=>
        have q:=S.cells _ (G9 (rZ e)) rfl
        rw[q3]at q;cases q
      refine⟨c,(by show(cellsFrom (s.heap.objs.size+1) scope.names (GC X.env.cells scope.names [])).lookup x=Gc c;rw[B6,vp,no];exact hc'),?_⟩
      obtain⟨oc,ho,hd⟩:=z
      exact⟨oc,hk _ _ ho,hd⟩
 .rcases look h with a|a
  .exact⟨_,(hC.empty _ _ a).1⟩
  .obtain⟨v,oc,ho,hd⟩:=I.cell x c a
   exact⟨v,oc,hk _ _ ho,hd⟩
 .rcases look h with a|a
  .exact I.hok.fresh (vT (hC.empty _ _ a).2)
  .exact I.MZ x c a
 .show(sig ix σ).length=N'.length
  unfold sig
  rw[qP]
  exact Vj S.ok
end
end L2
end
noncomputable section
namespace L2
open PySem PySem.Spec PyProof.Rows
def PTs(X:Cx)(ifs:List qh)(t:TT):Prop:=
 ∀(pins:List (pz×Obj)) (s:pX) (σ:St) (H:Hp) (Q:qk->Hp->Prop),Inv X pins σ H s->t σ H Q->
  wpAny (model X.prog X.w) X.A (forIn ifs true λc r=>if r=true then do let ok<-isTrue c X.env (eval c X.env);pure (wy ok)else pure (wy r)) (TP X pins σ Q) X.xe s
noncomputable def kE:TT:=λ_ H Q=>Q true H
theorem bH{X:Cx}:PTs X [] kE:=λ_ _ _ H _ I h=>wpAny_tests_nil ⟨H,I,h⟩
theorem bG{X:Cx}{c:qh}{t:TT}(h:PT X c t):PTs X [c] t:=λpins s σ H Q I q=>wpAny_tests_one (h pins s σ H Q I q)
theorem RX{α:Type}{M:Model}{A:qx}{t:Sem α}{Q:α->pX->Prop}{E:pW->pX->Prop}{s:pX}(h:wpAny M A t Q (λ_ _=>ur) s):wpAny M A t Q E s:=wZ h (λ_ _ q=>q) λ_ _ f=>f.elim
def eL(ix:List (pY Nat))(g:TG)(tc:TT)(te:TE)(J:It)(σ:St)(H:Hp)(Q:VK):Prop:=
 ∀D,H D=none->∃W:Nat->Nat->St->Hp->List V->Prop,(∃m,W 0 m (sig ix σ) (upd H D (.lst [])) [])/\∀i m σ H ys,W i m σ H ys->H D=Gc (.lst ys)/\
  ((J.stop i H/\Q (.ref D) H)\/(J.go i H/\ys.length<sizeLine/\∀x H',J.yld i H x H'->g x σ H' λσ2 H2=>tc σ2 H2 λb H3=>
    if b=true then te σ2 H3 λy H4=>H4 D=Gc (.lst ys)/\∃m',m'<m/\W (i+1) m' σ2 (upd H4 D (.lst (ys++[y]))) (ys++[y])else∃m',m'<m/\W (i+1) m' σ2 H3 ys))
noncomputable def aY(ix:List (pY Nat))(wi:TI)(g:TG)(tc:TT)(te:TE):TE:=λσ H Q=>wi σ H λJ H1=>eL ix g tc te J σ H1 Q
section
variable{X:Cx}{pins:List (pz×Obj)}{σ:St}{s₂:pX}{N':List Str}{ix:List (pY Nat)}{scope:tT}{elt tg iter:qh}{ifs:List qh}{pos:Pos}{g:TG}{tc:TT}{te:TE}
def Block(X:Cx)(N':List Str)(scope:tT)(tg:qh)(ifs:List qh)(elt:qh)(g:TG)(tc:TT)(te:TE):Prop:=
 ∀(s:pX) (H:Hp) (fp:List pz),PG (Cp X N' scope s H fp) tg g/\PTs (Cp X N' scope s H fp) ifs tc/\PE (Cp X N' scope s H fp) elt te
theorem Te {X' : Cx} {it : pz} {fp : List pz} {tn : Nat -> qu -> Prop} {J : It} {D : pz} {Q : VK} {R : z8 -> pX -> Prop} {W : Nat -> Nat -> St -> Hp -> List V -> Prop} {s : pX} {e : Env} {n : Nat} (he : X'.env = e) (hx : X'.xe = fun _ _ => ur) (hcm : X'.calm = true) (T : Turn X'.prog X'.w X'.K tg J fp it tn) (hfp : ∀ H : Hp, (∀ b ∈ fp, H b = none) -> ∀ b ∈ fp, Mz X' [] H b) (hg : PG X' tg g) (ht : PTs X' ifs tc) (hb : PE X' elt te) (turn : ∀ i m σ H ys, W i m σ H ys -> H D = Gc (.lst ys) /\ ((J.stop i H /\ Q (.ref D) H) ∨ (J.go i H /\ ys.length < sizeLine /\ ∀ x H', J.yld i H x H' -> g x σ H' fun σ2 H2 => tc σ2 H2 fun b H3 =>
        if b = true then te σ2 H3 fun y H4 => H4 D = Gc (.lst ys) /\ ∃ m', m' < m /\ W (i + 1) m' σ2 (upd H4 D (.lst (ys ++ [y]))) (ys ++ [y]) else ∃ m', m' < m /\ W (i + 1) m' σ2 H3 ys)))
    (hR : ∀ s' σ' H', Inv X' [] σ' H' s' -> Q (.ref D) H' -> R (.ok .next) s')
    (h0 : ∃ i σ' H' ys, Inv X' [] σ' H' s /\ tn i s.heap /\ (∀ b ∈ fp, H' b = none) /\ W i n σ' H' ys) :
    codeAny (model X'.prog X'.w) X'.A (.compLoop (.ListComp elt [⟨tg, iter, ifs, 0⟩] scope pos) 0 (.ref it) (.ref D) e) R s := by
  subst he
  refine codeAny_loop rfl (fun n s => ∃ i σ' H' ys, Inv X' [] σ' H' s /\ tn i s.heap /\ (∀ b ∈ fp, H' b = none) /\ W i n σ' H' ys) (fun n s3 hI => ?_) n h0
  show wpAny _ X'.A ((compTurn (.ListComp elt [⟨tg, iter, ifs, 0⟩] scope pos) 0 (.ref it) (.ref D) X'.env).onRaise (fun x => do noteFrame x X'.env; theTreesLotGoes x)) _ _ s3
  refine wpAny_noted (RX ?_)
  rw [compTurn_list]
  obtain ⟨i, σ3, H3, ys, I3, st3, fr3, w3⟩ := hI
  obtain ⟨hD, alt⟩ := turn i n σ3 H3 ys w3
  rcases alt with ⟨stop, q⟩ | ⟨go, hlen, step⟩
  · refine Wp (uE (Wp (thn (T.done X' rfl rfl rfl hcm i [] s3 σ3 H3 _ I3 (hfp H3 fr3) st3 stop) fun r s4 ⟨hr, I4⟩ => ?_)))
    subst hr
    exact pZ (hR s4 σ3 H3 I4 q)
  · refine Wp (uE (Wp (thn (T.item X' rfl rfl rfl hcm i [] s3 σ3 H3 _ I3 (hfp H3 fr3) st3 go) fun r s4 ⟨u, hr, h4⟩ => ?_)))
    subst hr
    refine Wp (thn h4 fun _ s5 ⟨x, H5, I5, r5, y5, st5, fr5⟩ => ?_)
    have I5' := I5.pinned (hfp H5 fr5) (T.obj _ _ st5)
    have hg' := hg _ s5 σ3 H5 x u _ I5' r5 (step x H5 y5)
    rw [hx] at hg'
    refine Wp (thn hg' fun _ s6 ⟨σ6, H6, I6, q6⟩ => ?_)
    have ht' := ht _ s6 σ6 H6 _ I6 q6
    rw [hx] at ht'
    refine Wp (thn ht' fun ok s7 ⟨H7, I7, q7⟩ => ?_)
    have again : ∀ {s8 : pX} {H8 : Hp} {zs : List V} {m' : Nat}, Inv X' ([] ++ NV fp s5.heap) σ6 H8 s8 -> m' < n -> W (i + 1) m' σ6 H8 zs -> ∃ m, m < n /\ ∃ i σ' H' ys, Inv X' [] σ' H' s8 /\ tn i s8.heap /\ (∀ b ∈ fp, H' b = none) /\ W i m σ' H' ys := fun {s8 H8 zs m'} I8 hm w8 => by
      refine ⟨m', hm, i + 1, σ6, H8, zs, I8.JF, T.keep _ _ _ st5 fun b hb o e => (I8.pin (b, o) (qm _ (qm _ (FG hb e)))).1, fun b hb => ?_, w8⟩
      obtain ⟨o, e, d⟩ := T.obj _ _ st5 b hb
      exact (I8.pin (b, o) (qm _ (qm _ (FG hb e)))).2.1
    cases ok with
    | false =>
      rw [qj (by decide)] at q7
      obtain ⟨m', hm, w7⟩ := q7
      exact pZ ⟨rfl, again I7 hm w7⟩
    | true =>
      rw [qc rfl] at q7
      have hb' := hb _ s7 σ6 H7 _ I7 q7
      rw [hx] at hb'
      refine Wp (Wp (thn hb' fun v s8 ⟨y, H8, I8, r8, hD8, m', hm, w8⟩ => ?_))
      have ha := Ol (X := X') _ s8 σ6 H8 (.ref D) [y] (.ref D) [v] (fun _ H9 => H9 = upd H8 D (.lst (ys ++ [y]))) I8 rfl (.cons r8 .nil) ⟨D, ys, y, rfl, rfl, hD8, hlen, rfl⟩
      rw [hx] at ha
      refine Wp (thn ha fun _ s9 ⟨_, H9, I9, _, e9⟩ => ?_)
      subst e9
      exact pZ (pZ ⟨rfl, again I9 hm w8⟩)
theorem Qq(hc:X.calm=true)(S:AS X.N X.env.scope N' ix scope)(hb:Block X N' scope tg ifs elt g tc te){it:pz}{fp:List pz}{tn:Nat->qu->Prop}{J:It}{H₂:Hp}{Q:VK}{E:pW->pX->Prop}{RR:pW->pz->z8->pX->Prop}(I2:Inv X pins σ H₂ s₂)(T:Turn X.prog X.w X.K tg J fp it tn)(st2:tn 0 s₂.heap)(f2:∀b∈fp,Mz X pins H₂ b)(hW:eL ix g tc te J σ H₂ Q)(hRR:∀D C H' s',Inv X pins σ H' s'->(∃m,s'.heap.Ns C m)->Mz X pins H' C->Q (.ref D) H'->RR (.ref D) C (.ok .next) s'):wpAny (model X.prog X.w) X.A (newList []) (λacc s₃=>wpAny (model X.prog X.w) X.A (newFunctionEnv scope X.env.globals (GC X.env.cells scope.names []) [] X.env.qual none .none (Gc X.env)) (λcenv s₄=>
  codeAny (model X.prog X.w) X.A (.compStart (.ListComp elt [⟨tg,iter,ifs,0⟩] scope pos) 0 (.ref it) acc {cenv with scope:=relabel scope X.env}) (RR acc cenv.locals) s₄) E s₃) E s₂:=by
 have hD0:H₂ s₂.heap.objs.size=none:=I2.hok.fresh (p9 _)
 have hlt2:∀b∈fp,b<s₂.heap.objs.size:=λb hb=>by
  obtain⟨o,e,_⟩:=T.obj _ _ st2 b hb
  exact qI e
 refine qr (GI (λh₁ hns₁ hsb₁ hcl₁=>?_))
 have I3:Inv X pins σ (upd H₂ s₂.heap.objs.size (.lst [])) {s₂ with heap:=s₂.heap.push {cls:=.type "list",dict:=none,data:=.seq ([]:List pW).toArray}}:=
  I2.laid (t':=s₂.toks) (λb u e=>pU _ e) (p9 _) ⟨rS _,[],0,.nil,qG _ rfl⟩
 have f3:∀b∈fp,Mz X pins (upd H₂ s₂.heap.objs.size (.lst [])) b:=λb hb=>⟨by rw[Aa (qN (hlt2 b hb))];exact(f2 b hb).1,(f2 b hb).2⟩
 have k3:∀b o,s₂.heap.get? b=Gc o->(s₂.heap.push {cls:=.type "list",dict:=none,data:=.seq ([]:List pW).toArray}).get? b=Gc o:=λb o e=>pU _ e
 dsimp only at hns₁ hsb₁ hcl₁⊢
 generalize hs3:({s₂ with heap:=s₂.heap.push {cls:=.type "list",dict:=none,data:=.seq ([]:List pW).toArray}}:pX)=s₃ at I3
 have eh:s₂.heap.push {cls:=.type "list",dict:=none,data:=.seq ([]:List pW).toArray}=s₃.heap:=by rw[<-hs3]
 have et:s₂.toks=s₃.toks:=by rw[<-hs3]
 have es:∀(h:qu) (t:Nat),({s₂ with heap:=h,toks:=t}:pX)={s₃ with heap:=h,toks:=t}:=λh t=>by rw[<-hs3]
 rw[eh]at hns₁ hsb₁ hcl₁ k3⊢
 have hlt3:∀b∈fp,b<s₃.heap.objs.size:=λb hb=>by
  obtain⟨o,e,_⟩:=T.obj _ _ st2 b hb
  exact qI (k3 b o e)
 have k4:∀b o,s₃.heap.get? b=Gc o->h₁.get? b=Gc o:=hsb₁
 obtain⟨W,⟨m0,w0⟩,turn⟩:=hW _ hD0
 have I4:∀tk,Inv (Cp X N' scope s₃ (upd H₂ s₂.heap.objs.size (.lst [])) fp) [] (sig ix σ) (upd H₂ s₂.heap.objs.size (.lst [])) {s₃ with heap:=h₁,toks:=tk}:=λtk=>Qu S hc I3 f3 hlt3 hns₁ k4 hcl₁
 have st4:tn 0 h₁:=T.keep _ _ _ st2 λb hb o e=>k4 b o (k3 b o e)
 obtain⟨bg,bt,be⟩:=hb s₃ (upd H₂ s₂.heap.objs.size (.lst [])) fp
 have noX:∀(H:Hp),(∀b∈fp,H b=none)->∀b∈fp,Mz (Cp X N' scope s₃ (upd H₂ s₂.heap.objs.size (.lst [])) fp) [] H b:=λH hn b hb=>by
  obtain⟨_,h2,h3⟩:=f3 b hb
  refine⟨hn b hb,qN (hlt3 b hb),λhs=>(I4 0).ok.bP b hb hs,.inl hb,λx c h=>?_,λp hp=>absurd (show p∈([]:List (pz×Obj))from hp) (by simp)⟩
  exact((I4 0).ok.exf b hb).2 x c h
 have fin:∀(s':pX) (σ':St) (H':Hp),Inv (Cp X N' scope s₃ (upd H₂ s₂.heap.objs.size (.lst [])) fp) [] σ' H' s'->Q (.ref s₂.heap.objs.size) H'->RR (.ref s₂.heap.objs.size) s₃.heap.objs.size (.ok .next) s':=λs' σ' H' I' q=>by
  refine hRR _ _ H' s' ?_ (let⟨m,hn,_⟩:=I'.loc;⟨m,hn⟩) (I3.ZU (p9 _) I'.free) q
  exact I3.eM I'.os I'.base I'.hok I'.bare λb hb=>⟨(f3 b hb).2.2.2.1,(f3 b hb).2.1,(f3 b hb).2.2.2.2.1,(f3 b hb).2.2.2.2.2⟩
 have loop:∀tk,codeAny (model X.prog X.w) X.A (.compLoop (.ListComp elt [⟨tg,iter,ifs,0⟩] scope pos) 0 (.ref it) (.ref s₂.heap.objs.size) (compEnvC scope (cellsFrom (s₃.heap.objs.size+1) scope.names (GC X.env.cells scope.names [])) s₃.heap.objs.size X.env)) (RR (.ref s₂.heap.objs.size) s₃.heap.objs.size) {s₃ with heap:=h₁,toks:=tk}:=λtk=>
  Te (X':=Cp X N' scope s₃ (upd H₂ s₂.heap.objs.size (.lst [])) fp) (D:=s₂.heap.objs.size) (Q:=Q) (W:=W) rfl rfl rfl T noX bg bt be turn fin ⟨0,_,_,_,I4 tk,st4,λb hb=>(f3 b hb).1,w0⟩
 rw[es]
 exact codeAny_compStart_list (loop _) (T.self _ 0 _ _ _ st4 (loop _))
theorem cD{wi:TI}(hc:X.calm=true)(S:AS X.N X.env.scope N' ix scope)(hi:PI X tg iter wi)(hb:Block X N' scope tg ifs elt g tc te)(hs:∀x,foldedSetIterable iter X.env x=pure x:=by intro _;rfl):PE X (.ListComp elt [⟨tg,iter,ifs,0⟩] scope pos) (aY ix wi g tc te):=by
 intro pins s σ H Q I h
 rw[eval_ListComp]
 refine vi (use:=none) rfl hs (N2 (I.cellsOf S)) S.kind S.names (thn (hi pins s σ H _ I h) λv s1 h1=>thn h1 λitv s2 h2=>?_)
 obtain⟨it,fp,tn,J,H2,e,I2,T,st2,f2,hW⟩:=h2
 subst e
 refine Qq (RR:=λacc C=>compPost (model X.prog X.w) X.A X.xe none (EP X pins σ Q) acc C) hc S hb I2 T st2 f2 hW ?_
 intro D C H' s' I' hm hC q
 obtain⟨m,hm⟩:=hm
 refine⟨m,hm,λh' hs'=>⟨.ref D,H',I'.turned (it:=C) (t':=s'.toks) (λb o hb e=>hs'.extBut b o hb e) hC.1 hC.2.1 hC.2.2.2.1 hC.2.2.2.2.1 hC.2.2.2.2.2,rfl,q⟩⟩
end
end L2
end
noncomputable section
namespace L2
open PySem PySem.Spec PyProof.Rows
section
variable{X:Cx}{N':List Str}{ix:List (pY Nat)}{scope:tT}{elt tg iter:qh}{ifs:List qh}{pos spos py:Pos}{g:TG}{tc:TT}{te:TE}{wi:TI}{i:Nat}{y:Str}
theorem SN(hc:X.calm=true)(hN:X.N.Nodup)(hi':X.N[i]?=Gc y)(hx:X.env.scope.names.lookup y=Gc .local)(S:AS X.N X.env.scope N' ix scope)(hi:PI X tg iter wi)(hb:Block X N' scope tg ifs elt g tc te)(hsw:swapsWith (.ListComp elt [⟨tg,iter,ifs,0⟩] scope pos) (Gc (.Name y py)) spos.line X.env=pure true:=by rfl)(hs:∀x,foldedSetIterable iter X.env x=pure x:=by intro _;rfl):PS X (.Assign [.Name y py] (.ListComp elt [⟨tg,iter,ifs,0⟩] scope pos) spos) (ku (aY ix wi g tc te) (Zy i)):=by
 intro pins s σ H D I h
 rw[exec_Assign_Name_used _ _ _ _ hsw]
 refine Wp (uE (Wp ?_))
 show wpAny _ X.A (do let _<-comprehension (.ListComp elt [⟨tg,iter,ifs,0⟩] scope pos) scope X.env _ (newList []) false (eval iter X.env) (Gc (assign (.Name y py) X.env))) _ _ s
 refine Wp (wZ (vi (use:=Gc (assign (.Name y py) X.env)) (Q:=λ_ s'=>SP X pins D .next s') rfl hs (N2 (I.cellsOf S)) S.kind S.names
  (thn (hi pins s σ H _ I h) λv s1 h1=>thn h1 λitv s2 h2=>?_)) (λ_ s' hq=>pZ (pZ hq)) λ_ _ e=>e)
 obtain⟨it,fp,tn,J,H2,e,I2,T,st2,f2,hW⟩:=h2
 subst e
 refine Qq (RR:=λacc C=>compPost (model X.prog X.w) X.A X.xe (Gc (assign (.Name y py) X.env)) (λ_ s'=>SP X pins D .next s') acc C) hc S hb I2 T st2 f2 hW ?_
 intro L C H' s' I' hm hC q
 obtain⟨m,hm⟩:=hm
 show wpAny _ X.A (assign (.Name y py) X.env (.ref L)) _ _ _
 refine wpAny_assign_Name (Pw I' hN hi' (.inl hx) (v:=.ref L) rfl (λs'' I'' ⟨a,sb,ha⟩=>?_) (.inr hx))
 have hCa:C≠a:=by
  rcases ha with rfl|ha
  .exact hC.2.1
  .exact rm (hC.2.2.2.2.1 y a ha)
 refine⟨m,hm.sameBut sb hCa,λh' hs'=>?_⟩
 exact⟨_,H',I''.turned (it:=C) (t':=s''.toks) (λb o hb e=>hs'.extBut b o hb e) hC.1 hC.2.1 hC.2.2.2.1 hC.2.2.2.2.1 hC.2.2.2.2.2,q⟩
end
end L2
end
noncomputable section
namespace L2
open PySem PySem.Spec PyProof.Rows
section
variable{κ:Type} [zB κ]
noncomputable def R5(kvs:List (κ×V))(k:κ):pY V:=(kvs.find? λkv=>decide (kv.1=k)).map (·.2)
noncomputable def putK(kvs:List (κ×V))(k:κ)(v:V):List (κ×V):=
 if(kvs.any λkv=>decide (kv.1=k))=true then kvs.map (λkv=>if kv.1=k then(kv.1,v)else kv)else kvs++[(k,v)]
theorem Ku{p:κ×V}{r:List (κ×V)}{k:κ}(e:p.1=k):R5 (p::r) k=Gc p.2:=by simp[R5,uZ,e]
theorem K1{p:κ×V}{r:List (κ×V)}{k:κ}(e:¬p.1=k):R5 (p::r) k=R5 r k:=by simp[R5,uZ,e]
theorem Qy(k:κ):∀kvs:List (κ×V),(kvs.any λkv=>decide (kv.1=k))=(R5 kvs k).isSome
 | []=>rfl
 |p::r=>by
  rw[sV]
  by_cases e:p.1=k
  .simp only[Ku e,sX e,Bool.true_or,AAC]
  .rw[K1 e,tP e,zq];exact Qy k r
theorem G3(kvs:List (κ×V))(k:κ)(v:V):(putK kvs k v).length<=kvs.length+1:=by
 unfold putK
 split
 .rw[qP];lia
 .rw[qw,qg,vM];lia
theorem V1.VD{o:pY V}{u:pY pW}(r:V1 o u):o.isSome=u.isSome:=by
 cases o with
 |none=>cases u with
  |none=>rfl
  |some _=>exact(show ur from r).elim
 |some _=>cases u with
  |none=>exact(show ur from r).elim
  |some _=>rfl
theorem V1.getD{o:pY V}{u:pY pW}{d:V}{d':pW}(r:V1 o u)(rd:RelV d d'):RelV (o.getD d) (u.getD d'):=by
 cases o with
 |none=>cases u with
  |none=>exact rd
  |some _=>exact(show ur from r).elim
 |some _=>cases u with
  |none=>exact(show ur from r).elim
  |some _=>exact r
theorem KV.val{kvs:List (κ×V)}{vs:List (κ×pW)}(r:KV kvs vs)(k:κ):V1 (R5 kvs k) (valueAt vs k):=by
 unfold KV at r
 induction r with
 |nil=>exact uL
 | @cons p q ps qs h t ih=>
   obtain⟨h1,h2⟩:=h
   by_cases e:p.1=k
   .have e':q.1=k:=h1.symm.trans e
    have b:valueAt (q::qs) k=Gc q.2:=by simp[valueAt,uZ,e']
    rw[Ku e,b];exact h2
   .have e':¬q.1=k:=λz=>e (h1.trans z)
    have b:valueAt (q::qs) k=valueAt qs k:=by simp[valueAt,uZ,e']
    rw[K1 e,b];exact ih
theorem KV.any{kvs:List (κ×V)}{vs:List (κ×pW)}(r:KV kvs vs)(k:κ):(kvs.any λkv=>decide (kv.1=k))=vs.any λkv=>decide (kv.1=k):=by
 unfold KV at r
 induction r with
 |nil=>rfl
 |cons h t ih=>rw[sV,sV,ih,h.1]
theorem KV.ba{kvs:List (κ×V)}{vs:List (κ×pW)}(r:KV kvs vs)(k:κ){y:V}{u:pW}(ry:RelV y u):KV (kvs.map λkv=>if kv.1=k then(kv.1,y)else kv) (vs.map λkv=>if kv.1=k then(kv.1,u)else kv):=by
 unfold KV at r⊢
 induction r with
 |nil=>exact .nil
 | @cons p q ps qs h t ih=>
   rw[qS,qS]
   refine .cons ?_ ih
   obtain⟨h1,h2⟩:=h
   by_cases e:p.1=k
   .rw[qc e,qc (h1.symm.trans e)];exact⟨h1,ry⟩
   .rw[qj e,qj (λz=>e (h1.trans z))];exact⟨h1,h2⟩
theorem KV.put{kvs:List (κ×V)}{vs:List (κ×pW)}(r:KV kvs vs)(k:κ){y:V}{u:pW}(ry:RelV y u):KV (putK kvs k y) (stored vs k u):=by
 unfold putK stored
 rw[r.any k]
 by_cases e:(vs.any λkv=>decide (kv.1=k))=true
 .rw[qc e,qc e];exact r.ba k ry
 .rw[qj e,qj e];exact Paired.snoc r ⟨rfl,ry⟩
theorem KV.keys{kvs:List (κ×V)}{vs:List (κ×pW)}(r:KV kvs vs):kvs.map (·.1)=vs.map (·.1):=by
 unfold KV at r
 induction r with
 |nil=>rfl
 |cons h t ih=>rw[qS,qS,ih,h.1]
theorem KV.length{kvs:List (κ×V)}{vs:List (κ×pW)}(r:KV kvs vs):kvs.length=vs.length:=zl r
end
theorem Uq{P:qa}{w:qq}{k:Key}{u:pW}(r:RelV (kV k) u):(CO P w).is k u=true:=by
 cases k with
 |inl i=>obtain⟨t,e⟩:=(show∃t,u=vc i t from r);subst e;exact QK P w i t
 |inr x=>obtain⟨t,e⟩:=(show∃t,u=yK x t from r);subst e;exact Qi P w x t
theorem P0{P:qa}{w:qq}:∀{ks:List Key} {us:List pW},Vals (ks.map kV) us->ItemsAre (CO P w) ks us
 | [],_,r=>by rw[sG]at r;cases r;exact .nil
 |k::ks,_,r=>by
  rw[qS]at r
  cases r with
  |cons h t=>exact .cons (Uq h) (P0 t)
abbrev KT(H:Hp):List (List Key×V)->List (List Key×pz×pW)->Prop:=Paired λp q=>p.1=q.1/\H q.2.1=Gc (.tup (p.1.map kV))/\RelV p.2 q.2.2
theorem KT.val{H:Hp}{kvs:List (List Key×V)}{xs:List (List Key×pz×pW)}(r:KT H kvs xs)(k:List Key):V1 (R5 kvs k) ((atKey xs k).map (·.2)):=by
 induction r with
 |nil=>exact uL
 | @cons p q ps qs h t ih=>
   obtain⟨h1,_,h2⟩:=h
   by_cases e:p.1=k
   .have e':q.1=k:=h1.symm.trans e
    have b:atKey (q::qs) k=Gc q.2:=by simp[atKey,uZ,e']
    rw[Ku e,b];exact h2
   .have e':¬q.1=k:=λz=>e (h1.trans z)
    have b:atKey (q::qs) k=atKey qs k:=by simp[atKey,uZ,e']
    rw[K1 e,b];exact ih
theorem KT.ba{H:Hp}{kvs:List (List Key×V)}{xs:List (List Key×pz×pW)}(r:KT H kvs xs)(k:List Key){y:V}{u:pW}(ry:RelV y u):KT H (kvs.map λkv=>if kv.1=k then(kv.1,y)else kv) (xs.map (putAt k u)):=by
 induction r with
 |nil=>exact .nil
 | @cons p q ps qs h t ih=>
   rw[qS,qS]
   refine .cons ?_ ih
   obtain⟨h1,h2,h3⟩:=h
   unfold putAt
   by_cases e:p.1=k
   .rw[qc e,qc (h1.symm.trans e)];exact⟨h1,h2,ry⟩
   .rw[qj e,qj (λz=>e (h1.trans z))];exact⟨h1,h2,h3⟩
theorem KT.put{H:Hp}{kvs:List (List Key×V)}{xs:List (List Key×pz×pW)}(r:KT H kvs xs)(k:List Key){b:pz}{y:V}{u:pW}(hb:H b=Gc (.tup (k.map kV)))(ry:RelV y u):KT H (putK kvs k y) (storedH xs k b u):=by
 have e:(kvs.any λkv=>decide (kv.1=k))=(atKey xs k).isSome:=by
  rw[Qy,(r.val k).VD,Option.isSome_map]
 unfold putK storedH
 rw[e]
 by_cases q:(atKey xs k).isSome=true
 .rw[qc q,qc q];exact r.ba k ry
 .rw[qj q,qj q];exact Paired.snoc r ⟨rfl,hb,ry⟩
theorem KT.keeps{H H':Hp}{kvs:List (List Key×V)}{xs:List (List Key×pz×pW)}(r:KT H kvs xs)(ht:∀b ys,H b=Gc (.tup ys)->H' b=Gc (.tup ys)):KT H' kvs xs:=
 Paired.kL r λ_ _ z=>⟨z.1,ht _ _ z.2.1,z.2.2⟩
section
variable{P:qa}{w:qq}{H:Hp}{h:qu}{a:pz}
theorem gW{u:HO}(ok:HOk P w H h)(e:Rd H a u):D3 P w H h a u:=e.ok ok
theorem aZ{kvs:List (Key×V)}(ok:HOk P w H h)(e:Rd H a (.dK kvs)):kvs.length<=sizeLine/\(a==sysModules)=false/\∃vs,KV kvs vs/\h.DictOf (CO P w) a vs:=
 show D3 P w H h a (.dK kvs)from gW ok e
theorem VQ{kvs:List (Key×V)}(ok:HOk P w H h)(e:H a=Gc (.dK kvs)):kvs.length<=sizeLine/\(a==sysModules)=false/\∃vs,KV kvs vs/\h.DictOf (CO P w) a vs:=aZ ok (.inl e)
theorem TZ{ks:List Key}(ok:HOk P w H h)(e:H a=Gc (.tup (ks.map kV))):(tupleKind (CO P w)).is h ks a:=by
 obtain⟨_,its,r,o,h1,h2,n,h3⟩:=(show D3 P w H h a (.tup (ks.map kV))from ok a _ e)
 exact⟨o,its.toArray,n,h1,h2,h3,by simpa using P0 r⟩
theorem bR{kvs:List (List Key×V)}(ok:HOk P w H h)(e:Rd H a (.dT kvs)):kvs.length<=sizeLine/\(a==sysModules)=false/\∃xs,KT H kvs xs/\h.DictOfH (tupleKind (CO P w)) a xs:=by
 obtain⟨z,y,xs,r,o,es,ep,h1,h2,h3,h4,h5⟩:=(show D3 P w H h a (.dT kvs)from gW ok e)
 refine⟨z,y,xs,r,o,es,ep,h1,h2,h3,h4,λx hx=>?_,h5⟩
 have all:∀{l:List (List Key×V)} {m:List (List Key×pz×pW)},KT H l m->∀x∈m,(tupleKind (CO P w)).is h x.1 x.2.1:=by
  intro l m q
  induction q with
  |nil=>intro x hx;exact nomatch hx
  | @cons p q ps qs hq t ih=>
    intro x hx
    rcases qA.mp hx with e|hx
    .subst e
     exact TZ ok (by rw[<-hq.1];exact hq.2.1)
    .exact ih x hx
 exact all r x hx
theorem X7{kvs:List (List Key×V)}(ok:HOk P w H h)(e:H a=Gc (.dT kvs)):kvs.length<=sizeLine/\(a==sysModules)=false/\∃xs,KT H kvs xs/\h.DictOfH (tupleKind (CO P w)) a xs:=bR ok (.inl e)
end
def iy(H:Hp)(a:pz)(y:V)(r:pY V):Prop:=
 (∃kvs k,Rd H a (.dK kvs)/\y=kV k/\r=R5 kvs k)\/∃kvs k b,Rd H a (.dT kvs)/\y=.ref b/\H b=Gc (.tup (k.map kV))/\r=R5 kvs k
def jI(H:Hp)(a:pz)(y v:V)(H':Hp):Prop:=
 (∃kvs k,H a=Gc (.dK kvs)/\y=kV k/\kvs.length<sizeLine/\H'=upd H a (.dK (putK kvs k v)))∨
 ∃kvs k b,H a=Gc (.dT kvs)/\y=.ref b/\H b=Gc (.tup (k.map kV))/\kvs.length<sizeLine/\H'=upd H a (.dT (putK kvs k v))
theorem iy.k{H:Hp}{a:pz}{kvs:List (Key×V)}{k:Key}(e:H a=Gc (.dK kvs)):iy H a (kV k) (R5 kvs k):=.inl ⟨kvs,k,.inl e,rfl,rfl⟩
theorem jI.k{H:Hp}{a:pz}{kvs:List (Key×V)}{k:Key}{v:V}(e:H a=Gc (.dK kvs))(hl:kvs.length<sizeLine):jI H a (kV k) v (upd H a (.dK (putK kvs k v))):=.inl ⟨kvs,k,e,rfl,hl,rfl⟩
section
variable{X:Cx}{pins:List (pz×Obj)}{σ:St}{H:Hp}{s:pX}{a:pz}{y v:V}{u r:pW}{o:pY V}{A:qx}{E:pW->pX->Prop}
theorem Inv.big(I:Inv X pins σ H s):sysModules<s.heap.objs.size:=by
 have h:mainGlobals<s.heap.objs.size:=(I.mod.glob.keeps I.bk).lt
 exact tJ (by decide) h
theorem Ni{h':qu}{t':Nat}{ob:HO}(I:Inv X pins σ H s)(mu:Mut (H a))(hs:t9 a s.heap h')(he:∃q,h'.get? a=Gc q)(new:D3 X.prog X.w (upd H a ob) h' a ob):Inv X pins σ (upd H a ob) {s with heap:=h',toks:=t'}:=
 I.write (x:=a) (e:=a) mu (.inl rfl) (λb q hb z=>(hs.2 b hb).trans z) he new
theorem Ut{P:qa}{w:qq}{H':Hp}{h':qu}{kvs:List (Key×V)}{vs:List (Key×pW)}(z:kvs.length<=sizeLine)(hd:(a==sysModules)=false)(rel:KV kvs vs)(dd:h'.DictOf (CO P w) a vs):D3 P w H' h' a (.dK kvs):=⟨z,hd,vs,rel,dd⟩
theorem To{H':Hp}{Q:Unit->pX->Prop}(hu:A.units+1<cLine)(I:Inv X pins σ H s)(g:jI H a y v H')(ry:RelV y u)(rv:RelV v r)(h:∀s',Inv X pins σ H' s'->Q () s'):wpAny (model X.prog X.w) A (setItem (.ref a) u r) Q E s:=by
 rcases g with⟨kvs,k,e,ey,l,eH⟩|⟨kvs,k,b,e,ey,eb,l,eH⟩
 .subst ey eH
  obtain⟨z,hd,vs,rel,dd⟩:=VQ I.hok e
  have hz:vs.length<=sizeLine:=by rw[<-rel.length];exact z
  have hl:(putK kvs k v).length<=sizeLine:=by have:=G3 kvs k v;lia
  refine wpAny_setItem_pairs (hsz:=hz) (Uq ry) dd λh' dd' hs=>h _ ?_
  have he:∃q,h'.get? a=Gc q:=let⟨q,_,_,hq,_⟩:=dd';⟨q,hq⟩
  exact Ni I (by rw[e];exact uL) hs he (Ut hl hd (rel.put k rv) dd')
 .subst ey eH
  cases (show u=qz b from ry)
  obtain⟨z,hd,xs,rel,dd⟩:=X7 I.hok e
  have hz:xs.length<=sizeLine:=by rw[<-zl rel];exact z
  have hl:(putK kvs k v).length<=sizeLine:=by have:=G3 kvs k v;lia
  refine wpAny_setItem_heap (hsz:=hz) (AAD hu) (TZ I.hok eb) dd λh' dd' hs=>h _ ?_
  obtain⟨q,es,ep,hq,h2,h3,h4,_,h5⟩:=dd'
  refine Ni I (by rw[e];exact uL) hs ⟨q,hq⟩ ⟨hl,hd,_,(rel.put k eb rv).keeps λc ys ec=>?_,q,es,ep,hq,h2,h3,h4,h5⟩
  rw[Aa (ji ec e (λz=>nomatch z))]
  exact ec
end
section
variable{X:Cx}{pins:List (pz×Obj)}{σ:St}{H:Hp}{s:pX}{a:pz}{kvs:List (Key×V)}{k:Key}{u:pW}{A:qx}{E:pW->pX->Prop}
end
noncomputable def jd(td ty tv:TE):TS:=λD σ H=>tv σ H λv H1=>td σ H1 λx H2=>ty σ H2 λy H3=>∃a H4,x=.ref a/\jI H3 a y v H4/\D.nx σ H4
section
variable{X:Cx}{o i e value:qh}{pos pos' tpos:Pos}{td ty tv:TE}
theorem aS(hu:X.A.units+1<cLine)(ho:PE X o td)(hi:PE X i ty)(hv:PE X value tv)(hs:swapsWith value (Gc (.Subscript o i pos')) pos.line X.env=pure false):PS X (.Assign [.Subscript o i pos'] value pos) (jd td ty tv):=by
 intro pins s σ H D I h
 refine wpAny_Assign_Subscript (thn (hv pins s σ H _ I h) λr s1 ⟨v,H1,I1,rv,q1⟩=>thn (ho pins s1 σ H1 _ I1 q1) λu s2 ⟨x,H2,I2,rx,q2⟩=>thn (hi pins s2 σ H2 _ I2 q2) λiv s3 ⟨y,H3,I3,ry,a,H4,ex,g,q3⟩=>?_) hs
 subst ex
 obtain rfl:u=qz a:=rx
 exact To hu I3 g ry rv λs4 I4=>⟨σ,H4,I4,q3⟩
end
theorem RW{P:qa}{w:qq}{H:Hp}(h:qu)(hb:sysModules<h.objs.size):D3 P w H (h.push {cls:=.type "dict",data:=.dict #[]}) h.objs.size (.dK []):=
 ⟨rS _,uo.mpr (rm (qN hb)),[],.nil,Heap.DictOf.new h⟩
noncomputable def dc:TE:=λ_ H Q=>∀p,H p=none->Q (.ref p) (upd H p (.dK []))
section
variable{X:Cx}{pos:Pos}
theorem XA:PE X (.Dict [] [] pos) dc:=λpins s σ H Q I h=>
 wpAny_Dict_empty ⟨.ref s.heap.objs.size,_,I.laid (a:=s.heap.objs.size) (o:=.dK []) (t':=s.toks) (λ_ _ q=>pU _ q) (p9 _) (RW s.heap I.big),rfl,h _ (I.hok.fresh (p9 _))⟩
end
def Q5:List (TE×TE)->St->Hp->(List (V×V)->Hp->Prop)->Prop
 | [],_,H,Q=>Q [] H
 |(tk,tv)::r,σ,H,Q=>tk σ H λx H1=>tv σ H1 λy H2=>Q5 r σ H2 λps H3=>Q ((x,y)::ps) H3
abbrev VV:List (V×V)->List (pW×pW)->Prop:=Paired λp q=>RelV p.1 q.1/\RelV p.2 q.2
def PPs(X:Cx)(pos:Pos)(keys:List (pY qh))(values:List qh)(trs:List (TE×TE)):Prop:=
 ∀(pins:List (pz×Obj)) (s:pX) (σ:St) (H:Hp) (Q:List (V×V)->Hp->Prop),Inv X pins σ H s->Q5 trs σ H Q->
  wpAny (model X.prog X.w) X.A (evalPairs (pairTrees keys values X.env pos)) (λvs s'=>∃ps H',Inv X pins σ H' s'/\VV ps vs/\Q ps H') X.xe s
theorem aV{X:Cx}{pos:Pos}:PPs X pos [] [] []:=λpins s σ H Q I h=>pairTrees_nil_walk ⟨[],H,I,.nil,h⟩
theorem W8{X:Cx}{pos:Pos}{k v:qh}{ks:List (pY qh)}{vs:List qh}{tk tv:TE}{trs:List (TE×TE)}(hk:PE X k tk)(hv:PE X v tv)(hr:PPs X pos ks vs trs):PPs X pos (Gc k::ks) (v::vs) ((tk,tv)::trs):=λpins s σ H Q I h=>
 pairTrees_cons_walk (thn (hk pins s σ H _ I h) λu s1 ⟨x,H1,I1,rx,q1⟩=>thn (hv pins s1 σ H1 _ I1 q1) λw2 s2 ⟨y,H2,I2,ry,q2⟩=>
  thn (hr pins s2 σ H2 _ I2 q2) λws s3 ⟨ps,H3,I3,rel,q3⟩=>⟨(x,y)::ps,H3,I3,.cons ⟨rx,ry⟩ rel,q3⟩)
noncomputable def L4(kvs more:List (Key×V)):List (Key×V):=more.foldl (λacc kv=>putK acc kv.1 kv.2) kvs
theorem KV.merge:∀{more:List (Key×V)} {rs:List (Key×pW)} {kvs:List (Key×V)} {vs:List (Key×pW)},KV more rs->KV kvs vs->KV (L4 kvs more) (merged vs rs):=by
 intro more rs kvs vs r
 unfold KV at r
 induction r generalizing kvs vs with
 |nil=>intro q;exact q
 | @cons p q ps qs h t ih=>
   intro r0
   have e:KV (putK kvs p.1 p.2) (stored vs q.1 q.2):=by
    have:=r0.put p.1 h.2
    rw[<-h.1];exact this
   exact ih e
theorem JD:∀(more kvs:List (Key×V)),(L4 kvs more).length<=kvs.length+more.length
 | [],kvs=>by show kvs.length<=kvs.length+0;lia
 |p::r,kvs=>by
  have h1:=JD r (putK kvs p.1 p.2)
  have h2:=G3 kvs p.1 p.2
  show(L4 (putK kvs p.1 p.2) r).length<=_
  rw[qg];lia
theorem Mm{P:qa}{w:qq}:∀{kvs:List (Key×V)} {ws:List (pW×pW)},VV (kvs.map λkv=>(kV kv.1,kv.2)) ws->∃rs,Carries (CO P w) ws rs/\KV kvs rs
 | [],_,r=>by rw[sG]at r;cases r;exact⟨[],uL,.nil⟩
 |p::kvs,_,r=>by
  rw[qS]at r
  cases r with
  | @cons a b as bs h t=>
    obtain⟨rs,c,q⟩:=Mm (P:=P) (w:=w) t
    obtain⟨b1,b2⟩:=b
    exact⟨(p.1,b2)::rs,⟨Uq h.1,rfl,c⟩,.cons ⟨rfl,h.2⟩ q⟩
noncomputable def kr(trs:List (TE×TE)):TE:=λσ H Q=>∀p,H p=none->Q5 trs σ (upd H p (.dK [])) λps H2=>H2 p=Gc (.dK [])/\∃kvs:List (Key×V),ps=kvs.map (λkv=>(kV kv.1,kv.2))/\kvs.length<=15/\Q (.ref p) (upd H2 p (.dK (L4 [] kvs)))
theorem cX{X:Cx}{pos:Pos}{keys:List (pY qh)}{values:List qh}{trs:List (TE×TE)}(h:PPs X pos keys values trs)(hall:keys.all (·.isSome)=true)(hl:keys.length=values.length)(h0:keys≠[])(h15:keys.length<=15):PE X (.Dict keys values pos) (kr trs):=by
 intro pins s σ H Q I q
 have hn:=I.hok.fresh (p9 s.heap.objs.size)
 have I1:=I.laid (a:=s.heap.objs.size) (o:=.dK []) (h':=s.heap.push {cls:=.type "dict",data:=.dict #[]}) (t':=s.toks) (λ_ _ q=>pU _ q) (p9 _) (RW s.heap I.big)
 refine wpAny_Dict_walk (knd:=CO X.prog X.w) hall hl h0 h15 (thn (h pins _ σ _ _ I1 (q _ hn)) λws s2 ⟨ps,H2,I2,rel,e,kvs,ep,lk,q2⟩=>?_)
 subst ep
 obtain⟨rs,c,rk⟩:=Mm (P:=X.prog) (w:=X.w) rel
 obtain⟨z,hd,vs0,r0,dd⟩:=VQ I2.hok e
 cases r0
 refine⟨rs,c,dd,λh' dd' hs=>⟨.ref s.heap.objs.size,_,?_,rfl,q2⟩⟩
 have hz:(L4 [] kvs).length<=sizeLine:=by
  have h1:=JD kvs []
  rw[vM]at h1
  rw[vt];lia
 have he:∃q,h'.get? s.heap.objs.size=Gc q:=let⟨q,_,_,hq,_⟩:=dd';⟨q,hq⟩
 exact Ni I2 (by rw[e];exact uL) hs he (Ut hz hd (rk.merge .nil) dd')
structure M1(X:Cx)(o:qh)(m:Str)(apos:Pos)(e:qh)(cpos:Pos):Prop where
 base:attributeBase o m X.env (eval o X.env)=eval o X.env
 few:((backTo cpos (qb [e] X.env)).all (λx=> !x.1) && (backToKw cpos (keywordEach [] X.env)).all (λx=>x.1.isSome)
  && decide (([e]:List qh).length+([]:List xo).length+(if([]:List xo).isEmpty then 0 else 1)<30))=true
 line:(apos.endLine==cpos.line)=true
 trees:backTo cpos (qb [e] X.env)=[(false,eval e X.env)]
structure M2(X:Cx)(o:qh)(m:Str)(apos:Pos)(e f:qh)(cpos:Pos):Prop where
 base:attributeBase o m X.env (eval o X.env)=eval o X.env
 few:((backTo cpos (qb [e,f] X.env)).all (λx=> !x.1) && (backToKw cpos (keywordEach [] X.env)).all (λx=>x.1.isSome)
  && decide (([e,f]:List qh).length+([]:List xo).length+(if([]:List xo).isEmpty then 0 else 1)<30))=true
 line:(apos.endLine==cpos.line)=true
 trees:backTo cpos (qb [e,f] X.env)=[(false,eval e X.env),(false,eval f X.env)]
def IsD(H:Hp)(a:pz):Prop:=(∃kvs,Rd H a (.dK kvs))\/∃kvs,Rd H a (.dT kvs)
theorem Zp{X:Cx}{pins:List (pz×Obj)}{σ:St}{H:Hp}{s:pX}{a:pz}(I:Inv X pins σ H s)(d:IsD H a):s.TypeIs (.ref a) "dict" /\(∀b,qz a=.ref b->∃ob,s.heap.get? b=Gc ob/\ob.dict=none)/\(a==sysModules)=false:=by
 rcases d with⟨kvs,e⟩|⟨kvs,e⟩
 .obtain⟨_,hd,vs,_,dd⟩:=aZ I.hok e
  refine⟨dd.typeIs,λb q=>?_,hd⟩
  cases q
  obtain⟨ob,_,_,h1,h2,_⟩:=dd
  exact⟨ob,h1,h2.2.1⟩
 .obtain⟨_,hd,xs,_,dd⟩:=bR I.hok e
  refine⟨dd.typeIs,λb q=>?_,hd⟩
  cases q
  obtain⟨ob,_,_,h1,h2,_⟩:=dd
  exact⟨ob,h1,h2.2.1⟩
section
variable{X:Cx}{pins:List (pz×Obj)}{σ:St}{H:Hp}{s:pX}{a:pz}{y d:V}{u r:pW}{o:pY V}{A:qx}{E:pW->pX->Prop}
theorem dy{Q:pW->pX->Prop}(hu:A.units+1<cLine)(I:Inv X pins σ H s)(g:iy H a y o)(ry:RelV y u)(h:∀w' s',Inv X pins σ H s'->RelV (o.getD .non) w'->Q w' s'):wpAny (model X.prog X.w) A (call (.builtin "dict.get") [.ref a,u]) Q E s:=by
 rcases g with⟨kvs,k,e,ey,l⟩|⟨kvs,k,b,e,ey,eb,l⟩
 .subst ey
  obtain⟨z,hd,vs,rel,dd⟩:=aZ I.hok e
  refine call_meetsIn wY dd.typeIs yb (yQ _ _) (meets_dict_get (CO X.prog X.w) a (Uq ry) hd) ⟨_,dd.mapOf,h _ _ (I.tok _) ?_⟩
  rw[l]
  exact(rel.val k).getD rfl
 .subst ey
  cases (show u=qz b from ry)
  obtain⟨z,hd,xs,rel,dd⟩:=bR I.hok e
  refine call_meetsIn wY dd.typeIs yb (yQ _ _) (meetsH_dict_get (tupleKind (CO X.prog X.w)) a b hd) ⟨AAD hu,k,xs,TZ I.hok eb,dd,h _ _ (I.tok _) ?_⟩
  rw[l]
  exact(rel.val k).getD rfl
end
noncomputable def fS(td ty:TE):TE:=λσ H Q=>td σ H λx H1=>∃a,x=.ref a/\IsD H1 a/\ty σ H1 λy H2=>∃o,iy H2 a y o/\Q (o.getD .non) H2
section
variable{X:Cx}{o e f:qh}{apos cpos:Pos}{td ty tx:TE}
theorem W4(hu:X.A.units+1<cLine)(ho:PE X o td)(he:PE X e ty)(m:M1 X o "get" apos e cpos):PE X (.Call (.Attribute o "get" apos) [e] [] cpos) (fS td ty):=by
 intro pins s σ H Q I h
 refine wpAny_Call_method m.base m.few m.line yR wY PySem.F.type_dict_get (thn (ho pins s σ H _ I h) λu s1 ⟨x,H1,I1,rx,a,ex,d,q1⟩=>?_)
 subst ex
 obtain rfl:u=qz a:=rx
 obtain⟨t1,t2,_⟩:=Zp I1 d
 refine⟨t1,t2,?_⟩
 rw[m.trees]
 refine wK rfl (zD (vQ (thn (he pins s1 σ H1 _ I1 q1) λiv s2 ⟨y,H2,I2,ry,ov,g,q2⟩=>vU ?_)))
 exact dy hu I2 g ry λw' s3 I3 rw'=>⟨_,H2,I3,rw',q2⟩
end
section
variable{X:Cx}{pins:List (pz×Obj)}{σ:St}{H:Hp}{s:pX}{a:pz}{kvs:List (Key×V)}{A:qx}{E:pW->pX->Prop}
end
section
variable{X:Cx}{pins:List (pz×Obj)}{σ:St}{H:Hp}{s:pX}{a:pz}{y:V}{u:pW}{A:qx}{E:pW->pX->Prop}
end
end L2
end
noncomputable section
namespace L2
open PySem PySem.Spec PyProof.Rows
section
variable{prog:qa}{w:qq}{A:qx}{E:pW->pX->Prop}{s:pX}
theorem R7{h:qu}{it t:pz}{i:Nat}{o:Obj}(ho:h.get? it=Gc o)(hc:o.cls=.type "tuple_iterator")(hd:o.data=.fields #[.ref t,.int i 0]){h':qu}(e:h'=h.update it (λo=>o.mapFields λa=>a.setIfInBounds 1 (rawInt ((i:Int)+1)))):h'.IsTupleIter it t (i+1):=by
 subst e
 have d:=sP hd λa=>a.setIfInBounds 1 (rawInt ((i:Int)+1))
 refine⟨_,rE _ ho (uT d),?_,?_⟩
 .rw[wL];exact hc
 .rw[d];simp[rawInt]
theorem WR{it t:pz}{i:Nat}{items:qd pW}{x:pW}{Q:pW->pX->Prop}(hit:s.heap.IsTupleIter it t i)(ht:s.heap.IsTuple t items)(hx:items[i]?=Gc x)(hQ:∀h',h'.IsTupleIter it t (i+1)->t9 it s.heap h'->Q x {s with heap:=h'}):wpAny (model prog w) A (rD (.ref it)) Q E s:=by
 obtain⟨⟨c,dd,dt,sl⟩,ho,hc,hd⟩:=id hit
 obtain⟨⟨c2,dd2,dt2,sl2⟩,ho2,hc2,n2,hd2⟩:=id ht
 simp only at hc hd hc2 hd2
 subst hc hd hc2 hd2
 unfold rD
 refine Wp (rC (name:=rK "__next__") hit.typeIs uP (q9 uP hit.typeIs xG ?_ (xA _)))
 unfold sQ.«tuple_iterator.__next__»
 wp_walk using qe ho,qe ho2
 have e:items[(i:Int).toNat]?=Gc x:=by rw[vS];exact hx
 rw[e]
 refine Wp (uQ ho rfl (by simp) ?_)
 exact pZ ⟨x,rfl,pZ (hQ _ (R7 ho rfl rfl rfl) (rf ..))⟩
theorem XE{it t:pz}{i:Nat}{items:qd pW}{Q:pW->pX->Prop}(hh:A.handled=none)(hit:s.heap.IsTupleIter it t i)(ht:s.heap.IsTuple t items)(hx:items[i]?=none)(hE:∀h' e,vz it s.heap h'->(∃o,h'.get? e=Gc o/\o.cls=.type "StopIteration")->E (.ref e) {s with heap:=h'}):wpAny (model prog w) A (rD (.ref it)) Q E s:=by
 obtain⟨⟨c,dd,dt,sl⟩,ho,hc,hd⟩:=id hit
 obtain⟨⟨c2,dd2,dt2,sl2⟩,ho2,hc2,n2,hd2⟩:=id ht
 simp only at hc hd hc2 hd2
 subst hc hd hc2 hd2
 unfold rD
 refine Wp (rC (name:=rK "__next__") hit.typeIs uP (q9 uP hit.typeIs xG ?_ (xA _)))
 unfold sQ.«tuple_iterator.__next__»
 wp_walk using qe ho,qe ho2
 have e:items[(i:Int).toNat]?=none:=by rw[vS];exact hx
 rw[e]
 refine Wp (uh (Wp (uQ ho rfl (by simp) ?_)))
 have hh1:A.in1.handled=none:=hh
 unfold Builtin.SmallTypes.stopIteration
 simp only[newExc,newTuple,raiseNew]
 wp_walk
 refine hE _ _ ?_ ⟨_,qG _ rfl,rfl⟩
 have a:=(rf (a:=it) (h:=s.heap) (f:=zr λx=>x.setIfInBounds 0 sL)).extBut
 exact(a.push _).push _
theorem UC(l:pz)(items:qd pW)(n:Nat)(dct:pY pz)(sl:qd (pY pW)):Meets (sQ.«enumerate.__new__» ⟨[.type "enumerate",.ref l],[]⟩) (λ_ R s=>s.heap.get? l=Gc {cls:=.type "tuple",dict:=dct,data:=.seq items n,slots:=sl}/\R (.ok (.ret (.ref (s.heap.objs.size+1)))) {s with heap:=(s.heap.push {cls:=.type "tuple_iterator",data:=.fields #[.ref l,.int 0 0]}).push {cls:=.type "enumerate",data:=.fields #[.none,.bool false,.ref s.heap.objs.size,rawInt 0,.none,.none]}}):=
 .of_wp λprog w A R s h=>by
  obtain⟨hp,g,d,tk,os⟩:=s
  obtain⟨hl,h⟩:=h
  have hsub:=sub_enumerate
  have hT:xH (uc ⟨hp,g,d,tk,os⟩) l items:=⟨_,hl,rfl,n,rfl⟩
  wp_walk using qe hl
  refine wpAny_stack_any λst=>pZ ?_
  split
  .rename_i c _ _ _ _ _
   cases (c==vn "enumerate")<;>(wp_walk using qe hl,tR hT)<;>(refine⟨_,rfl,?_⟩;rw[ql];exact h)
  .wp_walk using qe hl,tR hT
   refine⟨_,rfl,?_⟩
   rw[ql]
   exact h
theorem SD{l:pz}{items:qd pW}{Q:pW->pX->Prop}(hT:s.heap.IsTuple l items)(h:∀h',IsEnum h' (s.heap.objs.size+1) s.heap.objs.size 0 .none->h'.IsTupleIter s.heap.objs.size l 0->(∀b o,s.heap.get? b=Gc o->h'.get? b=Gc o)->Q (.ref (s.heap.objs.size+1)) {s with heap:=h'}):wpAny (model prog w) A (call (.type "enumerate") [.ref l]) Q E s:=by
 obtain⟨⟨c,dct,dt,sl⟩,hl,hc,n,hd⟩:=hT
 simp only at hc hd
 subst hc hd
 refine callType_new F.called_enumerate (by decide) (F.typeCall_enumerate_1 _) (F.newCall_enumerate_1 _) (λobj=>F.args_object_init_2 obj _) F.entry_enumerate_new (UC l items n dct sl) ⟨hl,?_⟩
 have z:=qG (s.heap.push {cls:=.type "tuple_iterator",data:=.fields #[.ref l,.int 0 0]}) (o:={cls:=.type "enumerate",data:=.fields #[.none,.bool false,.ref s.heap.objs.size,rawInt 0,.none,.none]}) rfl
 rw[ql]at z
 exact⟨⟨_,z,rfl⟩,h _ z ⟨_,pU _ (qG _ rfl),rfl,rfl⟩ λb o x=>pU _ (pU _ x)⟩
end
section
variable{X:Cx}
end
end L2
end
noncomputable section
namespace L2
open PySem PySem.Spec PyProof.Rows
structure TopD(K:pV)(w:qq)(a:pz)(kvs:List (Str×V)):Prop where
 ex:∃(es:qd DictEntry) (n:Nat),K.lookup a=Gc ⟨.type "dict",none,.dict es n, #[]⟩/\PySem.W.KeysLit w.params es.toList/\(a==sysModules)=false/\∀x,V1 (kvs.lookup x) (findBy zk es x)
section
variable{X:Cx}
end
end L2
end
noncomputable section
namespace L2
open PySem PySem.Spec PyProof.Rows
def SIt(h:qu)(j l:pz)(i:Nat)(its:qd pW):Prop:=(h.IsListIter j l i/\h.IsList l its)\/(h.IsTupleIter j l i/\h.IsTuple l its)
section
variable{prog:qa}{w:qq}{A:qx}{E:pW->pX->Prop}{s:pX}{h h':qu}{j l:pz}{i:Nat}{its:qd pW}
theorem SIt.at(q:SIt h j l i its)(k1:∀o,h.get? j=Gc o->h'.get? j=Gc o)(k2:∀o,h.get? l=Gc o->h'.get? l=Gc o):SIt h' j l i its:=by
 rcases q with⟨a,b⟩|⟨a,b⟩
 .exact .inl ⟨a.at k1,b.at k2⟩
 .exact .inr ⟨a.at k1,let⟨o,e,r⟩:=b;⟨o,k2 o e,r⟩⟩
theorem SIt.but{c:pz}(q:SIt h j l i its)(sb:vz c h h')(n1:j≠c)(n2:l≠c):SIt h' j l i its:=q.at (λo e=>sb _ o n1 e) λo e=>sb _ o n2 e
theorem SIt.live(q:SIt h j l i its):∃o,h.get? j=Gc o/\∀v,o.data≠.cell v:=by
 rcases q with⟨⟨o,a,b,c⟩,_⟩|⟨⟨o,a,b,c⟩,_⟩
 .exact⟨o,a,λv z=>by rw[c]at z;cases z⟩
 .exact⟨o,a,λv z=>by rw[c]at z;cases z⟩
theorem SIt.ne(q:SIt h j l i its):l≠j:=by
 rcases q with⟨⟨o,a,b,_⟩,⟨o2,a2,b2,_⟩⟩|⟨⟨o,a,b,_⟩,⟨o2,a2,b2,_⟩⟩
 .intro z;subst z;rw[a]at a2;cases a2;rw[b]at b2;injection b2 with q;exact absurd q (by decide)
 .intro z;subst z;rw[a]at a2;cases a2;rw[b]at b2;injection b2 with q;exact absurd q (by decide)
theorem Kx{x:pW}{Q:pW->pX->Prop}(q:SIt s.heap j l i its)(hx:its[i]?=Gc x)(k:∀h',SIt h' j l (i+1) its->t9 j s.heap h'->Q x {s with heap:=h'}):wpAny (model prog w) A (rD (.ref j)) Q E s:=by
 have n:=q.ne
 rcases q with⟨a,b⟩|⟨a,b⟩
 .exact wpAny_nextOf_list_item a b hx λh' a' sb=>k h' (.inl ⟨a',b.extBut sb.extBut n⟩) sb
 .exact WR a b hx λh' a' sb=>k h' (.inr ⟨a',let⟨o,e,r⟩:=b;⟨o,sb.extBut _ o n e,r⟩⟩) sb
theorem Ky{Q:pW->pX->Prop}(hh:A.handled=none)(q:SIt s.heap j l i its)(hx:its[i]?=none)(k:∀h' e,vz j s.heap h'->(∃o,h'.get? e=Gc o/\o.cls=.type "StopIteration")->E (.ref e) {s with heap:=h'}):wpAny (model prog w) A (rD (.ref j)) Q E s:=by
 rcases q with⟨a,b⟩|⟨a,b⟩
 .exact wpAny_nextOf_list_end hh a b hx k
 .exact XE hh a b hx k
theorem UG{z ti tt j1 j2 l1 l2:pz}{m:Nat}{xs ys:qd pW}{x y u1 u2:pW}{Q:pW->pX->Prop}(D:ZipApart z ti tt j1 j2 l1 l2)(oz:xT s.heap z ti tt .none)(oi:uj s.heap ti (.ref j1) (.ref j2))(ot:uj s.heap tt u1 u2)(q1:SIt s.heap j1 l1 m xs)(q2:SIt s.heap j2 l2 m ys)(ex:xs[m]?=Gc x)(ey:ys[m]?=Gc y)(k:∀h',xT h' z ti tt (rawInt s.heap.objs.size)->uj h' tt x y->SIt h' j1 l1 (m+1) xs->SIt h' j2 l2 (m+1) ys->uj h' s.heap.objs.size x y->(∀c o,c≠z->c≠tt->c≠j1->c≠j2->s.heap.get? c=Gc o->h'.get? c=Gc o)->Q (.ref s.heap.objs.size) {s with heap:=h'}):wpAny (model prog w) A (sQ.«zip.__next__» ⟨[.ref z],[]⟩) (λfin s'=>∃v,fin=.done (.ret v)/\Q v s') E s:=by
 show wpAny _ _ (field (.ref z) 2 >>= _) _ _ _
 refine Wp (si oz rfl (x:=.bool false) rfl ?_)
 show wpAny _ _ (field (.ref z) 3 >>= _) _ _ _
 refine Wp (si oz rfl (x:=.ref ti) rfl (Wp (tV oi rfl ?_)))
 show wpAny _ _ (sY (.ref z) >>= _) _ _ _
 refine Wp ?_
 unfold sY
 refine Wp (si oz rfl (x:=.none) rfl (pZ ?_))
 simp only[wJ]
 refine Wp (uh (Wp (si oz rfl (x:=.ref tt) rfl (Wp (uR oz (by simp) λg1 oz1 b1=>?_)))))
 have oz1:xT g1 z ti tt .ellipsis:=oz1
 refine Wp ?_
 simp only[List.zipIdx_cons,List.zipIdx_nil,yp,zH]
 refine Wp (Wp (yC ?_))
 show wpAny _ _ (rD (.ref j1) >>= _) _ _ _
 refine Wp (Kx (q1.but b1.extBut D.i1z D.l1z) ex λg2 q12 b2=>pZ ?_)
 have ot2:uj g2 tt u1 u2:=b2.extBut _ _ D.TOi1 (b1.extBut _ _ D.TOz ot)
 refine Wp (tV ot2 rfl (Wp (wq ot2 λg3 ot3 b3=>?_)))
 have ot3:uj g3 tt x u2:=ot3
 refine Wp (zI (pZ (Wp (Wp (yC ?_)))))
 show wpAny _ _ (rD (.ref j2) >>= _) _ _ _
 refine Wp (Kx (((q2.but b1.extBut D.i2z D.l2z).but b2.extBut D.i12.symm D.l2i1).but b3.extBut D.TOi2.symm D.l2TO) ey λg4 q24 b4=>pZ ?_)
 have ot4:uj g4 tt x u2:=b4.extBut _ _ D.TOi2 ot3
 refine Wp (tV ot4 rfl (Wp (wq ot4 λg5 ot5 b5=>?_)))
 have ot5:uj g5 tt x y:=ot5
 refine Wp (zI (pZ (pZ (Wp (tV ot5 rfl (Wp (zJ ?_)))))))
 have sz:g5.objs.size=s.heap.objs.size:=by rw[b5.1,b4.1,b3.1,b2.1,b1.1]
 have oz5:xT g5 z ti tt .ellipsis:=b5.extBut _ _ D.TOz.symm (b4.extBut _ _ D.i2z.symm (b3.extBut _ _ D.TOz.symm (b2.extBut _ _ D.i1z.symm oz1)))
 have k5:∀c o,c≠z->c≠tt->c≠j1->c≠j2->s.heap.get? c=Gc o->g5.get? c=Gc o:=λc o c1 c2 c3 c4 e=>b5.extBut _ _ c2 (b4.extBut _ _ c4 (b3.extBut _ _ c2 (b2.extBut _ _ c3 (b1.extBut _ _ c1 e))))
 have q15:SIt g5 j1 l1 (m+1) xs:=((q12.but b3.extBut D.TOi1.symm D.l1TO).but b4.extBut D.i12 D.l1i2).but b5.extBut D.TOi1.symm D.l1TO
 have q25:SIt g5 j2 l2 (m+1) ys:=q24.but b5.extBut D.TOi2.symm D.l2TO
 have zlt:z<g5.objs.size:=qI oz5
 show wpAny _ _ (vf (.ref z) (.ref g5.objs.size) >>= _) _ _ _
 refine Wp ?_
 unfold vf
 have oz6:xT (g5.push {cls:=.type "tuple",data:=.seq #[x,y]}) z ti tt .ellipsis:=pU _ oz5
 refine Wp (uR oz6 (by simp) λg7 oz7 b7=>?_)
 have oz7:xT g7 z ti tt (rawInt g5.objs.size):=oz7
 refine uR oz7 (by simp) λg8 oz8 b8=>?_
 have oz8:xT g8 z ti tt (rawInt g5.objs.size):=oz8
 have up:∀c o,c≠z->g5.get? c=Gc o->g8.get? c=Gc o:=λc o c1 e=>b8.extBut _ _ c1 (b7.extBut _ _ c1 (pU _ e))
 have op8:uj g8 g5.objs.size x y:=b8.extBut _ _ (vD zlt) (b7.extBut _ _ (vD zlt) (qG _ rfl))
 rw[sz]at oz8 op8
 refine pZ ⟨_,rfl,?_⟩
 show Q (.ref g5.objs.size) _
 rw[sz]
 exact k g8 oz8 (up _ _ D.TOz ot5) (q15.at (λo e=>up _ o D.i1z e) λo e=>up _ o D.l1z e) (q25.at (λo e=>up _ o D.i2z e) λo e=>up _ o D.l2z e) op8 λc o c1 c2 c3 c4 e=>up c o c1 (k5 c o c1 c2 c3 c4 e)
theorem Yl{z ti tt j1 j2 l1 l2:pz}{m:Nat}{xs ys:qd pW}{u1 u2:pW}{Q:Fin->pX->Prop}(hh:A.handled=none)(D:ZipApart z ti tt j1 j2 l1 l2)(oz:xT s.heap z ti tt .none)(oi:uj s.heap ti (.ref j1) (.ref j2))(ot:uj s.heap tt u1 u2)(q1:SIt s.heap j1 l1 m xs)(q2:SIt s.heap j2 l2 m ys)(en:xs[m]?=none\/ys[m]?=none)(k:∀h' e,(∀c o,c≠z->c≠tt->c≠j1->c≠j2->s.heap.get? c=Gc o->h'.get? c=Gc o)->(∃o,h'.get? e=Gc o/\o.cls=.type "StopIteration")->E (.ref e) {s with heap:=h'}):wpAny (model prog w) A (sQ.«zip.__next__» ⟨[.ref z],[]⟩) Q E s:=by
 show wpAny _ _ (field (.ref z) 2 >>= _) _ _ _
 refine Wp (si oz rfl (x:=.bool false) rfl ?_)
 show wpAny _ _ (field (.ref z) 3 >>= _) _ _ _
 refine Wp (si oz rfl (x:=.ref ti) rfl (Wp (tV oi rfl ?_)))
 show wpAny _ _ (sY (.ref z) >>= _) _ _ _
 refine Wp ?_
 unfold sY
 refine Wp (si oz rfl (x:=.none) rfl (pZ ?_))
 simp only[wJ]
 refine Wp (uh (Wp (si oz rfl (x:=.ref tt) rfl (Wp (uR oz (by simp) λg1 oz1 b1=>?_)))))
 have oz1:xT g1 z ti tt .ellipsis:=oz1
 refine Wp ?_
 simp only[List.zipIdx_cons,List.zipIdx_nil,yp,zH]
 refine Wp (Wp (yC ?_))
 show wpAny _ _ (rD (.ref j1) >>= _) _ _ _
 cases ex:xs[m]? with
 |none=>
  refine Wp (Ky hh (q1.but b1.extBut D.i1z D.l1z) ex λg2 e b2 he=>?_)
  obtain⟨oe,e1,e2⟩:=he
  have oz2:xT g2 z ti tt .ellipsis:=b2 _ _ D.i1z.symm oz1
  have nez:e≠z:=λx=>by subst x;rw[oz2]at e1;cases e1;simp at e2
  exact uR oz2 (by simp) λg3 _ b3=>k g3 e (λc o c1 _ c3 _ x=>b3.extBut _ _ c1 (b2 _ _ c3 (b1.extBut _ _ c1 x))) ⟨oe,b3.extBut _ _ nez e1,e2⟩
 |some x=>
  have ey:ys[m]?=none:=by
   rcases en with z|z
   .rw[ex]at z;cases z
   .exact z
  refine Wp (Kx (q1.but b1.extBut D.i1z D.l1z) ex λg2 q12 b2=>pZ ?_)
  have ot2:uj g2 tt u1 u2:=b2.extBut _ _ D.TOi1 (b1.extBut _ _ D.TOz ot)
  refine Wp (tV ot2 rfl (Wp (wq ot2 λg3 ot3 b3=>?_)))
  refine Wp (zI (pZ (Wp (Wp (yC ?_)))))
  show wpAny _ _ (rD (.ref j2) >>= _) _ _ _
  refine Wp (Ky hh (((q2.but b1.extBut D.i2z D.l2z).but b2.extBut D.i12.symm D.l2i1).but b3.extBut D.TOi2.symm D.l2TO) ey λg4 e b4 he=>?_)
  obtain⟨oe,e1,e2⟩:=he
  have oz4:xT g4 z ti tt .ellipsis:=b4 _ _ D.i2z.symm (b3.extBut _ _ D.TOz.symm (b2.extBut _ _ D.i1z.symm oz1))
  have nez:e≠z:=λx=>by subst x;rw[oz4]at e1;cases e1;simp at e2
  exact uR oz4 (by simp) λg5 _ b5=>k g5 e (λc o c1 c2 c3 c4 x=>b5.extBut _ _ c1 (b4 _ _ c4 (b3.extBut _ _ c2 (b2.extBut _ _ c3 (b1.extBut _ _ c1 x))))) ⟨oe,b5.extBut _ _ nez e1,e2⟩
theorem Rm{z ti tt j1 j2 l1 l2:pz}{m:Nat}{xs ys:qd pW}{x y u1 u2:pW}{Q:pY pW->pX->Prop}(D:ZipApart z ti tt j1 j2 l1 l2)(oz:xT s.heap z ti tt .none)(oi:uj s.heap ti (.ref j1) (.ref j2))(ot:uj s.heap tt u1 u2)(q1:SIt s.heap j1 l1 m xs)(q2:SIt s.heap j2 l2 m ys)(ex:xs[m]?=Gc x)(ey:ys[m]?=Gc y)(k:∀h',xT h' z ti tt (rawInt s.heap.objs.size)->uj h' tt x y->SIt h' j1 l1 (m+1) xs->SIt h' j2 l2 (m+1) ys->uj h' s.heap.objs.size x y->(∀c o,c≠z->c≠tt->c≠j1->c≠j2->s.heap.get? c=Gc o->h'.get? c=Gc o)->Q (Gc (.ref s.heap.objs.size)) {s with heap:=h'}):wpAny (model prog w) A (pyNext (.ref z)) Q E s:=by
 have ht:s.TypeIs (.ref z) "zip":=⟨_,oz,rfl⟩
 unfold pyNext
 exact Wp (vj (rC (name:=rK "__next__") ht xB (q9 xB ht F.entry_zip_next
  (UG D oz oi ot q1 q2 ex ey λh' a1 a2 a3 a4 a5 a6=>pZ (k h' a1 a2 a3 a4 a5 a6)) (F.args_zip_next_1 _))))
theorem T5{z ti tt j1 j2 l1 l2:pz}{m:Nat}{xs ys:qd pW}{u1 u2:pW}{Q:pY pW->pX->Prop}(hh:A.handled=none)(D:ZipApart z ti tt j1 j2 l1 l2)(oz:xT s.heap z ti tt .none)(oi:uj s.heap ti (.ref j1) (.ref j2))(ot:uj s.heap tt u1 u2)(q1:SIt s.heap j1 l1 m xs)(q2:SIt s.heap j2 l2 m ys)(en:xs[m]?=none\/ys[m]?=none)(k:∀h',(∀c o,c≠z->c≠tt->c≠j1->c≠j2->s.heap.get? c=Gc o->h'.get? c=Gc o)->Q none {s with heap:=h'}):wpAny (model prog w) A (pyNext (.ref z)) Q E s:=by
 have ht:s.TypeIs (.ref z) "zip":=⟨_,oz,rfl⟩
 unfold pyNext
 refine Wp (vj (rC (name:=rK "__next__") ht xB (q9 xB ht F.entry_zip_next
  (Yl hh D oz oi ot q1 q2 en λh' e kp he=>?_) (F.args_zip_next_1 _))))
 obtain⟨o,e1,e2⟩:=he
 exact Wp (vd (T:="StopIteration") (b:=true) ⟨o,e1,e2⟩ zK (pZ (k _ kp)))
end
end L2
end
noncomputable section
namespace L2
open PySem PySem.Spec PyProof.Rows
def MY(h:qu)(b:qk)(l:pz)(its:qd pW):Prop:=match b with|true=>h.IsTuple l its|false=>h.IsList l its
noncomputable def fN:qk->tZ|true=>"tuple_iterator" |false=>"list_iterator"
noncomputable def zh1(h:qu)(b:qk)(l:pz):qu:=h.push {cls:=.type (fN b),data:=.fields #[.ref l,.int 0 0]}
noncomputable def zh2(h:qu)(b c:qk)(l m:pz):qu:=zh1 (zh1 h b l) c m
noncomputable def zh3(h:qu)(b c:qk)(l m:pz):qu:=(zh2 h b c l m).push {cls:=.type "tuple",data:=.seq #[.ref h.objs.size,.ref (zh1 h b l).objs.size]}
noncomputable def zh4(h:qu)(b c:qk)(l m:pz):qu:=(zh3 h b c l m).push {cls:=.type "tuple",data:=.seq #[.none,.none]}
noncomputable def zh5(h:qu)(b c:qk)(l m:pz):qu:=(zh4 h b c l m).push {cls:=.type "zip",data:=.fields #[.none,.bool false,.bool false,.ref (zh2 h b c l m).objs.size,.ref (zh3 h b c l m).objs.size]}
theorem MY.push{h:qu}{b:qk}{l:pz}{its:qd pW}(q:MY h b l its)(o:Obj):MY (h.push o) b l its:=by
 cases b
 .exact Heap.IsList.push q _
 .obtain⟨u,e,r⟩:=(show h.IsTuple l its from q)
  exact⟨u,pU _ e,r⟩
theorem Yj(b c:qk)(l m:pz)(xs ys:qd pW):Meets (sQ.«zip.__new__» ⟨[.type "zip",.ref l,.ref m],[]⟩) (λ_ R s=>MY s.heap b l xs/\MY s.heap c m ys/\R (.ok (.ret (.ref (zh4 s.heap b c l m).objs.size))) {s with heap:=zh5 s.heap b c l m}):=
 .of_wp λprog w A R s hyp=>by
  obtain⟨hp,gs,dr,tk,os⟩:=s
  obtain⟨i1,i2,hyp⟩:=hyp
  have hsub:=sub_zip
  have i3:MY (uc ⟨zh1 hp b l,gs,dr,tk,os⟩) c m ys:=MY.push i2 _
  cases b<;>cases c
  .have a1:zM (uc ⟨hp,gs,dr,tk,os⟩) l xs:=i1
   have a2:zM (uc ⟨hp.push {cls:=.type "list_iterator",data:=.fields #[.ref l,.int 0 0]},gs,dr,tk,os⟩) m ys:=i3
   wp_walk using sM a1,sM a2
   exact⟨_,rfl,hyp⟩
  .have a1:zM (uc ⟨hp,gs,dr,tk,os⟩) l xs:=i1
   have a2:xH (uc ⟨hp.push {cls:=.type "list_iterator",data:=.fields #[.ref l,.int 0 0]},gs,dr,tk,os⟩) m ys:=i3
   wp_walk using sM a1,tR a2
   exact⟨_,rfl,hyp⟩
  .have a1:xH (uc ⟨hp,gs,dr,tk,os⟩) l xs:=i1
   have a2:zM (uc ⟨hp.push {cls:=.type "tuple_iterator",data:=.fields #[.ref l,.int 0 0]},gs,dr,tk,os⟩) m ys:=i3
   wp_walk using tR a1,sM a2
   exact⟨_,rfl,hyp⟩
  .have a1:xH (uc ⟨hp,gs,dr,tk,os⟩) l xs:=i1
   have a2:xH (uc ⟨hp.push {cls:=.type "tuple_iterator",data:=.fields #[.ref l,.int 0 0]},gs,dr,tk,os⟩) m ys:=i3
   wp_walk using tR a1,tR a2
   exact⟨_,rfl,hyp⟩
section
variable{prog:qa}{w:qq}{A:qx}{E:pW->pX->Prop}{s:pX}
theorem Yu{h h':qu}{b:qk}{l j:pz}{its:qd pW}(q:MY h b l its)(k:∀c o,h.get? c=Gc o->h'.get? c=Gc o)(e:h'.get? j=Gc {cls:=.type (fN b),data:=.fields #[.ref l,.int 0 0]}):SIt h' j l 0 its:=by
 cases b
 .exact .inl ⟨⟨_,e,rfl,rfl⟩,(show h.IsList l its from q).at λo z=>k _ o z⟩
 .exact .inr ⟨⟨_,e,rfl,rfl⟩,let⟨o,z,r⟩:=(show h.IsTuple l its from q);⟨o,k _ o z,r⟩⟩
theorem Uc{b c:qk}{l m:pz}{xs ys:qd pW}{Q:pW->pX->Prop}(i1:MY s.heap b l xs)(i2:MY s.heap c m ys)(k:∀h',xT h' (s.heap.objs.size+4) (s.heap.objs.size+2) (s.heap.objs.size+3) .none->uj h' (s.heap.objs.size+2) (.ref s.heap.objs.size) (.ref (s.heap.objs.size+1))->uj h' (s.heap.objs.size+3) .none .none->SIt h' s.heap.objs.size l 0 xs->SIt h' (s.heap.objs.size+1) m 0 ys->(∀c o,s.heap.get? c=Gc o->h'.get? c=Gc o)->Q (.ref (s.heap.objs.size+4)) {s with heap:=h'}):wpAny (model prog w) A (call (.type "zip") [.ref l,.ref m]) Q E s:=by
 refine callType_new F.called_zip (by decide) (F.typeCall_zip_2 _ _) (F.newCall_zip_2 _ _) (λobj=>F.args_object_init_3 obj _ _) F.entry_zip_new (Yj b c l m xs ys) ⟨i1,i2,?_⟩
 have z1:(zh1 s.heap b l).objs.size=s.heap.objs.size+1:=ql ..
 have z2:(zh2 s.heap b c l m).objs.size=s.heap.objs.size+2:=by unfold zh2 zh1;rw[ql];exact congrArg (· +1) z1
 have z3:(zh3 s.heap b c l m).objs.size=s.heap.objs.size+3:=by unfold zh3;rw[ql,z2]
 have z4:(zh4 s.heap b c l m).objs.size=s.heap.objs.size+4:=by unfold zh4;rw[ql,z3]
 have kp:∀d o,s.heap.get? d=Gc o->(zh5 s.heap b c l m).get? d=Gc o:=λd o e=>by
  unfold zh5 zh4 zh3 zh2 zh1
  exact pU _ (pU _ (pU _ (pU _ (pU _ e))))
 have g5:(zh5 s.heap b c l m).get? (zh4 s.heap b c l m).objs.size=Gc _:=qG _ rfl
 have g4:(zh5 s.heap b c l m).get? (zh3 s.heap b c l m).objs.size=Gc _:=pU _ (qG _ rfl)
 have g3:(zh5 s.heap b c l m).get? (zh2 s.heap b c l m).objs.size=Gc _:=pU _ (pU _ (qG _ rfl))
 have g2:(zh5 s.heap b c l m).get? (zh1 s.heap b l).objs.size=Gc _:=pU _ (pU _ (pU _ (qG _ rfl)))
 have g1:(zh5 s.heap b c l m).get? s.heap.objs.size=Gc _:=pU _ (pU _ (pU _ (pU _ (qG _ rfl))))
 show _/\_
 rw[z2,z3,z4]at g5
 rw[z1,z2]at g3
 rw[z3]at g4
 rw[z1]at g2
 rw[z4]
 exact⟨⟨_,g5,rfl⟩,k _ g5 g3 g4 (Yu i1 kp g1) (Yu i2 kp g2) kp⟩
end
end L2
end
noncomputable section
namespace L2
open PySem PySem.Spec PyProof.Rows
def SqB(K:pV)(H:Hp)(k:qk)(a:pz)(xs:List V):Prop:=match k with|true=>SqT K H a xs|false=>SqL K H a xs
def JIt(h:qu)(k:qk)(j l:pz)(i:Nat):Prop:=match k with|true=>h.IsTupleIter j l i|false=>h.IsListIter j l i
theorem JIt.at{h h':qu}{k:qk}{j l:pz}{i:Nat}(q:JIt h k j l i)(e:∀o,h.get? j=Gc o->h'.get? j=Gc o):JIt h' k j l i:=by
 cases k
 .exact Heap.IsListIter.at q e
 .exact Heap.IsTupleIter.at q e
theorem JIt.sit{h:qu}{k:qk}{j l:pz}{i:Nat}{its:qd pW}(q:JIt h k j l i)(p:MY h k l its):SIt h j l i its:=by
 cases k
 .exact .inl ⟨q,p⟩
 .exact .inr ⟨q,p⟩
theorem SIt.jit{h:qu}{k:qk}{j l:pz}{i:Nat}{its:qd pW}(q:SIt h j l i its)(p:MY h k l its):JIt h k j l i:=by
 rcases q with⟨q,r⟩|⟨q,r⟩
 .cases k
  .exact q
  .obtain⟨o,e,c,_⟩:=r;obtain⟨o',e',c',_⟩:=(show h.IsTuple l its from p)
   rw[e]at e';cases e';rw[c]at c';injection c' with z;exact absurd z (by decide)
 .cases k
  .obtain⟨o,e,c,_⟩:=r;obtain⟨o',e',c',_⟩:=(show h.IsList l its from p)
   rw[e]at e';cases e';rw[c]at c';injection c' with z;exact absurd z (by decide)
  .exact q
theorem Inv.sqB{X:Cx}{pins:List (pz×Obj)}{σ:St}{H:Hp}{s:pX}{k:qk}{a:pz}{xs:List V}(I:Inv X pins σ H s)(h:SqB X.K H k a xs):∃its:List pW,Vals xs its/\MY s.heap k a its.toArray:=by
 cases k
 .obtain⟨its,h1,⟨o,n,q1,q2,_,q3⟩,h3⟩:=I.list h
  exact⟨its,h1,o,q1,q2,n,q3⟩
 .obtain⟨its,h1,h2,h3⟩:=I.tuple h
  exact⟨its,h1,h2⟩
theorem Inv.Qg{X:Cx}{pins:List (pz×Obj)}{σ:St}{H:Hp}{s:pX}{k:qk}{a:pz}{xs ys:List V}(I:Inv X pins σ H s)(h:SqB X.K H k a xs)(g:SqB X.K H k a ys):xs=ys:=by
 cases k
 .exact I.RN h g
 .exact I.PY h g
noncomputable def Itz(K:pV)(k:qk)(a:pz)(m:qk)(b:pz):It:=
 ⟨λi H=>∃(xs ys:List V) (x y:V),SqB K H k a xs/\SqB K H m b ys/\xs[i]?=Gc x/\ys[i]?=Gc y,
  λi H v H'=>∃(p:pz) (x y:V),H p=none/\v=.ref p/\(∀xs,SqB K H k a xs->xs[i]?=Gc x)/\(∀ys,SqB K H m b ys->ys[i]?=Gc y)/\H'=upd H p (.tup [x,y]),
  λi H=>∃(xs ys:List V),SqB K H k a xs/\SqB K H m b ys/\(xs.length<=i\/ys.length<=i)⟩
structure ZSt(h:qu)(z ti tt j1 j2:pz)(k:qk)(a:pz)(m:qk)(b:pz)(i:Nat):Prop where
 oz:xT h z ti tt .none
 oi:uj h ti (.ref j1) (.ref j2)
 ot:∃u v,uj h tt u v
 q1:JIt h k j1 a i
 q2:JIt h m j2 b i
structure ZNe(z ti tt j1 j2:pz):Prop where
 n1:ti≠z
 n2:tt≠z
 n3:j1≠z
 n4:j2≠z
 n5:ti≠tt
 n6:ti≠j1
 n7:ti≠j2
 n8:tt≠j1
 n9:tt≠j2
 n10:j1≠j2
theorem ZNe.apart{z ti tt j1 j2 a b:pz}(N:ZNe z ti tt j1 j2)(ha:a∉ [z,tt,j1,j2])(hb:b∉ [z,tt,j1,j2]):ZipApart z ti tt j1 j2 a b:=by
 simp only[qA,qT,rP,yc]at ha hb
 exact⟨N.n1,N.n2,N.n3,N.n4,N.n5,N.n6,N.n7,N.n8,N.n9,N.n10,ha.1,ha.2.1,ha.2.2.1,ha.2.2.2,hb.1,hb.2.1,hb.2.2.1,hb.2.2.2⟩
theorem Bb{X:Cx}{pins:List (pz×Obj)}{σ:St}{H:Hp}{s:pX}{k:qk}{a c:pz}{xs:List V}(I:Inv X pins σ H s)(q:SqB X.K H k a xs)(f:Mz X pins H c):a≠c:=by
 intro e
 subst e
 have rd:∀o,Rd H a o->ur:=λo r=>by
  rcases r with r|⟨_,r⟩<;>(rw[f.1]at r;cases r)
 have kk:∀o,X.K.lookup a=Gc o->ur:=λo hk=>by
  have b:=I.ok.mod.kin a o hk
  rcases f.2.2.2.1 with z|z
  .exact I.ok.bq a o b z
  .exact absurd (qB (qI (I.ok.bs a o b).1) z) (tH _)
 cases k
 .rcases(show SqL X.K H a xs from q)with q|⟨o,_,_,hk,_⟩
  .exact rd _ q
  .exact kk o hk
 .rcases(show SqT X.K H a xs from q)with q|⟨o,_,_,hk,_⟩
  .exact rd _ q
  .exact kk o hk
theorem Ws{P:qa}{w:qq}{K:pV}{elts:List qh}{n:Nat}{pos:Pos}(k:qk)(a:pz)(m:qk)(b:pz)(z ti tt j1 j2:pz)(N:ZNe z ti tt j1 j2):Turn P w K (.Tuple elts n pos) (Itz K k a m b) [z,ti,tt,j1,j2] z (λi h=>ZSt h z ti tt j1 j2 k a m b i) where
 mem:=by simp
 obj:=λi h st c hc=>by
  have jl:∀{q:qk} {j l:pz},JIt h q j l i->∃o,h.get? j=Gc o/\∀v,o.data≠.cell v:=λ{q j l} x=>by
   cases q
   .obtain⟨o,e,_,d⟩:=(show h.IsListIter j l i from x)
    exact⟨o,e,λv z=>by rw[d]at z;cases z⟩
   .obtain⟨o,e,_,d⟩:=(show h.IsTupleIter j l i from x)
    exact⟨o,e,λv z=>by rw[d]at z;cases z⟩
  simp only[qA,qT,rP]at hc
  rcases hc with rfl|rfl|rfl|rfl|rfl
  .exact⟨_,st.oz,λv z=>nomatch z⟩
  .exact⟨_,st.oi,λv z=>nomatch z⟩
  .obtain⟨u,v,e⟩:=st.ot
   exact⟨_,e,λv z=>nomatch z⟩
  .exact jl st.q1
  .exact jl st.q2
 keep:=λi h h' st kp=>⟨kp z (by simp) _ st.oz,kp ti (by simp) _ st.oi,let⟨u,v,e⟩:=st.ot;⟨u,v,kp tt (by simp) _ e⟩,st.q1.at λo e=>kp j1 (by simp) o e,st.q2.at λo e=>kp j2 (by simp) o e⟩
 item:=by
  intro X hP hw hK hc i pins s σ H E I hf st hg
  subst hP hw hK
  obtain⟨xs,ys,x,y,s1,s2,e1,e2⟩:=hg
  obtain⟨i1,r1,p1⟩:=I.sqB s1
  obtain⟨i2,r2,p2⟩:=I.sqB s2
  obtain⟨u1,h1,ru1⟩:=r1.get e1
  obtain⟨u2,h2,ru2⟩:=r2.get e2
  have fz:=hf z (by simp);have fi:=hf ti (by simp);have ft:=hf tt (by simp);have f1:=hf j1 (by simp);have f2:=hf j2 (by simp)
  have ap:=N.apart (a:=a) (b:=b) (by simp[Bb I s1 fz,Bb I s1 ft,Bb I s1 f1,Bb I s1 f2]) (by simp[Bb I s2 fz,Bb I s2 ft,Bb I s2 f1,Bb I s2 f2])
  obtain⟨v1,v2,ot⟩:=st.ot
  refine Rm ap st.oz st.oi ot (st.q1.sit p1) (st.q2.sit p2) (x:=u1) (y:=u2) (by simpa using h1) (by simpa using h2) λh' oz ot' q1 q2 op kp=>⟨_,rfl,wpAny_letOwnedTupleGo_zip oz λg oz' sb=>?_⟩
  have lt:∀c o,s.heap.get? c=Gc o->c≠s.heap.objs.size:=λc o q=>qN (qI q)
  have nz:z≠s.heap.objs.size:=lt _ _ st.oz
  have nt:tt≠s.heap.objs.size:=lt _ _ ot
  have n1:j1≠s.heap.objs.size:=by obtain⟨o,e,_⟩:=(st.q1.sit p1).live;exact lt _ _ e
  have n2:j2≠s.heap.objs.size:=by obtain⟨o,e,_⟩:=(st.q2.sit p2).live;exact lt _ _ e
  have kp2:∀c o,c≠z->c≠tt->c≠j1->c≠j2->s.heap.get? c=Gc o->g.get? c=Gc o:=λc o c1 c2 c3 c4 q=>(sb.2 c c1).trans (kp c o c1 c2 c3 c4 q)
  have fr:H s.heap.objs.size=none:=I.hok.fresh (p9 _)
  have op2:g.get? s.heap.objs.size=Gc {cls:=.type "tuple",data:=.seq #[u1,u2]}:=(sb.2 _ (rm nz)).trans op
  have ne:∀c u,c∈ [z,ti,tt,j1,j2]->∀d,H d=Gc u->d≠c:=λc u hc d q e=>by rw[e,(hf c hc).1]at q;cases q
  have kpH:∀c u,H c=Gc u->∀o,s.heap.get? c=Gc o->g.get? c=Gc o:=λc u q o e=>kp2 c o (ne z u (by simp) c q) (ne tt u (by simp) c q) (ne j1 u (by simp) c q) (ne j2 u (by simp) c q) e
  have ka:∀o,s.heap.get? a=Gc o->g.get? a=Gc o:=λo e=>kp2 a o (Bb I s1 fz) (Bb I s1 ft) (Bb I s1 f1) (Bb I s1 f2) e
  have kb:∀o,s.heap.get? b=Gc o->g.get? b=Gc o:=λo e=>kp2 b o (Bb I s2 fz) (Bb I s2 ft) (Bb I s2 f1) (Bb I s2 f2) e
  have sq:∀{q:qk} {d:pz} {is:qd pW},MY s.heap q d is->(∀o,s.heap.get? d=Gc o->h'.get? d=Gc o)->MY h' q d is:=λ{q d is} x kd=>by
   cases q
   .exact(show s.heap.IsList d is from x).at kd
   .obtain⟨o,e,r⟩:=(show s.heap.IsTuple d is from x)
    exact⟨o,kd o e,r⟩
  have ka1:∀o,s.heap.get? a=Gc o->h'.get? a=Gc o:=λo e=>kp a o (Bb I s1 fz) (Bb I s1 ft) (Bb I s1 f1) (Bb I s1 f2) e
  have kb1:∀o,s.heap.get? b=Gc o->h'.get? b=Gc o:=λo e=>kp b o (Bb I s2 fz) (Bb I s2 ft) (Bb I s2 f1) (Bb I s2 f2) e
  refine⟨.ref s.heap.objs.size,upd H s.heap.objs.size (.tup [x,y]),?_,rfl,⟨_,x,y,fr,rfl,λzs hz=>by rw[I.Qg hz s1];exact e1,λzs hz=>by rw[I.Qg hz s2];exact e2,rfl⟩,⟨oz',(sb.2 _ N.n1).trans (kp ti _ N.n1 N.n5 N.n6 N.n7 st.oi),⟨_,_,(sb.2 _ N.n2).trans ot'⟩,(q1.jit (sq p1 ka1)).at λo e=>(sb.2 _ N.n3).trans e,(q2.jit (sq p2 kb1)).at λo e=>(sb.2 _ N.n4).trans e⟩,?_⟩
  .show Inv X pins σ _ {s with heap:=g,gens:=s.gens,drawn:=s.drawn,toks:=s.toks}
   refine I.step (g':=s.gens) (d':=s.drawn) (ch:=[z,tt,j1,j2]) ?_ ?_ ?_ ?_ ?_ ?_ ?_ ?_ ?_ ?_ I.bare
   .intro c hc
    have q:Mz X pins H c:=hf c (by simp only[qA,qT,rP]at hc ⊢; rcases hc with z|z|z|z<;>simp[z])
    exact⟨q.2.2.2.1,q.2.1,q.2.2.2.2.1,q.2.2.2.2.2⟩
   .exact λc o _ _ hc q _=>by
     simp only[qA,qT,rP,yc]at hc
     exact kp2 c o hc.1 hc.2.1 hc.2.2.1 hc.2.2.2 q
   .exact λc o _ _ hc q _=>by
     simp only[qA,qT,rP,yc]at hc
     exact⟨o.slots,kp2 c o hc.1 hc.2.1 hc.2.2.1 hc.2.2.2 q⟩
   .exact λc o _ q n=>by rw[Aa (lt c o q)];exact n
   .exact λc o hc q=>by
     simp only[qA,qT,rP,yc]at hc
     exact⟨o,kp2 c o hc.1 hc.2.1 hc.2.2.1 hc.2.2.2 q⟩
   .exact λc ys q=>by rw[Aa (BP q fr)];exact q
   .exact λc o u q=>by rw[Aa (BP q fr)];exact q
   .exact λc ps q=>⟨#[],by rw[Aa (BP q fr),q];simp⟩
   .rintro mm ⟨o,es,ep,ho,r⟩
    exact⟨o,es,ep,kp2 _ o (rm fz.2.1) (rm ft.2.1) (rm f1.2.1) (rm f2.2.1) ho,r⟩
   .intro c v q
    by_cases hb:c=s.heap.objs.size
    .subst hb
     rw[Aw]at q
     cases q
     exact⟨by show 2<=sizeLine;decide,[u1,u2],.cons ru1 (.cons ru2 .nil),⟨_,op2,rfl,0,rfl⟩⟩
    .rw[Aa hb]at q
     refine(I.hok c v q).ZT (λd o hd r=>?_) (λd r=>by rw[Aa (BP r fr)];exact r) (λd ys r=>by rw[Aa (BP r fr)];exact r)
     rcases hd with e|e
     .rw[e]at r ⊢; exact kpH c v q o r
     .exact kpH d _ e o r
  .intro c hc
   have q:=hf c hc
   have:c≠s.heap.objs.size:=by
    simp only[qA,qT,rP]at hc
    rcases hc with e|e|e|e|e
    .rw[e];exact nz
    .rw[e];exact lt _ _ st.oi
    .rw[e];exact nt
    .rw[e];exact n1
    .rw[e];exact n2
   rw[Aa this];exact q.1
 done:=by
  intro X hP hw hK hc i pins s σ H E I hf st hg
  subst hP hw hK
  obtain⟨xs,ys,s1,s2,e⟩:=hg
  obtain⟨i1,r1,p1⟩:=I.sqB s1
  obtain⟨i2,r2,p2⟩:=I.sqB s2
  have l1:=r1.length
  have l2:=r2.length
  have hh:X.A.in1.handled=none:=I.ok.hd hc
  have hh0:X.A.handled=none:=I.ok.hd hc
  have fz:=hf z (by simp);have fi:=hf ti (by simp);have ft:=hf tt (by simp);have f1:=hf j1 (by simp);have f2:=hf j2 (by simp)
  have ap:=N.apart (a:=a) (b:=b) (by simp[Bb I s1 fz,Bb I s1 ft,Bb I s1 f1,Bb I s1 f2]) (by simp[Bb I s2 fz,Bb I s2 ft,Bb I s2 f1,Bb I s2 f2])
  obtain⟨v1,v2,ot⟩:=st.ot
  refine T5 hh0 ap st.oz st.oi ot (st.q1.sit p1) (st.q2.sit p2) (by rcases e with e|e;exact .inl (by simp;lia);exact .inr (by simp;lia)) λh' kp=>⟨rfl,?_⟩
  have ne:∀c u,c∈ [z,ti,tt,j1,j2]->∀d,H d=Gc u->d≠c:=λc u hc d q e=>by rw[e,(hf c hc).1]at q;cases q
  show Inv X pins σ _ {s with heap:=h',gens:=s.gens,drawn:=s.drawn,toks:=s.toks}
  refine I.step (g':=s.gens) (d':=s.drawn) (ch:=[z,tt,j1,j2]) ?_ ?_ ?_ ?_ ?_ ?_ ?_ ?_ ?_ ?_ I.bare
  .intro c hc
   have q:Mz X pins H c:=hf c (by simp only[qA,qT,rP]at hc ⊢; rcases hc with z|z|z|z<;>simp[z])
   exact⟨q.2.2.2.1,q.2.1,q.2.2.2.2.1,q.2.2.2.2.2⟩
  .exact λc o _ _ hc q _=>by
    simp only[qA,qT,rP,yc]at hc
    exact kp c o hc.1 hc.2.1 hc.2.2.1 hc.2.2.2 q
  .exact λc o _ _ hc q _=>by
    simp only[qA,qT,rP,yc]at hc
    exact⟨o.slots,kp c o hc.1 hc.2.1 hc.2.2.1 hc.2.2.2 q⟩
  .exact λc o _ q n=>n
  .exact λc o hc q=>by
    simp only[qA,qT,rP,yc]at hc
    exact⟨o,kp c o hc.1 hc.2.1 hc.2.2.1 hc.2.2.2 q⟩
  .exact λc ys q=>q
  .exact λc o u q=>q
  .exact λc ps q=>⟨#[],by rw[q];simp⟩
  .rintro mm ⟨o,es,ep,ho,r⟩
   exact⟨o,es,ep,kp _ o (rm fz.2.1) (rm ft.2.1) (rm f1.2.1) (rm f2.2.1) ho,r⟩
  .intro c v q
   refine(I.hok c v q).ZT (λd o hd r=>?_) (λd r=>r) (λd ys r=>r)
   rcases hd with e|e
   .rw[e]at r ⊢; exact kp c o (ne z v (by simp) c q) (ne tt v (by simp) c q) (ne j1 v (by simp) c q) (ne j2 v (by simp) c q) r
   .exact kp d o (ne z _ (by simp) d e) (ne tt _ (by simp) d e) (ne j1 _ (by simp) d e) (ne j2 _ (by simp) d e) r
 self:=λ_ _ _ _ _ st h=>wpAny_pyIter_zip st.oz h
end L2
end
noncomputable section
namespace L2
open PySem PySem.Spec PyProof.Rows
theorem zne(n:Nat):ZNe (n+4) (n+2) (n+3) n (n+1):=⟨λe=>by have:n+2=n+4:=e;lia,λe=>by have:n+3=n+4:=e;lia,λe=>by have:n=n+4:=e;lia,λe=>by have:n+1=n+4:=e;lia,λe=>by have:n+2=n+3:=e;lia,λe=>by have:n+2=n:=e;lia,λe=>by have:n+2=n+1:=e;lia,λe=>by have:n+3=n:=e;lia,λe=>by have:n+3=n+1:=e;lia,λe=>by have:n=n+1:=e;lia⟩
section
variable{X:Cx}
noncomputable def m6(K:pV)(ta:TA):TI:=λσ H R=>ta σ H λvs H1=>∃k a m b,vs=[.ref a,.ref b]/\(∃xs,SqB K H1 k a xs)/\(∃ys,SqB K H1 m b ys)/\R (Itz K k a m b) H1
theorem eO{a b:qh}{ta:TA}{p pos tp:Pos}{elts:List qh}{n:Nat}(hg:Gl X "zip")(hm:X.mg "zip"=none)(ha:PA X [a,b] ta)(hs:qb [a,b] X.env=[(false,eval a X.env),(false,eval b X.env)]:=by rfl)(hs2:qb [b] X.env=[(false,eval b X.env)]:=by rfl):PI X (.Tuple elts n tp) (.Call (.Name "zip" p) [a,b] [] pos) (m6 X.K ta):=by
 intro pins s σ H R I h
 refine Call_ (JX I hg hm boot_zip (uA (thn (ha pos pins s σ H _ I h) λus s1 ⟨vs,H1,I1,r1,q1⟩=>?_) (by rw[hs,hs2]) (by rw[hs2];rfl)))
 obtain⟨k,a',m,b',e,⟨xs,hq⟩,⟨ys,hr⟩,q⟩:=q1
 subst e
 obtain⟨u,v,rfl,ru,rv⟩:=r1.two
 cases (show u=qz a' from ru)
 cases (show v=qz b' from rv)
 obtain⟨i1,v1,p1⟩:=I1.sqB hq
 obtain⟨i2,v2,p2⟩:=I1.sqB hr
 refine Uc p1 p2 λh' oz oi ot q1 q2 kp=>wpAny_pyIter_zip (s:={s1 with heap:=h'}) oz ?_
 have sq:∀{q:qk} {d:pz} {is:qd pW},MY s1.heap q d is->MY h' q d is:=λ{q d is} x=>by
  cases q
  .exact(show s1.heap.IsList d is from x).at λo e=>kp _ o e
  .obtain⟨o,e,r⟩:=(show s1.heap.IsTuple d is from x)
   exact⟨o,kp _ o e,r⟩
 refine⟨s1.heap.objs.size+4,[s1.heap.objs.size+4,s1.heap.objs.size+2,s1.heap.objs.size+3,s1.heap.objs.size,s1.heap.objs.size+1],_,_,H1,rfl,I1.kept (t':=s1.toks) kp,
  Ws k a' m b' _ _ _ _ _ (zne s1.heap.objs.size),⟨oz,oi,⟨_,_,ot⟩,q1.jit (sq p1),q2.jit (sq p2)⟩,λc hc=>?_,q⟩
 simp only[qA,qT,rP]at hc
 have:s1.heap.objs.size<=c:=by rcases hc with rfl|rfl|rfl|rfl|rfl<;>first|exact p9 _|exact Nat.le_add_right _ _
 exact I1.ZU this (I1.hok.fresh this)
end
end L2
end
noncomputable section
namespace L2
open PySem PySem.Spec PyProof.Rows
section
variable{prog:qa}{w:qq}{A:qx}{E:pW->pX->Prop}{s:pX}
theorem IsList.Q9{h h':qu}{a:pz}{items:qd pW}(p:h.IsList a items)(k:∀o,h.get? a=Gc o->h'.get? a=Gc o):h'.IsList a items:=by
 obtain⟨o,ho,r⟩:=p
 exact⟨o,k o ho,r⟩
theorem Om{it t:pz}{items:qd pW}(hne:t≠it):∀(n i:Nat) (s:pX) (Q:List pW->pX->Prop),s.heap.IsListIter it t i->s.heap.IsList t items->i+n<=items.size->(∀h',h'.IsListIter it t (i+n)->t9 it s.heap h'->Q ((items.toList.drop i).take n) {s with heap:=h'})->wpAny (model prog w) A (draw (.ref it) n) Q E s
 |0,i,s,Q,hit,_,_,hQ=>by
  show wpAny _ _ (pure []) Q E s
  exact pZ (by simpa using hQ s.heap hit (Heap.SameBut.refl ..))
 |n+1,i,s,Q,hit,ht,hle,hQ=>by
  have hlt:i<items.size:=by lia
  show wpAny _ _ (pyNext (.ref it) >>= _) Q E s
  refine Wp (wD hit ht (x:=items[i]) (by simp[hlt]) λh1 hit1 hs1=>?_)
  refine Wp (rB (Om hne n (i+1) _ _ hit1 (IsList.Q9 ht λo e=>hs1.extBut t o hne e) (by lia) λh2 hit2 hs2=>pZ ?_))
  have hd:items.toList.drop i=items[i]::items.toList.drop (i+1):=by simp[sE,hlt]
  have:=hQ h2 (by rw[show i+(n+1)=i+1+n by lia];exact hit2) (hs1.trans hs2)
  rw[hd,List.take_succ_cons]at this
  exact this
theorem Kj{t:pz}{items:qd pW}{Q:List pW->pX->Prop}(hh:A.handled=none)(ht:s.heap.IsList t items)(hty:s.TypeIs (.ref t) "list")(hQ:∀h',vz s.heap.objs.size s.heap h'->Q items.toList {s with heap:=h'}):wpAny (model prog w) A (unpackItems (.ref t) items.size none) Q E s:=by
 have hlt:t≠s.heap.objs.size:=by obtain⟨o,ho,_⟩:=ht;exact qN (qI ho)
 unfold unpackItems
 refine Wp ?_
 .unfold notIterableAtAll
  refine Wp (yq hty F.slot_list_iter.lookup ?_)
  refine pZ ?_
  simp only[sg,ux]
  refine Wp (rB (sM ht ?_))
  refine Wp (rB (Om hlt items.size 0 _ _ ⟨_,qG _ rfl,rfl,rfl⟩ (IsList.Q9 ht λo e=>pU _ e) (by lia) λh1 hit1 hs1=>?_))
  have hall:List.take items.size (List.drop 0 items.toList)=items.toList:=by
   rw[List.drop_zero];exact uB (by simp)
  rw[hall]
  rw[qj (by simp)]
  have ht1:h1.IsList t items:=IsList.Q9 (IsList.Q9 ht λo e=>pU _ e) λo e=>hs1.extBut t o hlt e
  refine Wp (rB (wX hh hit1 ht1 (by simp) λh2 he2=>?_))
  simp only[Option.isSome_none,sg,ux]
  refine pZ (hQ h2 λb o hb e=>he2 b o hb (hs1.extBut b o hb (pU _ e)))
theorem Jl{env:Env}{elts:List qh}{x1}{pos:Pos}{t:pz}{items:qd pW}{Q:Unit->pX->Prop}(hh:A.handled=none)(ht:s.heap.IsList t items)(hty:s.TypeIs (.ref t) "list")(hn:(assignEach elts env).length=items.size)(hstar:(assignEach elts env).findIdx? (·.1)=none)(h:∀h',vz s.heap.objs.size s.heap h'->wpAny (model prog w) A (assignInOrder ((assignEach elts env).map (·.2)) items.toList) Q E {s with heap:=h'}):wpAny (model prog w) A (assign (.Tuple elts x1 pos) env (.ref t)) Q E s:=by
 rw[PyProof.Rows.assign_Tuple]
 refine Wp (uE ?_)
 unfold unpack
 rw[hn,hstar]
 exact Wp (rB (Kj hh ht hty h))
end
section
variable{X:Cx}{pos:Pos}
noncomputable def nE(K:pV)(n:Nat)(t:TGs):TG:=λv σ H Q=>∃a xs,v=.ref a/\(SqT K H a xs\/H a=Gc (.lst xs))/\xs.length=n/\t xs σ H Q
theorem fB{es:List qh}{k:Nat}{t:TGs}{n:Nat}(hc:X.calm=true)(h:PGs X es t)(hn:(assignEach es X.env).length=n:=by rfl)(hst:(assignEach es X.env).findIdx? (·.1)=none:=by rfl):PG X (.Tuple es k pos) (nE X.K n t):=by
 intro pins s σ H v u Q I r hw
 obtain⟨a,xs,e1,hq,hl,hw⟩:=hw
 rcases hq with hq|hq
 .exact gG hc h hn hst pins s σ H v u Q I r ⟨a,xs,e1,hq,hl,hw⟩
 .subst e1
  cases r
  obtain⟨its,rv,p,hz⟩:=I.list (SqL.of hq)
  obtain⟨z,its2,m,rv2,_,e⟩:=I.Yt hq
  refine Jl (I.ok.hd hc) p.isList ⟨_,e,rfl⟩ (by simp[hn,<-hl,rv.length]) hst λh' hx=>?_
  have I1:Inv X pins σ H {s with heap:=h'}:=I.kept (t':=s.toks) λb o e=>hx b o (qN (qI e)) e
  exact h pins _ σ H xs _ Q I1 (by simpa using rv) hw
end
end L2
end
noncomputable section
namespace L2
open PySem PySem.Spec PyProof.Rows
theorem JIt.live{h:qu}{k:qk}{j l:pz}{i:Nat}(q:JIt h k j l i):∃o,h.get? j=Gc o/\∀v,o.data≠.cell v:=by
 cases k with
 |true=>obtain⟨o,e,c,d⟩:=q;exact⟨o,e,λv z=>by rw[d]at z;cases z⟩
 |false=>obtain⟨o,e,c,d⟩:=q;exact⟨o,e,λv z=>by rw[d]at z;cases z⟩
theorem MY.mono{h h':qu}{k:qk}{l:pz}{its:qd pW}(q:MY h k l its)(e:∀o,h.get? l=Gc o->h'.get? l=Gc o):MY h' k l its:=by
 cases k with
 |true=>obtain⟨o,ho,r⟩:=q;exact⟨o,e o ho,r⟩
 |false=>obtain⟨o,ho,r⟩:=q;exact⟨o,e o ho,r⟩
theorem UY{prog:qa}{w:qq}{A:qx}(hh:A.handled=none)(it t:pz)(hne:t≠it)(items:qd pW):Draws prog w A it [it,t] items.size (λi v=>items[i]?=Gc v) (λi h=>SIt h it t i items) where
 live:=λ_ _ st=>let⟨o,ho,_⟩:=st.live;⟨o,ho⟩
 frame:=λ_ _ _ st hk=>st.at (λo e=>hk it (by simp) o e) λo e=>hk t (by simp) o e
 item:=λi s Q E hi st hQ=>Kx st (x:=items[i]) (by simp[hi]) λh' a b=>hQ _ h' s.toks (by simp[hi]) a b
 done:=λs Q E st hE=>Ky hh st (by simp) hE
noncomputable def ItE(K:pV)(kk:qk)(a:pz):It:=
 ⟨λi H=>∃xs x,SqB K H kk a xs/\xs[i]?=Gc x,λi H x H'=>∃p y,H p=none/\x=.ref p/\(∀xs,SqB K H kk a xs->xs[i]?=Gc y)/\H'=upd H p (.tup [.int i,y]),λi H=>∃xs,SqB K H kk a xs/\xs.length<=i⟩
theorem Rn{P:qa}{w:qq}{K:pV}{elts:List qh}{k:Nat}{pos:Pos}(kk:qk)(a e it:pz)(hei:e≠it):Turn P w K (.Tuple elts k pos) (ItE K kk a) [e,it] e (λi h=>(∃old,IsEnum h e it i old)/\JIt h kk it a i) where
 mem:=by simp
 obj:=λi h st b hb=>by
  obtain⟨⟨old,h1⟩,st2⟩:=st
  obtain⟨o,h2,h4⟩:=st2.live
  simp only[qA,qT,rP]at hb
  rcases hb with rfl|rfl
  .exact⟨_,h1,λv z=>nomatch z⟩
  .exact⟨o,h2,h4⟩
 keep:=λi h h' st k=>by
  obtain⟨⟨old,h1⟩,h2⟩:=st
  exact⟨⟨old,k e (by simp) _ h1⟩,h2.at λo q=>k it (by simp) o q⟩
 item:=by
  intro X hP hw hK hc i pins s σ H E I hf st hg
  subst hP hw hK
  obtain⟨xs,x,hq,hx⟩:=hg
  obtain⟨its,rv,p⟩:=I.sqB hq
  obtain⟨u,hu,ru⟩:=rv.get hx
  obtain⟨⟨old,h1⟩,h2⟩:=st
  obtain⟨oi,hi1,hi2⟩:=h2.live
  have hea:a≠e:=Bb I hq (hf e (by simp))
  have hia:a≠it:=Bb I hq (hf it (by simp))
  have hil:i<its.toArray.size:=by
   have:=(qF.mp hu).1
   simpa using this
  have hh:X.A.in1.handled=none:=I.ok.hd hc
  have D:=UY (prog:=X.prog) (w:=X.w) hh it a hia its.toArray
  refine wpAny_pyNext_enum_itemD D h1 (h2.sit p) hil hei (by simp[hei,rm hea]) ?_
  intro y h' tk hy out st' tup size kept
  have ey:y=u:=by
   have:its[i]?=Gc y:=by simpa using hy
   rw[hu]at this
   exact(rG this).symm
  subst ey
  refine⟨_,rfl,wpAny_letOwnedTupleGo_enum out λh'' en sb=>?_⟩
  have hfe:=hf e (by simp)
  have hfi:=hf it (by simp)
  have lt:∀b o,s.heap.get? b=Gc o->b≠s.heap.objs.size:=λb o q=>qN (qI q)
  have kept2:∀b o,b≠e->b≠it->s.heap.get? b=Gc o->h''.get? b=Gc o:=λb o b1 b2 q=>(sb.2 b b1).trans (kept b o b1 b2 q)
  have fr:H s.heap.objs.size=none:=I.hok.fresh (p9 _)
  have tup2:h''.get? s.heap.objs.size=Gc {cls:=.type "tuple",data:=.seq #[.int i tk,y]}:=(sb.2 _ (rm (lt e _ h1))).trans tup
  have ne1:∀b u,H b=Gc u->b≠e:=λb u q z=>by rw[z,hfe.1]at q;cases q
  have ne2:∀b u,H b=Gc u->b≠it:=λb u q z=>by rw[z,hfi.1]at q;cases q
  refine⟨.ref s.heap.objs.size,upd H s.heap.objs.size (.tup [.int i,x]),?_,rfl,⟨_,x,fr,rfl,λys hys=>by rw[I.Qg hys hq];exact hx,rfl⟩,⟨⟨y,en⟩,?_⟩,?_⟩
  .show Inv X pins σ _ {s with heap:=h'',gens:=s.gens,drawn:=s.drawn,toks:=tk+1}
   refine I.step (g':=s.gens) (d':=s.drawn) (ch:=[e,it]) ?_ ?_ ?_ ?_ ?_ ?_ ?_ ?_ ?_ ?_ I.bare
   .intro b hb
    simp only[qA,qT,rP]at hb
    rcases hb with rfl|rfl
    .exact⟨hfe.2.2.2.1,hfe.2.1,hfe.2.2.2.2.1,hfe.2.2.2.2.2⟩
    .exact⟨hfi.2.2.2.1,hfi.2.1,hfi.2.2.2.2.1,hfi.2.2.2.2.2⟩
   .exact λb o _ _ hc q _=>kept2 b o (λz=>hc (by simp[z])) (λz=>hc (by simp[z])) q
   .exact λb o _ _ hc q _=>⟨o.slots,kept2 b o (λz=>hc (by simp[z])) (λz=>hc (by simp[z])) q⟩
   .exact λb o _ q n=>by rw[Aa (lt b o q)];exact n
   .exact λb o hc q=>⟨o,kept2 b o (λz=>hc (by simp[z])) (λz=>hc (by simp[z])) q⟩
   .exact λb ys q=>by rw[Aa (BP q fr)];exact q
   .exact λb o u q=>by rw[Aa (BP q fr)];exact q
   .exact λb ps q=>⟨#[],by rw[Aa (BP q fr),q];simp⟩
   .rintro m ⟨o,es,ep,ho,r⟩
    exact⟨o,es,ep,kept2 _ o (rm hfe.2.1) (rm hfi.2.1) ho,r⟩
   .intro b v q
    by_cases hb:b=s.heap.objs.size
    .subst hb
     rw[Aw]at q
     cases q
     exact⟨by show 2<=sizeLine;decide,[.int i tk,y],.cons ⟨tk,rfl⟩ (.cons ru .nil),⟨_,tup2,rfl,0,rfl⟩⟩
    .rw[Aa hb]at q
     refine(I.hok b v q).ZT (λc z hc r=>kept2 c z ?_ ?_ r) (λc r=>by rw[Aa (BP r fr)];exact r) (λc ys r=>by rw[Aa (BP r fr)];exact r)
     .rcases hc with z|z
      .rw[z];exact ne1 b v q
      .exact ne1 c _ z
     .rcases hc with z|z
      .rw[z];exact ne2 b v q
      .exact ne2 c _ z
  .have pa:MY h'' kk a its.toArray:=p.mono λo q=>kept2 a o hea hia q
   exact(st'.at (λo q=>(sb.2 it (rm hei)).trans q) λo q=>(sb.2 a hea).trans q).jit pa
  .intro b hb
   simp only[qA,qT,rP]at hb
   rcases hb with rfl|rfl
   .rw[Aa (lt b _ h1)];exact hfe.1
   .rw[Aa (lt b _ hi1)];exact hfi.1
 done:=by
  intro X hP hw hK hc i pins s σ H E I hf st hg
  subst hP hw hK
  obtain⟨xs,hq,hx⟩:=hg
  obtain⟨its,rv,p⟩:=I.sqB hq
  obtain⟨⟨old,h1⟩,h2⟩:=st
  have hl:=rv.length
  have hh:X.A.in1.handled=none:=I.ok.hd hc
  obtain⟨f0,f1,f2,f3,f4,f5⟩:=hf it (by simp)
  have D:Draws X.prog X.w X.A.in1 it [it,a] i (λ_ _=>yu) (λj h=>j=i/\SIt h it a i its.toArray):=
   {live:=λ_ _ st=>let⟨o,ho,_⟩:=st.2.live;⟨o,ho⟩
    frame:=λ_ _ _ st hk=>⟨st.1,st.2.at (λo e=>hk it (by simp) o e) λo e=>hk a (by simp) o e⟩
    item:=λj s Q E hj st _=>absurd st.1 (qN hj)
    done:=λs Q E st hE=>Ky hh st.2 (by simp;lia) hE}
  exact wpAny_pyNext_enum_endD D h1 ⟨rfl,h2.sit p⟩ λh' eb=>⟨rfl,I.turned (t':=s.toks) (λb o hb q=>eb b o hb q) f0 f1 f3 f4 f5⟩
 self:=λ_ _ _ _ _ st h=>by
  obtain⟨⟨old,h1⟩,_⟩:=st
  exact wpAny_pyIter_enum h1 h
section
variable{X:Cx}
noncomputable def dz(K:pV)(ta:TA):TI:=λσ H R=>ta σ H λvs H1=>∃kk a,vs=[.ref a]/\(∃xs,SqB K H1 kk a xs)/\R (ItE K kk a) H1
theorem YR{a:qh}{ta:TA}{p pos tp:Pos}{elts:List qh}{k:Nat}(hg:Gl X "enumerate")(hm:X.mg "enumerate"=none)(ha:PA X [a] ta)(hs:qb [a] X.env=[(false,eval a X.env)]:=by rfl):PI X (.Tuple elts k tp) (.Call (.Name "enumerate" p) [a] [] pos) (dz X.K ta):=by
 intro pins s σ H R I h
 refine Call_ (JX I hg hm boot_enumerate (callWith_type1 (thn (ha pos pins s σ H _ I h) λus s1 ⟨vs,H1,I1,r1,q1⟩=>?_) hs rfl))
 obtain⟨kk,b,e,⟨xs,hq⟩,q⟩:=q1
 subst e
 obtain⟨u,rfl,ru⟩:=r1.one
 cases (show u=qz b from ru)
 obtain⟨its,rv,pt⟩:=I1.sqB hq
 have fin:∀h':qu,IsEnum h' (s1.heap.objs.size+1) s1.heap.objs.size 0 .none->JIt h' kk s1.heap.objs.size b 0->(∀b o,s1.heap.get? b=Gc o->h'.get? b=Gc o)->wpAny (model X.prog X.w) X.A (pyIter (.ref (s1.heap.objs.size+1))) (PIE X pins σ (.Tuple elts k tp) R) X.xe {s1 with heap:=h'}:=λh' en it kp=>by
  refine wpAny_pyIter_enum (s:={s1 with heap:=h'}) en ?_
  refine⟨s1.heap.objs.size+1,[s1.heap.objs.size+1,s1.heap.objs.size],_,_,H1,rfl,I1.kept (t':=s1.toks) kp,Rn kk b (s1.heap.objs.size+1) s1.heap.objs.size (Nat.succ_ne_self _),⟨⟨_,en⟩,it⟩,λc hc=>?_,q⟩
  simp only[qA,qT,rP]at hc
  rcases hc with rfl|rfl
  .exact I1.ZU (by lia) (I1.hok.fresh (by lia))
  .exact I1.ZU (p9 _) (I1.hok.fresh (p9 _))
 cases kk with
 |true=>exact SD (show s1.heap.IsTuple b its.toArray from pt) λh' en it kp=>fin h' en it kp
 |false=>exact call_enumerate_list (show s1.heap.IsList b its.toArray from pt) λh' en it _ kp=>fin h' en it kp
end
end L2
end
noncomputable section
namespace L2
open PySem PySem.Spec PyProof.Rows PySem.SeqAt
open AutoSeq1 (wpAny_loadPart')
open MeetsSeq
abbrev MR(dt:xU)(dd:pY pz)(sl:qd (pY pW)):Obj:={cls:=.type "dict",dict:=dd,data:=dt,slots:=sl}
theorem Pk(l:pz)(dt:xU)(dd:pY pz)(sl:qd (pY pW))(b:Int)(u:Tok):Meets (sQ.«dict.__eq__» ⟨[.ref l,.int b u],[]⟩) (λ_ R s=>s.heap.get? l=Gc (MR dt dd sl)/\R (.ok (.ret .notImplemented)) s):=
 .of_wp λprog w A R s h=>by obtain⟨hp,g,d,tk,os⟩:=s;obtain⟨hl,h⟩:=h;have f1:=F.sub_int_dict;wp_walk using wpAny_loadPart' hl;exact⟨_,rfl,h⟩
theorem Pe(T:tZ)(l b:pz)(dt:xU)(dd:pY pz)(sl:qd (pY pW))(ob:Obj)(hT:ob.cls=.type T)(hs:isSubtype (.type T) (.type "dict")=pure false):Meets (sQ.«dict.__eq__» ⟨[.ref l,.ref b],[]⟩) (λ_ R s=>s.heap.get? l=Gc (MR dt dd sl)/\s.heap.get? b=Gc ob/\R (.ok (.ret .notImplemented)) s):=
 .of_wp λprog w A R s h=>by
  obtain⟨hp,g,d,tk,os⟩:=s;obtain⟨hl,hb,h⟩:=h
  obtain⟨oc,od,odt,osl⟩:=ob
  simp only at hT
  subst hT
  wp_walk using wpAny_loadPart' hl,wpAny_loadPart' hb
  exact⟨_,rfl,h⟩
theorem O3(b:Int)(u:Tok)(l:pz)(dt:xU)(dd:pY pz)(sl:qd (pY pW)):Meets (sQ.«int.__eq__» ⟨[.int b u,.ref l],[]⟩) (λ_ R s=>s.heap.get? l=Gc (MR dt dd sl)/\(∃es ep,dt=.dict es ep)/\R (.ok (.ret .notImplemented)) s):=
 .of_wp λprog w A R s h=>by
  obtain⟨hp,g,d,tk,os⟩:=s;obtain⟨hl,⟨es,ep,rfl⟩,h⟩:=h
  wp_walk using wpAny_loadPart' hl,z0 hl
  exact⟨_,rfl,h⟩
theorem MT(l b:pz)(items:qd pW)(n:Nat)(dd:pY pz)(sl:qd (pY pW))(dt:xU)(dd2:pY pz)(sl2:qd (pY pW)):Meets (sQ.«tuple.__eq__» ⟨[.ref l,.ref b],[]⟩) (λ_ R s=>s.heap.get? l=Gc {cls:=.type "tuple",dict:=dd,data:=.seq items n,slots:=sl}/\s.heap.get? b=Gc (MR dt dd2 sl2)/\R (.ok (.ret .notImplemented)) s):=
 .of_wp λprog w A R s h=>by obtain⟨hp,g,d,tk,os⟩:=s;obtain⟨hl,hb,h⟩:=h;have f1:=F.sub_dict_tuple;wp_walk using wpAny_loadPart' hl,wpAny_loadPart' hb;exact⟨_,rfl,h⟩
section
variable{A:qx}{s:pX}{l:pz}{es:qd DictEntry}{ep:Nat}{dd:pY pz}{sl:qd (pY pW)}
end
end L2
end
noncomputable section
namespace St
open PySem PySem.Spec L2 PyProof.Rows
inductive Kd where
 |non|bl|int|str|tup|lst|dct
 deriving zB
noncomputable def Kd.ty:Kd->tZ
 | .non=>"NoneType" | .bl=>"bool" | .int=>"int" | .str=>"str" | .tup=>"tuple" | .lst=>"list" | .dct=>"dict"
noncomputable def Kd.isA:Kd->tZ->qk
 | .bl,"bool"=>true| .bl,"int"=>true| .int,"int"=>true| .str,"str"=>true| .tup,"tuple"=>true| .lst,"list"=>true| .dct,"dict"=>true
 |_,_=>false
section
variable{K:pV}
theorem cF(k:Kd):uK K (.type k.ty) (.type "int")=Gc (k.isA "int"):=by
 cases k<;>first|rfl|(unfold uK;rfl)
theorem WS(k:Kd):uK K (.type k.ty) (.type "bool")=Gc (k.isA "bool"):=by
 cases k<;>rfl
theorem kit_tuple(k:Kd):uK K (.type k.ty) (.type "tuple")=Gc (k.isA "tuple"):=by
 cases k<;>rfl
theorem cT(k:Kd):uK K (.type k.ty) (.type "str")=Gc (k.isA "str"):=by
 cases k<;>rfl
end
structure Dfn(P:qa)(w:qq)(K:pV)(mg:Str->pY pW)(base:qu)(x:Str)(k:Nat)(ps:List Str)(sp:Sp):Prop where
 ex:∃f fd,mg x=Gc (.ref f)/\uJ K (.ref f)=true/\Binds K fd ps []/\PU P w K mg base CX0 k f fd ps sp
structure Src(K:pV)(mg:Str->pY pW)(x:Str)(st:rO):Prop where
 ex:∃f fd,Fun K x x st f fd/\mg x=Gc (.ref f)
theorem kO{X:Cx}{k:Nat}{x:Str}{ps:List Str}{sp:Sp}{e:qh}{es:List qh}{t:TA}{p pos:Pos}(d:Dfn X.prog X.w X.K X.mg X.base x k ps sp)(hr:MM k X.A)(hg:Gl X x)(ha:PA X (e::es) t)(hdb:(x==("__debug__":Str))=false:=by decide)(he:qb (e::es) X.env=(false,eval e X.env)::qb es X.env:=by rfl)(hpl:(backTo pos (qb es X.env)).any (·.1)=false:=by rfl):PE X (.Call (.Name x p) (e::es) [] pos) (ak sp [] E0 t):=by
 obtain⟨f,fd,a,b,c,F⟩:=d.ex
 exact bz F hr hg a b c .nil lG ha hdb he hpl
section
variable{X:Cx}
theorem Z2{n:Nat}(h:n<2^8000):n.log2<9000:=by
 by_cases h0:n=0
 .subst h0;decide
 .exact tJ ((Nat.log2_lt h0).mpr h) (by decide)
theorem XF:OpR X (binaryOp .FloorDiv) (rI (λ_ j=>0<j/\j.natAbs<2^8000) λi j=>.int (i / j)):=opI λi j _ _ _ _ _ hc q=>by
 have h1:(0:Int)<j:=hc.1
 exact floordiv_int (by lia) (by rw[Int.fdiv_eq_ediv_of_nonneg i (by lia)];exact q) (.inl (PyProof.noPylong_of_log2 (Z2 hc.2)))
theorem Jr{prog:qa}{w:qq}{A:qx}(hh:A.handled=none){a it:pz}(hne:a≠it){vs:List pW}:Walks prog w A it [it,a] [it] vs.length (λi v=>vs[i]?=Gc v) (λi h=>h.IsListIter it a i/\h.IsList a vs.toArray) where
 sub:=λb hb=>by simp at hb;simp[hb]
 frame:=λi h h' st k=>⟨st.1.at λo e=>k it (by simp) o e,by
  obtain⟨o,ho,r⟩:=st.2
  exact⟨o,k a (by simp) o ho,r⟩⟩
 item:=λi s Q E hi st hQ=>by
  refine wD st.1 st.2 (x:=vs[i]) (by simp[hi]) λh' st' sb=>?_
  refine hQ _ h' s.toks (by simp[hi]) ⟨st',?_⟩ λb o hb e=>(sb.2 b (by simpa using hb)).trans e
  obtain⟨o,ho,r⟩:=st.2
  exact⟨o,(sb.2 a hne).trans ho,r⟩
 done:=λs Q E st hQ=>wX hh st.1 st.2 (by simp) λh' eb=>hQ h' s.toks λb o hb e=>eb b o (by simpa using hb) e
 self:=λi s Q E st hQ=>yv st.1 hQ
theorem TM(hc:X.calm=true):Ds X (.builtin "all") (λxs H Q=>∃(p:pz) (bs:List qk),xs=[.ref p]/\SqL X.K H p (bs.map V.bl)/\Q (.bl (bs.all id)) H):=by
 intro pins s σ H xs us Q I r h
 obtain⟨p,bs,rfl,hp,q⟩:=h
 obtain⟨u,rfl,ru⟩:=r.one
 cases (show u=qz p from ru)
 obtain⟨its,rv,pl,hz⟩:=I.list hp
 have hd:X.A.in1.handled=none:=I.ok.hd hc
 refine call_all_walk (sM pl.isList ?_)
 have hlen:bs.length=its.length:=by have:=rv.length;simpa using this
 have hpl:=pl.isList
 have hne:p≠s.heap.objs.size:=by
  obtain⟨o,ho,_⟩:=hpl
  exact qN (qI ho)
 refine⟨s.heap.objs.size,_,_,its.length,_,_,λi=>bs.getD i true,rfl,Jr (vs:=its) hd hne,⟨⟨_,qG _ rfl,rfl,rfl⟩,?_⟩,?_,?_⟩
 .obtain⟨o,ho,r⟩:=hpl
  exact⟨o,pU _ ho,r⟩
 .intro i v s' Q' E' hv hq
  have hi:i<its.length:=(qF.mp hv).1
  have hb:(bs.map V.bl)[i]?=Gc (.bl (bs.getD i true)):=by
   rw[qf,pf (by lia)]
   simp[qJ,pf (show i<bs.length by lia)]
  obtain⟨u,hu,ru⟩:=rv.get hb
  rw[hv]at hu
  cases hu
  cases (show v=xM _ from ru)
  exact ua hq
 .intro h' tk hk
  have e:(qR its.length).all (λi=>bs.getD i true)=bs.all id:=by
   rw[<-hlen]
   clear q hp rv hlen
   have:∀(l:List qk),(qR l.length).all (λi=>l.getD i true)=l.all id:=by
    intro l
    induction l with
    |nil=>rfl
    |cons b l ih=>
     rw[qg,wM,uF,yd,uF,<-ih]
     rfl
   exact this bs
  rw[e]
  exact⟨.bl _,H,I.kept (t':=tk) λb o eb=>hk b o (by simp;exact qN (qI eb)) (pU _ eb),rfl,q⟩
theorem Xc{ns:List Int}{j:Nat}(h:j<ns.length):(ns.take (j+1)).sum=(ns.take j).sum+ns.getD j 0:=by
 have e:ns.getD j 0=ns[j]:=by simp[qJ,pf h]
 rw[List.take_succ,pf h,List.sum_append,e]
 show _+(ns[j]+0)=_
 lia
theorem Ls{ns:List Int}:∀{j:Nat},j<=ns.length->preSum (λi=>ns.getD i 0) j=(ns.take j).sum
 |0,_=>by simp[preSum]
 |j+1,h=>by
  rw[preSum,Ls (by lia),Xc (by lia)]
theorem UB{ns:List Int}(h:∀n∈ns,0<=n/\n<=1000000):0<=ns.sum/\ns.sum<=1000000*ns.length:=by
 induction ns with
 |nil=>simp
 |cons a l ih=>
  have h1:=h a (by simp)
  have h2:=ih λn hn=>h n (by simp[hn])
  rw[vP,qg]
  have:((l.length+1:Nat):Int)=(l.length:Int)+1:=by lia
  lia
end
section
variable{prog:qa}{w:qq}{A:qx}{E:pW->pX->Prop}{s:pX}
theorem Jo{t sl:pz}{items:qd pW}{vl vu:pW}{lo hi:pY Int}{Q:pW->pX->Prop}(ht:IsTup s.heap t items)(hs:s.heap.IsSliceOf sl vl vu .none)(pl:yZ vl lo)(pu:yZ vu hi)(hw:HT.sIx items.size 0 lo=0/\HT.sIx items.size items.size hi=items.size)(h:Q (.ref t) s):wpAny (model prog w) A (getItem (.ref t) (.ref sl)) Q E s:=by
 obtain⟨os,hos,hcs,hds⟩:=id hs
 have hTs:s.TypeIs (.ref sl) "slice":=⟨os,hos,hcs⟩
 unfold getItem
 try with_reducible refine rB ?_
 first|refine Wp (pZ ?_)|skip
 refine Wp (xq ht.typeIs (by decide) ?_)
 refine Wp (rC (name:=rK "__getitem__") ht.typeIs qp
  (q9 qp ht.typeIs xD ?_ (xR _ _)))
 show wpAny _ _ (vV (.ref t) >>= _) _ _ s
 refine Wp (zo ht ?_)
 refine Wp (vF hTs ?_)
 rw[qc (by decide)]
 refine Wp (HT.HF hs pl pu ?_)
 show wpAny _ _ (if(((HT.sIx items.size 0 lo:Nat):Int)==0 && (1:Int)==1 && (HT.sIx items.size items.size hi-HT.sIx items.size 0 lo)==items.size)=true then _ else _) _ _ s
 rw[qc (by rw[hw.1,hw.2];simp)]
 unfold Builtin.Tuple.tupleIsExact
 refine Wp (Wp (vF ht.typeIs (pZ ?_)))
 rw[qc (by decide)]
 exact Wp (uh (pZ ⟨_,rfl,pZ h⟩))
theorem Kg{sl:pz}{u:Tok}{n:Nat}{Q:Int×Int×Nat->pX->Prop}(hs:s.heap.IsSliceOf sl .none .none (.int (-1) u))(h:Q ((n:Int)-1,-1,n) s):wpAny (model prog w) A (uN (.ref sl) (pure (n:Int))) Q E s:=by
 obtain⟨os,hos,hcs,hds⟩:=id hs
 unfold uN xg
 refine Wp (Wp (si hos hds (x:=.none) rfl (Wp (si hos hds (x:=.none) rfl (Wp (si hos hds (x:=.int (-1) u) rfl (pZ ?_)))))))
 refine Wp (slicePart_int ?_)
 show wpAny _ _ (if((-1:Int)==0)=true then _ else _) _ _ s
 rw[qj (by decide)]
 refine Wp (xQ (Wp (xQ (Wp (pZ ?_)))))
 show wpAny _ _ (match sU none none (-1) (n:Int)with|(lo,hi)=>pure (lo,(-1:Int),rT lo hi (-1))) _ _ s
 have e:sU none none (-1) (n:Int)=((n:Int)-1,-1):=by
  unfold sU
  have h1:((-1:Int)<0):=by decide
  simp only[h1,wJ]
 rw[e]
 have e2:rT ((n:Int)-1) (-1) (-1)=n:=by
  unfold rT
  have h1:¬((-1:Int)>0):=by decide
  simp only[h1,ux]
  by_cases h0:n=0
  .subst h0;rfl
  .rw[qc (by lia)]
   have:(-(-1):Int)=1:=rfl
   rw[this,Int.ediv_one]
   lia
 show wpAny _ _ (pure ((n:Int)-1,(-1:Int),rT ((n:Int)-1) (-1) (-1))) _ _ s
 rw[e2]
 exact pZ h
noncomputable def OS(n:Nat)(k:Nat):Nat:=((n:Int)-1+(k:Int)*(-1)).toNat
theorem Jp{t sl:pz}{items:qd pW}{u:Tok}{Q:pW->pX->Prop}(ht:IsTup s.heap t items)(hs:s.heap.IsSliceOf sl .none .none (.int (-1) u))(hz:items.size<=sizeLine)(h:Q (.ref s.heap.objs.size) {s with heap:=s.heap.push {cls:=.type "tuple",data:=.seq ((qR items.size).filterMap λk=>items[OS items.size k]?).toArray}}):wpAny (model prog w) A (getItem (.ref t) (.ref sl)) Q E s:=by
 obtain⟨os,hos,hcs,hds⟩:=id hs
 have hTs:s.TypeIs (.ref sl) "slice":=⟨os,hos,hcs⟩
 have htake:sizeOk (.seq ((qR items.size).filterMap λk=>items[OS items.size k]?).toArray):=by
  show((qR items.size).filterMap λk=>items[OS items.size k]?).toArray.size<=sizeLine
  rw[qK]
  refine qD (sZ _ _) ?_
  rw[tY]
  exact hz
 unfold getItem
 try with_reducible refine rB ?_
 first|refine Wp (pZ ?_)|skip
 refine Wp (xq ht.typeIs (by decide) ?_)
 refine Wp (rC (name:=rK "__getitem__") ht.typeIs qp
  (q9 qp ht.typeIs xD ?_ (xR _ _)))
 show wpAny _ _ (vV (.ref t) >>= _) _ _ s
 refine Wp (zo ht ?_)
 refine Wp (vF hTs ?_)
 rw[qc (by decide)]
 refine Wp (Kg hs ?_)
 show wpAny _ _ (if(((items.size:Int)-1)==0 && (-1:Int)==1 && items.size==items.size)=true then _ else _) _ _ s
 rw[qj (by rw[show((-1:Int)==1)=false from rfl,zE,Bool.false_and];decide)]
 first
  |exact Wp (m:=rV _) (qr (pZ ⟨_,rfl,pZ h⟩) htake)
  |exact Wp (m:=rV _) (qr (Wp (pZ (pZ ⟨_,rfl,pZ h⟩))) htake)
  |exact Wp (Wp (m:=rV _) (qr (pZ (pZ ⟨_,rfl,pZ h⟩)) htake))
  |exact Wp (Wp (m:=rV _) (qr (pZ ⟨_,rfl,pZ h⟩) htake))
end
section
variable{X:Cx}
def nG(K:pV):V->pY Int->pY Int->Hp->VK->Prop:=λx lo hi H Q=>∃a xs,x=.ref a/\SqT K H a xs/\HT.sIx xs.length 0 lo=0/\HT.sIx xs.length xs.length hi=xs.length/\Q x H
theorem fq:SlR X (nG X.K):=by
 intro pins s σ H x v vl vu lo hi sl Q I rx hs pl pu h
 obtain⟨a,xs,rfl,hx,h1,h2,q⟩:=h
 cases rx
 obtain⟨its,r,ht,hz⟩:=I.tuple hx
 have hlen:its.toArray.size=xs.length:=by rw[qK];exact r.length.symm
 refine⟨"tuple",_,qp.lookup,ht.typeIs,?_⟩
 exact Jo ht hs pl pu (by rw[hlen];exact⟨h1,h2⟩) ⟨.ref a,H,I,rfl,q⟩
noncomputable def ko(K:pV):R2:=λx y H Q=>∃a b ys,x=.ref a/\y=.ref b/\SqT K H a []/\SqT K H b ys/\Q (.ref b) H
theorem Z5:OpR X (binaryOp .Add) (ko X.K):=by
 intro pins s σ H x y v u Q I rx ry h
 obtain⟨a,b,ys,rfl,rfl,ha,hb,q⟩:=h
 cases rx
 cases ry
 obtain⟨its,r1,p1,_⟩:=I.tuple ha
 obtain⟨its2,r2,p2,_⟩:=I.tuple hb
 have e0:its=[]:=r1.Nh.mpr rfl
 subst e0
 obtain⟨⟨cls,dd,data,sl⟩,ho,hc,n,hd⟩:=id p1
 obtain⟨⟨cls2,dd2,data2,sl2⟩,ho2,hc2,n2,hd2⟩:=id p2
 simp only at hc hd hc2 hd2
 subst hc hd hc2 hd2
 exact concat_meets ⟨_,ho,rfl⟩ ⟨_,ho2,rfl⟩ yM zm wI vy (vh _ _)
  (tuple_addW0 a b #[] its2.toArray n n2 dd dd2 sl sl2 rfl) ⟨ho,ho2,⟨.ref b,H,I,rfl,q⟩⟩
theorem Vals.pick{xs:List V}{us:List pW}(r:Vals xs us)(f:Nat->Nat):∀ks:List Nat,Vals (ks.filterMap λk=>xs[f k]?) (ks.filterMap λk=>us[f k]?)
 | []=>.nil
 |k::ks=>by
  have ih:=Vals.pick r f ks
  rw[qY,qY]
  cases e:xs[f k]? with
  |none=>rw[r.none_of e];exact ih
  |some x=>
   obtain⟨u,hu,ru⟩:=r.get e
   rw[hu]
   exact .cons ru ih
end
end St
end
noncomputable section
namespace Mi
open PySem PySem.Spec L2
inductive D where
 |non|bl (b:qk)|int (i:Int)|str (x:Str)|ty (n:tZ)|tup (ds:List D)|lst (ds:List D)|dct (kvs:List (Key×D))|scr (ns:List Int)|ref (n:Nat)
inductive Wv where
 |val (d:D)|own (ds:List D)
inductive Cl where
 |lst (ds:List D)|dct (kvs:List (Key×D))|tab (x:Str)
abbrev Sto:=List Cl
structure Ms where
 cel:List pz
 tmp:List pz
def Ms.mem(M:Ms)(a:pz):Prop:=a∈M.cel\/a∈M.tmp
noncomputable def Ms.no:Ms:=⟨[],[]⟩
theorem Ms.Zj{a:pz}:¬Ms.no.mem a:=λz=>z.elim (λz=>by cases z) λz=>by cases z
def KL(K:pV)(a:pz)(xs:List V):Prop:=∃(o:Obj) (its:qd pW) (n:Nat),K.lookup a=Gc o/\o.cls=.type "list" /\o.dict=none/\o.data=.seq its n/\its.size<=sizeLine/\Vals xs its.toList
mutual
inductive C5(K:pV)(M:Ms)(H:Hp):V->D->Prop
 |non:C5 K M H .non .non
 |bl (b:qk):C5 K M H (.bl b) (.bl b)
 |int (i:Int):C5 K M H (.int i) (.int i)
 |str (x:Str):C5 K M H (.str x) (.str x)
 |ty (n:tZ):C5 K M H (.ty n) (.ty n)
 |tup {a:pz} {xs:List V} {ds:List D} (h:SqT K H a xs) (r:Ao K M H xs ds):C5 K M H (.ref a) (.tup ds)
 |lst {a:pz} {xs:List V} {ds:List D} (h:H a=Gc (.lst xs)) (n:¬M.mem a) (r:Ao K M H xs ds):C5 K M H (.ref a) (.lst ds)
 |scr {a:pz} {ns:List Int} (h:(Rd H a (.lst (ns.map V.int))/\¬M.mem a)\/KL K a (ns.map V.int)):C5 K M H (.ref a) (.scr ns)
 |dct {a:pz} {kvs:List (Key×V)} {es:List (Key×D)} (h:H a=Gc (.dK kvs)) (n:¬M.mem a) (r:BZ K M H kvs es):C5 K M H (.ref a) (.dct es)
 |ref {a:pz} {n:Nat} (h:M.cel[n]?=Gc a):C5 K M H (.ref a) (.ref n)
inductive Ao(K:pV)(M:Ms)(H:Hp):List V->List D->Prop
 |nil:Ao K M H [] []
 |cons {v:V} {d:D} {vs:List V} {ds:List D} (h:C5 K M H v d) (t:Ao K M H vs ds):Ao K M H (v::vs) (d::ds)
inductive BZ(K:pV)(M:Ms)(H:Hp):List (Key×V)->List (Key×D)->Prop
 |nil:BZ K M H [] []
 |cons {k:Key} {v:V} {d:D} {vs:List (Key×V)} {ds:List (Key×D)} (h:C5 K M H v d) (t:BZ K M H vs ds):BZ K M H ((k,v)::vs) ((k,d)::ds)
end
def MOk(M:Ms)(H:Hp):Prop:=∀a,M.mem a->(∃xs,H a=Gc (.lst xs))\/(∃kvs,H a=Gc (.dK kvs))\/∃ps,H a=Gc (.tbl ps)
structure Sp1(M:Ms)(H:Hp)(M':Ms)(H':Hp):Prop where
 mo:MOk M H
 pre:M.cel <+: M'.cel
 fresh:∀a,M'.mem a->M.mem a\/H a=none
 keep:∀a o,H a=Gc o->¬M.mem a->H' a=Gc o
structure Gr(M:Ms)(H:Hp)(M':Ms)(H':Hp):Prop where
 mo:MOk M H
 pre:M.cel <+: M'.cel
 tmp:M'.tmp=M.tmp
 fresh:∀a,a∈M'.cel->a∈M.cel\/H a=none
 keep:∀a o,H a=Gc o->a∉M.cel->H' a=Gc o
 some:∀a,H a≠none->H' a≠none
section
variable{K:pV}{M M' M2:Ms}{H H' H2:Hp}
theorem MOk.some(mo:MOk M H){a:pz}(h:M.mem a):H a≠none:=λz=>by
 rcases mo a h with⟨xs,e⟩|⟨xs,e⟩|⟨xs,e⟩<;>(rw[e]at z;cases z)
theorem Gr.st(g:Gr M H M' H'):Sp1 M H M' H':=⟨g.mo,g.pre,λa z=>z.elim (λz=>(g.fresh a z).imp .inl id) λz=>.inl (.inr (by rw[<-g.tmp];exact z)),λa o e n=>g.keep a o e λz=>n (.inl z)⟩
theorem Gr.refl(mo:MOk M H):Gr M H M H:=⟨mo,rL,rfl,λ_ z=>.inl z,λ_ _ e _=>e,λ_ e=>e⟩
theorem Gr.none(g:Gr M H M' H'){a:pz}(h:H' a=none):H a=none:=by
 cases e:H a with
 |none=>rfl
 |some o=>exact absurd h (g.some a (by rw[e];intro z;cases z))
theorem Gr.trans(h:Gr M H M' H')(g:Gr M' H' M2 H2):Gr M H M2 H2:=
 ⟨h.mo,h.pre.trans g.pre,g.tmp.trans h.tmp,λa z=>(g.fresh a z).elim (h.fresh a) λz=>.inr (h.none z),λa o e n=>g.keep a o (h.keep a o e n) (λz=>by
   rcases h.fresh a z with z|z
   .exact n z
   .rw[e]at z;cases z),λa e=>g.some a (h.some a e)⟩
theorem Gr.grow(mo:MOk M H)(k:∀a o,H a=Gc o->H' a=Gc o):Gr M H M H':=
 ⟨mo,rL,rfl,λ_ z=>.inl z,λb u eb _=>k b u eb,λb eb z=>by
   cases h:H b with
   |none=>exact eb h
   |some o=>rw[k b o h]at z;cases z⟩
theorem L8{α:Type}{xs ys:List α}(h:xs <+: ys){n:Nat}{a:α}(e:xs[n]?=Gc a):ys[n]?=Gc a:=by
 obtain⟨zs,rfl⟩:=h
 rw[pq (qF.mp e).1]
 exact e
theorem Wy{a:pz}{xs:List V}(h:SqT K H a xs)(k:∀b o,H b=Gc o->(∀ys,o≠.lst ys)->(∀ys,o≠.dK ys)->(∀ys,o≠.tbl ys)->H' b=Gc o):SqT K H' a xs:=by
 rcases h with h|h
 .rcases h with h|⟨o,h⟩
  .exact .inl (.inl (k _ _ h (λys z=>by cases z) (λys z=>by cases z) λys z=>by cases z))
  .exact .inl (.inr ⟨o,k _ _ h (λys z=>by cases z) (λys z=>by cases z) λys z=>by cases z⟩)
 .exact .inr h
theorem Sp1.sqT(g:Sp1 M H M' H'){a:pz}{xs:List V}(h:SqT K H a xs):SqT K H' a xs:=Wy h λb o e n1 n2 n3=>g.keep b o e λz=>by
 rcases g.mo b z with⟨ys,q⟩|⟨ys,q⟩|⟨ys,q⟩
 .exact n1 ys (rG (e.symm.trans q))
 .exact n2 ys (rG (e.symm.trans q))
 .exact n3 ys (rG (e.symm.trans q))
theorem Sp1.nm(g:Sp1 M H M' H'){a:pz}{o:HO}(e:H a=Gc o)(n:¬M.mem a):¬M'.mem a:=λz=>by
 rcases g.fresh _ z with z|z
 .exact n z
 .rw[z]at e;cases e
theorem C5.step(g:Sp1 M H M' H'){v:V}{d:D}(h:C5 K M H v d):C5 K M' H' v d:=
 C5.rec (motive_1:=λv d _=>C5 K M' H' v d) (motive_2:=λv d _=>Ao K M' H' v d) (motive_3:=λv d _=>BZ K M' H' v d) .non .bl .int .str .ty (λh _ r=>.tup (g.sqT h) r) (λh n _ r=>.lst (g.keep _ _ h n) (g.nm h n) r) (λh=>by
  rcases h with⟨h,n⟩|h
  .rcases h with h|⟨o,h⟩
   .exact .scr (.inl ⟨.inl (g.keep _ _ h n),g.nm h n⟩)
   .exact .scr (.inl ⟨.inr ⟨o,g.keep _ _ h n⟩,g.nm h n⟩)
  .exact .scr (.inr h)) (λh n _ r=>.dct (g.keep _ _ h n) (g.nm h n) r) (λh=>.ref (L8 g.pre h)) .nil (λ_ _ h t=>.cons h t) .nil (λ_ _ h t=>.cons h t) h
theorem Ao.ind{P:List V->List D->Prop}(n:P [] [])(c:∀{v:V} {d:D} {vs:List V} {ds:List D},C5 K M H v d->P vs ds->P (v::vs) (d::ds)){vs:List V}{ds:List D}(h:Ao K M H vs ds):P vs ds:=
 Ao.rec (motive_1:=λ_ _ _=>yu) (motive_2:=λv d _=>P v d) (motive_3:=λ_ _ _=>yu) trivial (λ_=>trivial) (λ_=>trivial) (λ_=>trivial) (λ_=>trivial) (λ_ _ _=>trivial) (λ_ _ _ _=>trivial) (λ_=>trivial) (λ_ _ _ _=>trivial) (λ_=>trivial) n (λh _ _ t=>c h t) trivial (λ_ _ _ _=>trivial) h
theorem BZ.ind{P:List (Key×V)->List (Key×D)->Prop}(n:P [] [])(c:∀{k:Key} {v:V} {d:D} {vs:List (Key×V)} {ds:List (Key×D)},C5 K M H v d->P vs ds->P ((k,v)::vs) ((k,d)::ds)){vs:List (Key×V)}{ds:List (Key×D)}(h:BZ K M H vs ds):P vs ds:=
 BZ.rec (motive_1:=λ_ _ _=>yu) (motive_2:=λ_ _ _=>yu) (motive_3:=λv d _=>P v d) trivial (λ_=>trivial) (λ_=>trivial) (λ_=>trivial) (λ_=>trivial) (λ_ _ _=>trivial) (λ_ _ _ _=>trivial) (λ_=>trivial) (λ_ _ _ _=>trivial) (λ_=>trivial) trivial (λ_ _ _ _=>trivial) n (λh _ _ t=>c h t) h
theorem Ao.step(g:Sp1 M H M' H'){v:List V}{d:List D}(h:Ao K M H v d):Ao K M' H' v d:=h.ind .nil λh t=>.cons (h.step g) t
theorem BZ.step(g:Sp1 M H M' H'){v:List (Key×V)}{d:List (Key×D)}(h:BZ K M H v d):BZ K M' H' v d:=h.ind .nil λh t=>.cons (h.step g) t
theorem Ao.length:∀{v:List V} {d:List D},Ao K M H v d->v.length=d.length
 |_,_,.nil=>rfl
 |_,_,.cons _ t=>by simp[Ao.length t]
theorem Ao.get:∀{v:List V} {d:List D} {i:Nat} {y:D},Ao K M H v d->d[i]?=Gc y->∃x,v[i]?=Gc x/\C5 K M H x y
 |_,_,i,y,.nil,e=>by simp at e
 |_,_,0,y,.cons h t,e=>by simp at e;subst e;exact⟨_,rfl,h⟩
 |_,_,i+1,y,.cons h t,e=>by
  obtain⟨x,h1,h2⟩:=Ao.get (i:=i) t (by simpa using e)
  exact⟨x,by simpa using h1,h2⟩
theorem Ao.append:∀{v v':List V} {d d':List D},Ao K M H v d->Ao K M H v' d'->Ao K M H (v++v') (d++d')
 |_,_,_,_,.nil,s=>s
 |_,_,_,_,.cons h t,s=>.cons h (Ao.append t s)
theorem Ao.take:∀{v:List V} {d:List D} (n:Nat),Ao K M H v d->Ao K M H (v.take n) (d.take n)
 |_,_,0,_=>.nil
 |_,_,_+1,.nil=>.nil
 |_,_,n+1,.cons h t=>.cons h (Ao.take n t)
theorem Ao.drop:∀{v:List V} {d:List D} (n:Nat),Ao K M H v d->Ao K M H (v.drop n) (d.drop n)
 |_,_,0,r=>r
 |_,_,_+1,.nil=>.nil
 |_,_,n+1,.cons _ t=>Ao.drop n t
theorem Ao.set{x:V}{y:D}(r:C5 K M H x y):∀{v:List V} {d:List D} (i:Nat),Ao K M H v d->Ao K M H (v.set i x) (d.set i y)
 |_,_,_,.nil=>.nil
 |_,_,0,.cons _ t=>.cons r t
 |_,_,i+1,.cons q t=>.cons q (Ao.set r i t)
end
abbrev En:=List (pY D)
abbrev Sg:=List (pY V)
structure EnR(K:pV)(M:Ms)(E:En)(σ:Sg)(H:Hp):Prop where
 len:E.length=σ.length
 val:∀(i:Nat) (d:D),E[i]?=Gc (Gc d)->∃v,σ[i]?=Gc (Gc v)/\C5 K M H v d
noncomputable def oQ(x:Str):Str:=(x++(".<locals>.":Str))++("<lambda>":Str)
def cL(K:pV)(c P:pz):Prop:=
 ∃o vs file tf flags tg inF text tt,K.lookup c=Gc o/\o.cls=vn "code" /\o.data=Data.fields vs/\vs[11]?=Gc (qz P)/\vs.getD 11 sL=qz P/\vs.getD 18 sL=yK file tf/\vs.getD 7 sL=vc flags tg/\vs.getD 9 sL=xM inF/\vs.getD 10 sL=vc text tt/\c≠P
def TabAt(K:pV)(x:Str)(P:pz):Prop:=
 ∃f oc od fd osl c,PySem.W.nsIn K mainGlobals x=Gc (Gc (qz f))/\K.lookup f=Gc ⟨oc,od,Data.func fd,osl⟩/\fd.code=qz c/\cL K c P
def eU(q:Str)(o:Obj):Prop:=∃vs t,o.data=Data.fields vs/\vs[1]?=Gc (yK q t)
structure YF(K:pV)(H:Hp)(x:Str)(P:pz)(ps:qd pW):Prop where
 tri:PySem.TriplesOk ps.toList
 tat:TabAt K x P
 cod:∀pos cv,PySem.codeAmong pos ps.toList=Gc cv->∃c o,cv=qz c/\H c=Gc (.frz o (.own 0))/\eU (oQ x) o
theorem YF.step{x:Str}{P:pz}{ps:qd pW}{K:pV}{M M':Ms}{H H':Hp}(t:YF K H x P ps)(g:Sp1 M H M' H'):YF K H' x P ps:=⟨t.tri,t.tat,λpos cv e=>by
 obtain⟨c,o,h1,h2,h3⟩:=t.cod pos cv e
 refine⟨c,o,h1,g.keep _ _ h2 λz=>?_,h3⟩
 rcases g.mo c z with⟨ys,q⟩|⟨ys,q⟩|⟨ys,q⟩<;>(rw[h2]at q;cases q)⟩
def fO(K:pV)(M:Ms)(H:Hp)(a:pz):Cl->Prop
 | .lst ds=>∃xs,H a=Gc (.lst xs)/\Ao K M H xs ds
 | .dct es=>∃kvs,H a=Gc (.dK kvs)/\BZ K M H kvs es
 | .tab x=>∃ps,H a=Gc (.tbl ps)/\YF K H x a ps
structure StR(K:pV)(M:Ms)(S:Sto)(H:Hp):Prop where
 mo:MOk M H
 nd:M.cel.Nodup
 nt:∀a∈M.tmp,a∉M.cel
 len:M.cel.length=S.length
 cell:∀(n:Nat) (a:pz) (c:Cl),M.cel[n]?=Gc a->S[n]?=Gc c->fO K M H a c
section
variable{K:pV}{M M' M2:Ms}{H H' H2:Hp}{E:En}{σ:Sg}{S:Sto}
theorem EnR.step(r:EnR K M E σ H)(g:Sp1 M H M' H'):EnR K M' E σ H':=⟨r.len,λi d e=>by
 obtain⟨v,h1,h2⟩:=r.val i d e
 exact⟨v,h1,h2.step g⟩⟩
theorem StR.grow(r:StR K M S H)(k:∀a o,H a=Gc o->H' a=Gc o):StR K M S H':=by
 have g:Sp1 M H M H':=⟨r.mo,rL,λ_ z=>.inl z,λa o e _=>k a o e⟩
 refine⟨λa z=>(r.mo a z).imp (λ⟨xs,e⟩=>⟨xs,k _ _ e⟩) (Or.imp (λ⟨xs,e⟩=>⟨xs,k _ _ e⟩) λ⟨xs,e⟩=>⟨xs,k _ _ e⟩),r.nd,r.nt,r.len,λn a c h1 h2=>?_⟩
 have q:=r.cell n a c h1 h2
 cases c with
 |lst ds=>obtain⟨xs,e,rr⟩:=q;exact⟨xs,k _ _ e,rr.step g⟩
 |dct ds=>obtain⟨xs,e,rr⟩:=q;exact⟨xs,k _ _ e,rr.step g⟩
 |tab ds=>obtain⟨xs,e,rr⟩:=q;exact⟨xs,k _ _ e,rr.step g⟩
theorem StR.chg(r:StR K M S H){n:Nat}{a:pz}{ds es:List D}{ys:List V}(h1:M.cel[n]?=Gc a)(h2:S[n]?=Gc (.lst ds))(hy:Ao K M H ys es):StR K M (S.set n (.lst es)) (upd H a (.lst ys))/\Gr M H M (upd H a (.lst ys)):=by
 have ha:a∈M.cel:=qX h1
 have hl:n<S.length:=(qF.mp h2).1
 have g:Gr M H M (upd H a (.lst ys)):=⟨r.mo,rL,rfl,λ_ z=>.inl z,λb o eb nb=>by rw[Aa (λz=>nb (by rw[z];exact ha))];exact eb,λb eb=>by
  by_cases h:b=a
  .subst h;rw[Aw];intro z;cases z
  .rw[Aa h];exact eb⟩
 refine⟨⟨λb z=>?_,r.nd,r.nt,by rw[tm];exact r.len,λm b c e1 e2=>?_⟩,g⟩
 .by_cases h:b=a
  .subst h;exact .inl ⟨ys,Aw⟩
  .rw[Aa h];exact r.mo b z
 .by_cases h:n=m
  .subst h
   rw[h1]at e1;cases e1
   rw[qL hl]at e2;cases e2
   exact⟨ys,Aw,hy.step g.st⟩
  .rw[qE h]at e2
   have hb:b≠a:=λz=>by
    subst z
    exact h ((wN (qF.mp h1).1 r.nd).mp (h1.trans e1.symm))
   have q:=r.cell m b c e1 e2
   cases c with
   |lst fs=>obtain⟨xs,e,rr⟩:=q;exact⟨xs,by rw[Aa hb];exact e,rr.step g.st⟩
   |dct fs=>obtain⟨xs,e,rr⟩:=q;exact⟨xs,by rw[Aa hb];exact e,rr.step g.st⟩
   |tab fs=>obtain⟨xs,e,rr⟩:=q;exact⟨xs,by rw[Aa hb];exact e,rr.step g.st⟩
theorem StR.bh(r:StR K M S H){a:pz}{xs:List V}{ds:List D}(e:H a=none)(k:∀b o,H b=Gc o->H' b=Gc o)(ea:H' a=Gc (.lst xs))(rr:Ao K M H xs ds):StR K ⟨M.cel++[a],M.tmp⟩ (S++[.lst ds]) H'/\Gr M H ⟨M.cel++[a],M.tmp⟩ H':=by
 have g:Gr M H ⟨M.cel++[a],M.tmp⟩ H':=⟨r.mo,vH _ _,rfl,λb z=>by
  rcases qW.mp z with z|z
  .exact .inl z
  .simp at z;subst z;exact .inr e,λb o eb _=>k b o eb,λb eb z=>by
  cases h:H b with
  |none=>exact eb h
  |some o=>rw[k b o h]at z;cases z⟩
 have na:¬M.mem a:=λz=>r.mo.some z e
 refine⟨⟨λb z=>?_,?_,λb hb z=>?_,by simp[r.len],λm b c e1 e2=>?_⟩,g⟩
 .have z':M.mem b\/b=a:=by
   rcases z with z|z
   .rcases qW.mp z with z|z
    .exact .inl (.inl z)
    .simp at z;exact .inr z
   .exact .inl (.inr z)
  rcases z' with z|z
  .exact(r.mo b z).imp (λ⟨xs,e⟩=>⟨xs,k _ _ e⟩) (Or.imp (λ⟨xs,e⟩=>⟨xs,k _ _ e⟩) λ⟨xs,e⟩=>⟨xs,k _ _ e⟩)
  .subst z;exact .inl ⟨xs,ea⟩
 .rw[sN]
  refine⟨r.nd,by simp,λx hx y hy=>?_⟩
  simp at hy;subst hy
  exact λz=>na (.inl (by rw[<-z];exact hx))
 .rcases qW.mp z with z|z
  .exact r.nt b hb z
  .simp at z;subst z;exact na (.inr hb)
 .by_cases h:m<S.length
  .rw[pq (by rw[r.len];exact h)]at e1
   rw[pq h]at e2
   have q:=r.cell m b c e1 e2
   cases c with
   |lst fs=>obtain⟨xs,e,rr⟩:=q;exact⟨xs,k _ _ e,rr.step g.st⟩
   |dct fs=>obtain⟨xs,e,rr⟩:=q;exact⟨xs,k _ _ e,rr.step g.st⟩
   |tab fs=>obtain⟨xs,e,rr⟩:=q;exact⟨xs,k _ _ e,rr.step g.st⟩
  .have hm:m=S.length:=by
    have:=(qF.mp e2).1
    simp at this;lia
   subst hm
   rw[qy (by rw[r.len];exact p9 _)]at e1
   rw[qy (p9 _)]at e2
   rw[r.len]at e1
   simp at e1 e2
   subst e1 e2
   exact⟨xs,ea,rr.step g.st⟩
end
noncomputable def oK:pY uw->qk
 |some .local=>true
 |some .cell=>true
 |some .free=>true
 |_=>false
noncomputable def lC(sc:tT)(x:Str):qk:=oK (sc.names.lookup x)
theorem dU{sc:tT}{x:Str}(h:lC sc x=true):Vis sc x:=by
 unfold lC at h
 unfold Vis
 cases e:sc.names.lookup x with
 |none=>rw[e]at h;cases h
 |some k=>
  rw[e]at h
  cases k<;>first|(cases h;done)|simp
abbrev Ev:=En->Sto->pY (D×Sto)
noncomputable def tD(K:pV)(f:Ev):TE:=λσ H Q=>∃M E S d S',f E S=Gc (d,S')/\EnR K M E σ H/\StR K M S H/\∀v H' M',Gr M H M' H'->StR K M' S' H'->C5 K M' H' v d->Q v H'
structure DE(X:Cx)(e:qh)(f:Ev):Prop where
 pe:PE X e (tD X.K f)
theorem BQ{X:Cx}{e:qh}{t t':TE}(h:PE X e t)(m:∀σ H Q,t' σ H Q->t σ H Q):PE X e t':=λpins s σ H Q I q=>h pins s σ H Q I (m _ _ _ q)
theorem Vi{X:Cx}{e:qh}{t t':TT}(h:PT X e t)(m:∀σ H Q,t' σ H Q->t σ H Q):PT X e t':=λpins s σ H Q I q=>h pins s σ H Q I (m _ _ _ q)
theorem Gs{K:pV}{f:Ev}{σ:Sg}{H:Hp}{Q Q':VK}(h:tD K f σ H Q)(m:∀v H',Q v H'->Q' v H'):tD K f σ H Q':=by
 obtain⟨M,E,S,d,S',e,r,st,q⟩:=h
 exact⟨M,E,S,d,S',e,r,st,λv H' M' g s r=>m _ _ (q v H' M' g s r)⟩
theorem An{α β:Type}{o:pY α}{k:α->pY β}{y:β}(e:o.bind k=Gc y):∃x,o=Gc x/\k x=Gc y:=by
 cases o with
 |none=>cases e
 |some x=>exact⟨x,rfl,e⟩
theorem JO{α β:Type}{o:pY α}{k:α->β}{y:β}(e:o.map k=Gc y):∃x,o=Gc x/\k x=y:=by
 cases o with
 |none=>cases e
 |some x=>cases e;exact⟨x,rfl,rfl⟩
noncomputable def fz:Wv->D
 | .val d=>d
 | .own ds=>.lst ds
noncomputable def at?(E:En)(i:Nat):pY D:=(E[i]?).join
theorem at?_some{E:En}{i:Nat}{w:D}(h:at? E i=Gc w):E[i]?=Gc (Gc w):=by
 unfold at? at h
 cases e:E[i]? with
 |none=>rw[e]at h;cases h
 |some q=>rw[e]at h;exact congrArg Gc h
noncomputable def evs:List Ev->En->Sto->pY (List D×Sto)
 | [],_,S=>Gc ([],S)
 |f::fs,E,S=>(f E S).bind λr=>(evs fs E r.2).map λq=>(r.1::q.1,q.2)
noncomputable def tDs(K:pV):List Ev->TA
 | []=>mS
 |f::fs=>gO (tD K f) (tDs K fs)
structure DEs(X:Cx)(es:List qh)(fs:List Ev):Prop where
 pe:PA X es (tDs X.K fs)
theorem AD{X:Cx}:DEs X [] []:=⟨T7⟩
theorem AA{X:Cx}{e:qh}{es:List qh}{f:Ev}{fs:List Ev}(h:DE X e f)(t:DEs X es fs)(hs:qb (e::es) X.env=(false,eval e X.env)::qb es X.env:=by rfl):DEs X (e::es) (f::fs):=⟨Nq h.pe t.pe hs⟩
section
variable{K:pV}{M M':Ms}{E:En}{S:Sto}{σ:Sg}{H H':Hp}
theorem IQ:∀{fs:List Ev} {M:Ms} {S:Sto} {ds:List D} {S':Sto} {H:Hp} {Q:List V->Hp->Prop},evs fs E S=Gc (ds,S')->EnR K M E σ H->StR K M S H->(∀vs H' M',Gr M H M' H'->StR K M' S' H'->Ao K M' H' vs ds->Q vs H')->tDs K fs σ H Q
 | [],M,S,ds,S',H,Q,e,r,st,q=>by
   cases e
   exact q [] H M (.refl st.mo) st .nil
 |f::fs,M,S,ds,S',H,Q,e,r,st,q=>by
  obtain⟨⟨d,S1⟩,e1,e⟩:=An e
  obtain⟨⟨es,S2⟩,e2,e⟩:=JO e
  cases e
  refine⟨M,E,S,d,S1,e1,r,st,λv H1 M1 g1 st1 d1=>?_⟩
  exact IQ e2 (r.step g1.st) st1 λvs H2 M2 g2 st2 d2=>q _ _ M2 (g1.trans g2) st2 (.cons (d1.step g2.st) d2)
theorem QT:∀{fs:List Ev} {S:Sto} {ds:List D} {S':Sto},evs fs E S=Gc (ds,S')->ds.length=fs.length
 | [],_,_,_,e=>by cases e;rfl
 |f::fs,S,ds,S',e=>by
  obtain⟨⟨d,S1⟩,e1,e⟩:=An e
  obtain⟨⟨es,S2⟩,e2,e⟩:=JO e
  cases e
  simp[QT e2]
def Sh(K:pV)(M:Ms)(H:Hp)(v:V):Wv->Prop
 | .val d=>C5 K M H v d
 | .own ds=>∃a xs,v=.ref a/\H a=Gc (.lst xs)/\Ao K M H xs ds
inductive Shs(K:pV)(M:Ms)(H:Hp):List V->List Wv->Prop
 |nil:Shs K M H [] []
 |cons {v:V} {w:Wv} {vs:List V} {ws:List Wv} (h:Sh K M H v w) (t:Shs K M H vs ws):Shs K M H (v::vs) (w::ws)
noncomputable def dr(S:Sto):D->Wv
 | .ref n=>match S[n]? with
   |some (.lst ds)=>.own ds
   |_=>.val (.ref n)
 |d=>.val d
theorem bF(st:StR K M S H){v:V}{d:D}(h:C5 K M H v d):Sh K M H v (dr S d):=by
 cases h with
 |ref h=>
  rename_i a n
  show Sh K M H (.ref a) (match S[n]? with|some (.lst ds)=>.own ds|_=>.val (.ref n))
  split
  .rename_i ds e
   obtain⟨xs,h1,h2⟩:=st.cell n a _ h e
   exact⟨a,xs,rfl,h1,h2⟩
  .exact .ref h
 |non=>exact .non
 |bl b=>exact .bl b
 |int b=>exact .int b
 |str b=>exact .str b
 |ty b=>exact .ty b
 |tup h r=>exact .tup h r
 |lst h n r=>exact .lst h n r
 |scr h=>exact .scr h
 |dct h n r=>exact .dct h n r
theorem Zo(st:StR K M S H):∀{vs:List V} {ds:List D},Ao K M H vs ds->Shs K M H vs (ds.map (dr S))
 |_,_,.nil=>.nil
 |_,_,.cons h t=>.cons (bF st h) (Zo st t)
def NwR(K:pV)(M:Ms)(H H':Hp)(v:V):Wv->Prop
 | .val d=>C5 K M H' v d
 | .own ds=>∃a xs,v=.ref a/\H a=none/\H' a=Gc (.lst xs)/\Ao K M H xs ds
structure Nw(K:pV)(M:Ms)(H H':Hp)(v:V)(w:Wv):Prop where
 grow:∀a o,H a=Gc o->H' a=Gc o
 rel:NwR K M H H' v w
theorem Nw.same{v:V}{d:D}(mo:MOk M H)(h:C5 K M H v d):Nw K M H H v (.val d):=⟨λ_ _ e=>e,h⟩
theorem F6{a:pz}{o:HO}(e:H a=none):∀b u,H b=Gc u->upd H a o b=Gc u:=λb u eb=>by rw[Aa (λz=>by subst z;rw[e]at eb;cases eb)];exact eb
theorem Nw.lst{a:pz}{xs:List V}{ds:List D}(mo:MOk M H)(e:H a=none)(h:Ao K M H xs ds):Nw K M H (upd H a (.lst xs)) (.ref a) (.own ds):=⟨F6 e,a,xs,rfl,e,Aw,h⟩
theorem Nw.tup{a:pz}{xs:List V}{ds:List D}(mo:MOk M H)(e:H a=none)(h:Ao K M H xs ds):Nw K M H (upd H a (.tup xs)) (.ref a) (.val (.tup ds)):=⟨F6 e,.tup (.of Aw) (h.step (Gr.grow mo (F6 e)).st)⟩
noncomputable def fin:qk->Wv->Sto->pY (D×Sto)
 |_,.val d,S=>Gc (d,S)
 |false,.own ds,S=>Gc (.lst ds,S)
 |true,.own ds,S=>Gc (.ref S.length,S++[.lst ds])
theorem Nw.fin{c:qk}{v:V}{w:Wv}{d:D}{S':Sto}(n:Nw K M H H' v w)(st:StR K M S H)(e:fin c w S=Gc (d,S')):∃M',Gr M H M' H'/\StR K M' S' H'/\C5 K M' H' v d:=by
 cases w with
 |val d'=>
  cases e
  exact⟨M,.grow st.mo n.grow,st.grow n.grow,n.rel⟩
 |own ds=>
  obtain⟨a,xs,rfl,h1,h2,h3⟩:=n.rel
  cases c with
  |false=>
   cases e
   exact⟨M,.grow st.mo n.grow,st.grow n.grow,.lst h2 (λz=>st.mo.some z h1) (h3.step (Gr.grow st.mo n.grow).st)⟩
  |true=>
   cases e
   obtain⟨s1,g1⟩:=st.bh h1 n.grow h2 h3
   refine⟨_,g1,s1,.ref ?_⟩
   rw[<-st.len]
   exact qQ
abbrev Op1:=Wv->pY Wv
abbrev Op2:=Wv->Wv->pY Wv
abbrev OpN:=List Wv->pY Wv
noncomputable def rOp(K:pV)(op:Op2):R2:=λx y H Q=>∃M w1 w2 r,op w1 w2=Gc r/\MOk M H/\Sh K M H x w1/\Sh K M H y w2/\∀v H',Nw K M H H' v r->Q v H'
def rUn(K:pV)(op:Op1):V->Hp->VK->Prop:=λx H Q=>∃M w r,op w=Gc r/\MOk M H/\Sh K M H x w/\∀v H',Nw K M H H' v r->Q v H'
def rN(K:pV)(op:OpN):List V->Hp->VK->Prop:=λxs H Q=>∃M ws r,op ws=Gc r/\MOk M H/\Shs K M H xs ws/\∀v H',Nw K M H H' v r->Q v H'
noncomputable def Nf(c:qk)(op:OpN)(fs:List Ev):Ev:=λE S=>(evs fs E S).bind λr=>(op (r.1.map (dr r.2))).bind λw=>fin c w r.2
abbrev eOp:=Nf false
abbrev cn:=Nf true
noncomputable def o1(op:Op1):OpN| [a]=>op a|_=>none
noncomputable def o2(op:Op2):OpN| [a,b]=>op a b|_=>none
theorem Lf{c:qk}{op:OpN}{fs:List Ev}{Q:VK}{d:D}{S':Sto}(e:Nf c op fs E S=Gc (d,S'))(r:EnR K M E σ H)(st:StR K M S H)(h:∀v H' M',Gr M H M' H'->StR K M' S' H'->C5 K M' H' v d->Q v H'):tDs K fs σ H λvs H1=>rN K op vs H1 Q:=by
 obtain⟨⟨ds,S1⟩,e1,e⟩:=An e
 obtain⟨w,e2,e⟩:=An e
 refine IQ e1 r st λvs H1 M1 g1 st1 d1=>⟨M1,_,w,e2,st1.mo,Zo st1 d1,λv H2 n=>?_⟩
 obtain⟨M2,g2,st2,d2⟩:=n.fin st1 e
 exact h v H2 M2 (g1.trans g2) st2 d2
end
theorem fG{K:pV}{f:Op2}{x y:V}{H:Hp}{Q:VK}(h:rN K (o2 f) [x,y] H Q):rOp K f x y H Q:=by
 obtain⟨M,ws,r,e,mo,s,q⟩:=h
 cases s with
 |cons h1 s=>
  cases s with
  |cons h2 s=>
   cases s
   exact⟨M,_,_,r,e,mo,h1,h2,q⟩
theorem fw{K:pV}{f:Op1}{x:V}{H:Hp}{Q:VK}(h:rN K (o1 f) [x] H Q):rUn K f x H Q:=by
 obtain⟨M,ws,r,e,mo,s,q⟩:=h
 cases s with
 |cons h1 s=>
  cases s
  exact⟨M,_,r,e,mo,h1,q⟩
theorem RI{K:pV}{c:qk}{f:Op2}{fa fb:Ev}{σ:Sg}{H:Hp}{Q:VK}(h:tD K (Nf c (o2 f) [fa,fb]) σ H Q):tOp (rOp K f) (tD K fa) (tD K fb) σ H Q:=by
 obtain⟨M,E,S,d,S',e,r,st,q⟩:=h
 have z:tD K fa σ H λx H1=>tD K fb σ H1 λy H2=>rN K (o2 f) [x,y] H2 Q:=Lf (Q:=Q) e r st q
 exact Gs z λx H1 z1=>Gs z1 λy H2 z2=>fG z2
theorem T6{K:pV}{c:qk}{f:Op1}{fa:Ev}{σ:Sg}{H:Hp}{Q:VK}(h:tD K (Nf c (o1 f) [fa]) σ H Q):tUn (rUn K f) (tD K fa) σ H Q:=by
 obtain⟨M,E,S,d,S',e,r,st,q⟩:=h
 have z:tD K fa σ H λx H1=>rN K (o1 f) [x] H1 Q:=Lf (Q:=Q) e r st q
 exact Gs z λx H1 z1=>fw z1
section
variable{X:Cx}{a b e:qh}{es:List qh}{fa fb:Ev}{fs:List Ev}{pos p:Pos}{c:qk}
theorem Ag{op:Operator}{f:Op2}(ho:OpR X (binaryOp op) (rOp X.K f))(ha:DE X a fa)(hb:DE X b fb):DE X (.BinOp a op b pos) (Nf c (o2 f) [fa,fb]):=⟨BQ (kc ho ha.pe hb.pe) λ_ _ _ h=>RI h⟩
theorem Eb{op:CmpOp}{f:Op2}(ho:OpR X (compareOp op) (rOp X.K f))(ha:DE X a fa)(hb:DE X b fb)(hm:behindInMarks op b=false:=by rfl):DE X (.Compare a [op] [b] pos) (Nf c (o2 f) [fa,fb]):=⟨BQ (b9 ho ha.pe hb.pe hm) λ_ _ _ h=>RI h⟩
theorem Oq{op:UnaryOp}{f:Op1}(ho:UnR X (unaryOp op) (rUn X.K f))(ha:DE X a fa):DE X (.UnaryOp op a pos) (Nf c (o1 f) [fa]):=⟨BQ (gk ho ha.pe) λ_ _ _ h=>T6 h⟩
theorem AM{f:Op2}(hr:IxR X (rOp X.K f))(ha:DE X a fa)(hb:DE X b fb)(hs:TY b:=by exact λ_ _=>rfl):DE X (.Subscript a b pos) (Nf c (o2 f) [fa,fb]):=⟨BQ (j8 hr ha.pe hb.pe hs) λ_ _ _ h=>RI h⟩
theorem Ab{id:tZ}{x:Str}{f:OpN}(hc:Ds X (.builtin id) (rN X.K f))(hg:Gl X x)(hm:X.mg x=none)(hv:bootBuiltins x=Gc (.builtin id))(ha:DEs X (e::es) fs)(hn:x≠ "__name__":=by decide)(hdb:(x==("__debug__":Str))=false:=by decide)(he:qb (e::es) X.env=(false,eval e X.env)::qb es X.env:=by rfl)(hpl:(backTo pos (qb es X.env)).any (·.1)=false:=by rfl):DE X (.Call (.Name x p) (e::es) [] pos) (Nf c f fs):=⟨
 BQ (XU hc hg hm hv ha.pe hn hdb he hpl) λ_ _ _ h=>by
  obtain⟨M,E,S,d,S',e,r,st,q⟩:=h
  exact Lf e r st q⟩
theorem Ay{T:tZ}{x:Str}{f:OpN}(hc:Ds X (.type T) (rN X.K f))(hg:Gl X x)(hm:X.mg x=none)(hv:bootBuiltins x=Gc (.type T))(ha:DEs X (e::es) fs)(hn:x≠ "__name__":=by decide)(hdb:(x==("__debug__":Str))=false:=by decide)(he:qb (e::es) X.env=(false,eval e X.env)::qb es X.env:=by rfl)(hpl:(backTo pos (qb es X.env)).any (·.1)=false:=by rfl):DE X (.Call (.Name x p) (e::es) [] pos) (Nf c f fs):=⟨
 BQ (O4 hc hg hm hv ha.pe hn hdb he hpl) λ_ _ _ h=>by
  obtain⟨M,E,S,d,S',e,r,st,q⟩:=h
  exact Lf e r st q⟩
noncomputable def eC(d:D):Ev:=λ_ S=>Gc (d,S)
theorem Oz{v:V}{d:D}(h:PE X e (tC v))(r:∀K M H,C5 K M H v d):DE X e (eC d):=⟨BQ h λσ H Q z=>by
 obtain⟨M,E,S,w,S',e,rr,st,q⟩:=z
 cases e
 exact q _ _ M (.refl st.mo) st (r _ _ _)⟩
theorem AE{i:Int}{j:Nat}:DE X (.Constant (.int i) j pos) (eC (.int i)):=Oz Ys λ_ _ _=>.int _
theorem P5{i:qk}{j:Nat}:DE X (.Constant (.bool i) j pos) (eC (.bl i)):=Oz kQ λ_ _ _=>.bl _
theorem BI{i:Str}{j:Nat}:DE X (.Constant (.str i) j pos) (eC (.str i)):=Oz dZ λ_ _ _=>.str _
theorem Ef{j:Nat}:DE X (.Constant .none j pos) (eC .non):=Oz gm λ_ _ _=>.non
noncomputable def eV(i:Nat):Ev:=λE S=>(at? E i).map λd=>(d,S)
theorem AB(i:Nat){x:Str}(hN:X.N[i]?=Gc x:=by rfl)(hv:lC X.env.scope x=true:=by rfl)(hd:(x==("__debug__":Str))=false:=by decide)(hcd:(x==("__classdict__":Str))=false:=by decide):DE X (.Name x pos) (eV i):=⟨BQ (ZZ hN (dU hv) hd hcd) λσ H Q z=>by
 obtain⟨M,E,S,d,S',e,r,st,q⟩:=z
 obtain⟨d',e1,e⟩:=JO e
 cases e
 obtain⟨v,hv,rd⟩:=r.val i d (at?_some e1)
 exact⟨v,hv,q v H M (.refl st.mo) st rd⟩⟩
end
theorem HD:fillsNumberSlot (.type "tuple") "mul"=pure false:=
 fillsNumberSlot_seq (id:="tuple.__mul__") (r:=Gc (.builtin "tuple.__rmul__")) wd.lookup (by decide+kernel) F.slot_tuple_rmul.lookup (by decide+kernel)
theorem KS:seqRepeat? (.type "tuple")=pure (Gc (.builtin "tuple.__mul__")):=by
 unfold seqRepeat?
 rw[seqSlot_of (T:="tuple") (name:="__mul__") (id:="tuple.__mul__") wd.lookup (by decide+kernel),seqSlot_of (T:="tuple") (name:="__rmul__") (id:="tuple.__rmul__") F.slot_tuple_rmul.lookup (by decide+kernel)]
 rfl
theorem IL(a:Int)(t:Tok)(l:pz)(items:qd pW)(n:Nat)(dd:pY pz)(sl:qd (pY pW)):Meets (sQ.«int.__rmul__» ⟨[.int a t,.ref l],[]⟩) (λ_ R s=>s.heap.get? l=Gc {cls:=.type "tuple",dict:=dd,data:=.seq items n,slots:=sl}/\R (.ok (.ret Value.notImplemented)) s):=
 .of_wp λprog w A R s h=>by obtain⟨hp,g,d,tk,os⟩:=s;obtain⟨hl,h⟩:=h;wp_walk;exact⟨_,rfl,h⟩
theorem Ug(its:List pW)(m:Nat):AAA (λx1 x2=>x1++x2) #[] (qZ m its.toArray)=(qZ m its).flatten.toArray:=by
 have:=foldl_rep its m []
 rw[qU]at this
 exact this
theorem cE{X:Cx}:OpR X (binaryOp .Mult) (λx y H Q=>∃a xs k,x=.ref a/\y=.int k/\SqT X.K H a xs/\xs≠[]/\1<=k/\xs.length*k.toNat<=sizeLine/\(k=1->Q (.ref a) H)/\(k≠1->∀p,H p=none->Q (.ref p) (upd H p (.tup (qZ k.toNat xs).flatten)))):=by
 intro pins s σ H x y v u Q I rx ry h
 obtain⟨a,xs,k,rfl,rfl,hx,hne,hk,hz,q1,q2⟩:=h
 cases rx
 obtain⟨t,rfl⟩:=ry
 obtain⟨its,r,⟨⟨c,dd,data,sl⟩,ho,hc,n,hd⟩,hzz⟩:=I.tuple hx
 simp only at hc hd
 subst hc hd
 have hl:=r.length
 have hsz:its.toArray.size=xs.length:=by rw[qK];exact hl.symm
 have hpos:0<xs.length:=zg.mpr hne
 have hkl:k.toNat<=sizeLine:=qD (Nat.le_mul_of_pos_left _ hpos) hz
 have hk63:k<2^63:=by
  have:(sizeLine:Nat)<2^63:=by decide
  lia
 refine ve (T:="tuple") (U:="int") (by decide) ⟨_,ho,rfl⟩ (λs'=>vW s' k t) HD yo vL KS yO.lookup
  (uO vL (vW s k t) yP (xr _ _) (IL k t a its.toArray n dd sl) ⟨ho,rfl,⟨_,ho,rfl⟩,?_⟩)
 refine q9 wd ⟨_,ho,rfl⟩ F.entry_tuple_mul ?_ (AAE _ _)
 unfold sQ.«tuple.__mul__»
 wp_walk using qe ho
 rw[qj (show¬(decide (k< -2^63)||decide (k≥2^63))=true by
  rw[sJ]
  rintro (z|z)
  .have:=qM z;lia
  .have:=qM z;lia)]
 wp_walk using qe ho
 by_cases h1:k=1
 .subst h1
  rw[qc (show(its.toArray.isEmpty||(1:Int)==1)=true by simp)]
  wp_walk using qe ho
  exact⟨_,rfl,.ref a,H,I,rfl,q1 rfl⟩
 .have hemp:its.toArray.isEmpty=false:=by
   cases its with
   |nil=>rw[vM]at hl;lia
   |cons b bs=>rfl
  rw[qj (show¬(its.toArray.isEmpty||k==1)=true by rw[hemp];simpa using h1)]
  wp_walk using qe ho
  have hmul:((its.toArray.size:Int)*k)=((xs.length*k.toNat:Nat):Int):=by
   rw[hsz,yr]
   congr 1
   lia
  rw[qj (show¬(decide (k<=0)||its.toArray.isEmpty)=true by
   rw[hemp,Bool.or_false]
   intro z
   have:=qM z
   lia)]
  wp_walk
  rw[qj (show¬((its.toArray.size:Int)*k>(2^63-1) / 8) by
   rw[hmul]
   have:(sizeLine:Nat)<=(2^63-1) / 8:=by decide
   lia)]
  wp_walk
  rw[qj (show¬xV ((its.toArray.size:Int)*k)=true by
   unfold xV
   rw[hmul]
   intro z
   have:=qM z
   lia)]
  rw[Ug]
  wp_walk
  have hlen:(qZ k.toNat its).flatten.length<=sizeLine:=by rw[len_rep,vG,<-hl];exact hz
  rw[qj (show¬((qZ k.toNat its).flatten.toArray.size>sizeLine) by rw[qK];lia)]
  wp_walk
  refine⟨_,rfl,.ref _,_,I.laid (o:=.tup (qZ k.toNat xs).flatten) (t':=s.toks) (λb ob q=>pU _ q) (p9 _) ?_,rfl,q2 h1 _ (I.hok.fresh (p9 _))⟩
  exact⟨by rw[len_rep,vG];exact hz,_,r.rep k.toNat,ui _ _⟩
mutual
noncomputable def D.py:D->PyData
 | .non=>.none| .bl b=>.bool b| .int i=>.int i| .str x=>.str x| .ty _=>.none
 | .tup ds=>.tuple (D.pys ds)| .lst ds=>.list (D.pys ds)| .dct _=>.none| .scr _=>.none| .ref _=>.none
noncomputable def D.pys:List D->List PyData
 | []=>[]
 |d::ds=>D.py d::D.pys ds
end
mutual
noncomputable def D.lay:D->qk
 | .non=>true| .bl _=>true| .int _=>true| .str x=>sD x| .ty _=>false| .dct _=>false| .scr _=>false| .ref _=>false
 | .tup ds=>D.Km ds| .lst ds=>D.Km ds
noncomputable def D.Km:List D->qk
 | []=>true
 |d::ds=>D.lay d && D.Km ds
end
mutual
theorem LG:∀{d:D},d.lay=true->d.py.canLay0=true
 | .non,_=>rfl
 | .bl _,_=>rfl
 | .int _,_=>rfl
 | .str x,h=>h
 | .ty _,h=>su h
 | .dct _,h=>su h
 | .scr _,h=>su h
 | .ref _,h=>su h
 | .tup ds,h=>by show wO (D.pys ds)=true;exact OM h
 | .lst ds,h=>by show wO (D.pys ds)=true;exact OM h
theorem OM:∀{ds:List D},D.Km ds=true->wO (D.pys ds)=true
 | [],_=>rfl
 |d::ds,h=>by
  have h':(D.lay d && D.Km ds)=true:=h
  rw[qO]at h'
  show(PyData.canLay0 d.py && wO (D.pys ds))=true
  rw[LG h'.1,OM h'.2];rfl
end
section
variable{X:Cx}{pins:List (pz×Obj)}{σ:Sg}{H:Hp}{s:pX}{M:Ms}
theorem Gp(I:Inv X pins σ H s){a:pz}{xs:List V}(h:Rd H a (.lst xs)):∃its:List pW,Vals xs its/\∃o n,s.heap.get? a=Gc o/\o.cls=.type "list" /\o.data=.seq its.toArray n:=by
 obtain⟨z,its,n,r,e⟩:=h.ok I.hok
 exact⟨its,r,_,n,e,rfl,rfl⟩
theorem C5.reads(I:Inv X pins σ H s){v:V}{d:D}(h:C5 X.K M H v d):∀{u:pW},RelV v u->d.lay=true->∃as,Reads s.heap u d.py as:=
 C5.rec (motive_1:=λv d _=>∀{u:pW},RelV v u->d.lay=true->∃as,Reads s.heap u d.py as) (motive_2:=λvs ds _=>∀{us:List pW},Vals vs us->D.Km ds=true->∃as,ReadsAll s.heap us (D.pys ds) as) (motive_3:=λ_ _ _=>yu)
  (λr _=>by cases r;exact⟨_,.none⟩) (λb _ r _=>by cases r;exact⟨_,.bool b⟩) (λb _ r _=>by obtain⟨t,rfl⟩:=r;exact⟨_,.int b t⟩) (λb _ r _=>by obtain⟨t,rfl⟩:=r;exact⟨_,.str b t⟩) (λ_ _ _ h=>su h)
  (fun h _ ih _ r hl => by
    cases r
    obtain⟨its,rv,⟨o,e,hc,n,hd⟩,_⟩:=I.tuple h
    obtain⟨as,ra⟩:=ih rv hl
    exact⟨as,.tuple e hc hd ra⟩)
  (fun h _ _ ih _ r hl => by
    cases r
    obtain⟨its,rv,o,n,e,hc,hd⟩:=Gp I (.inl h)
    obtain⟨as,ra⟩:=ih rv hl
    exact⟨_,.list e hc hd ra⟩)
  (λ_ _ _ h=>su h) (λ_ _ _ _ _ _ h=>su h) (λ_ _ _ h=>su h)
  (fun r _ => by cases r; exact ⟨_, .nil⟩) (fun {v d vs ds} _ _ ih1 ih2 _ r hl => by
    cases r with
    |cons r1 r2=>
     have hl':(D.lay d && D.Km ds)=true:=hl
     rw[qO]at hl'
     obtain⟨as,ra⟩:=ih1 r1 hl'.1
     obtain⟨bs,rb⟩:=ih2 r2 hl'.2
     exact⟨_,.cons ra rb⟩) trivial (λ_ _ _ _=>trivial) h
theorem Ao.reads(I:Inv X pins σ H s){vs:List V}{ds:List D}(h:Ao X.K M H vs ds):∀{us:List pW},Vals vs us->D.Km ds=true->∃as,ReadsAll s.heap us (D.pys ds) as:=
 h.ind (P:=λvs ds=>∀{us:List pW},Vals vs us->D.Km ds=true->∃as,ReadsAll s.heap us (D.pys ds) as) (λr _=>by cases r;exact⟨_,.nil⟩) (λ{v d vs ds} h ih2 _ r hl=>by
  cases r with
  |cons r1 r2=>
   have hl':(D.lay d && D.Km ds)=true:=hl
   rw[qO]at hl'
   obtain⟨as,ra⟩:=h.reads I r1 hl'.1
   obtain⟨bs,rb⟩:=ih2 r2 hl'.2
   exact⟨_,.cons ra rb⟩)
end
noncomputable def deq(a b:D):qk:=PyData.eqv a.py b.py
noncomputable def Dq(a b:D):qk:=a.lay && b.lay && decide (min a.py.depth b.py.depth<=60)
noncomputable def wEq:Op2:=λa b=>if Dq (fz a) (fz b)=true then Gc (.val (.bl (deq (fz a) (fz b))))else none
noncomputable def wNe:Op2:=λa b=>if Dq (fz a) (fz b)=true then Gc (.val (.bl (!deq (fz a) (fz b))))else none
section
variable{X:Cx}
theorem Sh.reads{pins:List (pz×Obj)}{σ:Sg}{H:Hp}{s:pX}{M:Ms}{v:V}{u:pW}{w:Wv}(h:Sh X.K M H v w)(I:Inv X pins σ H s)(r:RelV v u)(hl:(fz w).lay=true):∃as,Reads s.heap u (fz w).py as:=by
 cases w with
 |val d=>exact C5.reads I h r hl
 |own ds=>
  obtain⟨a,xs,rfl,h1,h2⟩:=h
  cases r
  obtain⟨its,rv,o,n,e,hc,hd⟩:=Gp I (.inl h1)
  obtain⟨as,ra⟩:=Ao.reads I h2 rv hl
  exact⟨_,.list e hc hd ra⟩
theorem BU(hu:X.A.units+100<cLine):OpR X (compareOp .Eq) (rOp X.K wEq):=by
 intro pins s σ H x y v u Q I rx ry h
 obtain⟨M,w1,w2,r,e,mo,s1,s2,q⟩:=h
 unfold wEq at e
 split at e
 .rename_i hk
  unfold Dq at hk
  rw[qO,qO]at hk
  cases e
  obtain⟨as,ra⟩:=s1.reads I rx hk.1.1
  obtain⟨bs,rb⟩:=s2.reads I ry hk.1.2
  have hd:=qM hk.2
  exact SeqAt.compareEq_reads ra rb (LG hk.1.1) (LG hk.1.2) (by omega) ⟨.bl _,H,I,rfl,q _ _ (.same mo (.bl _))⟩
 .cases e
theorem Gj(hu:X.A.units+100<cLine):OpR X (compareOp .NotEq) (rOp X.K wNe):=by
 intro pins s σ H x y v u Q I rx ry h
 obtain⟨M,w1,w2,r,e,mo,s1,s2,q⟩:=h
 unfold wNe at e
 split at e
 .rename_i hk
  unfold Dq at hk
  rw[qO,qO]at hk
  cases e
  obtain⟨as,ra⟩:=s1.reads I rx hk.1.1
  obtain⟨bs,rb⟩:=s2.reads I ry hk.1.2
  have hd:=qM hk.2
  exact SeqAt.compareNe_reads ra rb (LG hk.1.1) (LG hk.1.2) (by omega) ⟨.bl _,H,I,rfl,q _ _ (.same mo (.bl _))⟩
 .cases e
noncomputable def wI2(f:Int->Int->pY D):Op2
 | .val (.int i),.val (.int j)=>(f i j).map .val
 |_,_=>none
theorem Qw{g:pW->pW->Sem pW}{C:Int->Int->Prop}{h:Int->Int->V}{f:Int->Int->pY D}(o:OpR X g (rI C h))(hf:∀i j d,f i j=Gc d->C i j/\∀K M H,C5 K M H (h i j) d):OpR X g (rOp X.K (wI2 f)):=by
 intro pins s σ H x y v u Q I rx ry hh
 obtain⟨M,w1,w2,r,e,mo,s1,s2,q⟩:=hh
 unfold wI2 at e
 split at e
 .cases s1
  cases s2
  rename_i i j
  cases e1:f i j with
  |none=>rw[e1]at e;cases e
  |some d=>
   rw[e1]at e
   cases e
   obtain⟨c,rd⟩:=hf i j d e1
   exact o pins s σ H _ _ v u Q I rx ry ⟨i,j,rfl,rfl,c,q _ _ (.same mo (rd _ _ _))⟩
 .cases e
theorem N7{g:pW->pW->Sem pW}{h:Int->Int->V}{f:Int->Int->pY D}(o:OpR X g (rI0 h))(hf:∀i j d,f i j=Gc d->∀K M H,C5 K M H (h i j) d):OpR X g (rOp X.K (wI2 f)):=by
 intro pins s σ H x y v u Q I rx ry hh
 obtain⟨M,w1,w2,r,e,mo,s1,s2,q⟩:=hh
 unfold wI2 at e
 split at e
 .cases s1
  cases s2
  rename_i i j
  cases e1:f i j with
  |none=>rw[e1]at e;cases e
  |some d=>
   rw[e1]at e
   cases e
   exact o pins s σ H _ _ v u Q I rx ry ⟨i,j,rfl,rfl,q _ _ (.same mo (hf i j d e1 _ _ _))⟩
 .cases e
noncomputable def MK:Op2:=wI2 λi j=>Gc (.int (i-j))
noncomputable def Zd:Nat:=2^60000
noncomputable def Hl:Nat:=2^8000
noncomputable def E7(i j:Int):qk:=decide (i.natAbs<2^64)||(decide (j.natAbs<2^64)||(decide (i.natAbs<Zd) && decide (j.natAbs<Zd)))
theorem bC:OpR X (binaryOp .Mult) (rI (λi j=>E7 i j=true) λi j=>.int (i*j)):=by
 intro pins s σ H x y v u Q I rx ry h
 obtain⟨i,j,rfl,rfl,hk,q⟩:=h
 unfold E7 at hk
 rw[sJ,sJ,qO]at hk
 rcases hk with hk|hk|hk
 .have:=qM hk
  exact Y2 pins s σ H _ _ v u Q I rx ry ⟨i,j,rfl,rfl,.inl ⟨by omega,by omega⟩,q⟩
 .have:=qM hk
  exact Y2 pins s σ H _ _ v u Q I rx ry ⟨i,j,rfl,rfl,.inr ⟨by omega,by omega⟩,q⟩
 .have h1:i.natAbs<2^60000:=qM hk.1
  have h2:j.natAbs<2^60000:=qM hk.2
  obtain⟨t1,rfl⟩:=rx
  obtain⟨t2,rfl⟩:=ry
  exact PyProof.Rows.mul_int ⟨.int _,H,I.tok _,⟨_,rfl⟩,q⟩ (PyProof.Rows.mulOk_of_bits (m:=60000) (n:=60000) (zN.mpr h1) (zN.mpr h2) (by decide))
noncomputable def dY:Op2:=wI2 λi j=>if E7 i j=true then Gc (.int (i*j))else none
noncomputable def QC:Op2:=wI2 λi j=>if(decide (0<j) && decide (j.natAbs<Hl))=true then Gc (.int (i / j))else none
noncomputable def P2:Op2:=wI2 λi j=>if 0<j then Gc (.int (i % j))else none
noncomputable def aU:Op2:=wI2 λi j=>if(decide (0<=j) && decide (j<=1000) && decide (i.natAbs<2^64))=true then Gc (.int (i^j.toNat))else none
noncomputable def wLt:Op2:=wI2 λi j=>Gc (.bl (decide (i<j)))
noncomputable def wGt:Op2:=wI2 λi j=>Gc (.bl (decide (j<i)))
noncomputable def wGe:Op2:=wI2 λi j=>Gc (.bl (decide (j<=i)))
theorem Eo:OpR X (binaryOp .Sub) (rOp X.K MK):=N7 eR λi j d e K M H=>by cases e;exact .int _
theorem bO:OpR X (binaryOp .Mult) (rOp X.K dY):=Qw bC λi j d e=>by
 split at e
 .rename_i hk
  cases e
  exact⟨hk,λ_ _ _=>.int _⟩
 .cases e
theorem JU:OpR X (binaryOp .FloorDiv) (rOp X.K QC):=Qw St.XF λi j d e=>by
 split at e
 .rename_i hk
  rw[qO]at hk
  cases e
  exact⟨⟨qM hk.1,qM hk.2⟩,λ_ _ _=>.int _⟩
 .cases e
theorem GF:OpR X (binaryOp .Mod) (rOp X.K P2):=Qw cy λi j d e=>by
 split at e
 .rename_i hk
  cases e
  exact⟨hk,λ_ _ _=>.int _⟩
 .cases e
theorem QA:OpR X (binaryOp .Pow) (rOp X.K aU):=Qw dS λi j d e=>by
 split at e
 .rename_i hk
  rw[qO,qO]at hk
  cases e
  have:=qM hk.1.2
  exact⟨⟨qM hk.1.1,by omega,qM hk.2⟩,λ_ _ _=>.int _⟩
 .cases e
theorem IT:OpR X (compareOp .Lt) (rOp X.K wLt):=N7 k6 λi j d e K M H=>by cases e;exact .bl _
theorem J9:OpR X (compareOp .Gt) (rOp X.K wGt):=N7 kW λi j d e K M H=>by cases e;exact .bl _
theorem ZW:OpR X (compareOp .GtE) (rOp X.K wGe):=N7 jZ λi j d e K M H=>by cases e;exact .bl _
noncomputable def asL:Wv->pY (List D)
 | .own ds=>Gc ds
 | .val (.lst ds)=>Gc ds
 |_=>none
noncomputable def asT:Wv->pY (List D)
 | .val (.tup ds)=>Gc ds
 |_=>none
noncomputable def asC:Wv->pY (List D)
 | .val (.scr ns)=>Gc (ns.map .int)
 |_=>none
noncomputable def asS(w:Wv):pY (List D):=(asL w).or ((asT w).or (asC w))
section
variable{K:pV}{M:Ms}{H:Hp}{v:V}{w:Wv}{ds:List D}
theorem Sh.l(h:Sh K M H v w)(e:asL w=Gc ds):∃a xs,v=.ref a/\H a=Gc (.lst xs)/\Ao K M H xs ds:=by
 cases w with
 |own es=>cases e;obtain⟨a,xs,rfl,h1,h2⟩:=h;exact⟨a,xs,rfl,h1,h2⟩
 |val d=>
  cases d<;>first|(cases e;done)|skip
  cases e
  cases h with
  |lst h n r=>exact⟨_,_,rfl,h,r⟩
theorem Sh.t(h:Sh K M H v w)(e:asT w=Gc ds):∃a xs,v=.ref a/\SqT K H a xs/\Ao K M H xs ds:=by
 cases w with
 |own es=>cases e
 |val d=>
  cases d<;>first|(cases e;done)|skip
  cases e
  cases h with
  |tup h r=>exact⟨_,_,rfl,h,r⟩
theorem Jc:∀{ns:List Int},Ao K M H (ns.map V.int) (ns.map D.int)
 | []=>.nil
 |n::ns=>.cons (.int n) Jc
theorem Sh.c(h:Sh K M H v w)(e:asC w=Gc ds):∃a xs,v=.ref a/\SqL K H a xs/\Ao K M H xs ds:=by
 cases w with
 |own es=>cases e
 |val d=>
  cases d<;>first|(cases e;done)|skip
  cases e
  cases h with
  |scr h=>
   refine⟨_,_,rfl,?_,Jc⟩
   rcases h with h|h
   .exact .inl h.1
   .exact .inr h
theorem Sh.s(h:Sh K M H v w)(e:asS w=Gc ds):∃a xs,v=.ref a/\(SqL K H a xs\/SqT K H a xs)/\Ao K M H xs ds:=by
 unfold asS at e
 cases e1:asL w with
 |some es=>
  rw[e1]at e
  cases e
  obtain⟨a,xs,h1,h2,h3⟩:=h.l e1
  exact⟨a,xs,h1,.inl (.of h2),h3⟩
 |none=>
  rw[e1]at e
  cases e2:asT w with
  |some es=>
   rw[e2]at e
   cases e
   obtain⟨a,xs,h1,h2,h3⟩:=h.t e2
   exact⟨a,xs,h1,.inr h2,h3⟩
  |none=>
   rw[e2]at e
   obtain⟨a,xs,h1,h2,h3⟩:=h.c e
   exact⟨a,xs,h1,.inl h2,h3⟩
end
noncomputable def HP:Op1:=λw=>match w with
 | .val (.str z)=>if z.length<=sizeLine then Gc (.val (.int z.length))else none
 |_=>(asS w).map λds=>.val (.int ds.length)
theorem BY:Ds X (.builtin "len") (rN X.K (o1 HP)):=by
 intro pins s σ H xs us Q I r h
 obtain⟨M,ws,w,e,mo,sh,q⟩:=h
 cases sh with
 |nil=>cases e
 |cons h1 t=>
  cases t with
  |cons h2 t=>cases e
  |nil=>
   rename_i v w1
   have e':HP w1=Gc w:=e
   unfold HP at e'
   split at e'
   .split at e'
    .rename_i z hz
     cases e'
     cases h1
     exact Pr pins s σ H _ us Q I r ⟨z,rfl,hz,q _ _ (.same mo (.int _))⟩
    .cases e'
   .cases e1:asS w1 with
    |none=>rw[e1]at e';cases e'
    |some ds=>
     rw[e1]at e'
     cases e'
     obtain⟨a,ys,rfl,h3,h4⟩:=h1.s e1
     refine PD pins s σ H _ us Q I r ⟨a,ys,rfl,h3,q _ _ ?_⟩
     rw[h4.length]
     exact .same mo (.int _)
noncomputable def wIx:Op2:=λa b=>match a,b with
 |a,.val (.int i)=>(asS a).bind λds=>(atI ds i).map .val
 |_,_=>none
theorem bc{K:pV}{M:Ms}{H:Hp}{xs:List V}{ds:List D}{i:Int}{d:D}(h:Ao K M H xs ds)(e:atI ds i=Gc d):∃x,atI xs i=Gc x/\C5 K M H x d:=by
 unfold atI at e⊢
 rw[h.length]
 cases e1:ixN ds.length i with
 |none=>rw[e1]at e;cases e
 |some j=>
  rw[e1]at e
  exact h.get e
theorem Ae:IxR X (rOp X.K wIx):=by
 intro value slice pins s σ H x y v u Q I rx ry h hs
 obtain⟨M,w1,w2,r,e,mo,s1,s2,q⟩:=h
 unfold wIx at e
 split at e
 .rename_i i
  cases e1:asS w1 with
  |none=>rw[e1]at e;cases e
  |some ds=>
   rw[e1]at e
   simp only[uy]at e
   cases e2:atI ds i with
   |none=>rw[e2]at e;cases e
   |some d=>
    rw[e2]at e
    cases e
    cases s2
    obtain⟨a,ys,rfl,h3,h4⟩:=s1.s e1
    obtain⟨z,h5,h6⟩:=bc h4 e2
    rcases h3 with h3|h3
    .exact Z3 value slice pins s σ H _ _ v u Q I rx ry ⟨a,ys,i,z,rfl,rfl,h3,h5,q _ _ (.same mo h6)⟩ hs
    .exact gi value slice pins s σ H _ _ v u Q I rx ry ⟨a,ys,i,z,rfl,rfl,h3,h5,q _ _ (.same mo h6)⟩ hs
 .cases e
end
section
variable{X:Cx}
noncomputable def Be:Op2:=λa b=>match a,b with
 | .val (.int i),.val (.int j)=>Gc (.val (.int (i+j)))
 | .val (.str x),.val (.str y)=>if x.length+y.length<=sizeLine then Gc (.val (.str (x++y)))else none
 | .val (.tup xs),.val (.tup ys)=>if xs.length+ys.length<=sizeLine then Gc (.val (.tup (xs++ys)))else none
 |a,b=>(asL a).bind λxs=>(asL b).bind λys=>if xs.length+ys.length<=sizeLine then Gc (.own (xs++ys))else none
theorem AY:OpR X (binaryOp .Add) (rOp X.K Be):=by
 intro pins s σ H x y v u Q I rx ry h
 obtain⟨M,w1,w2,r,e,mo,s1,s2,q⟩:=h
 unfold Be at e
 split at e
 .cases e
  cases s1;cases s2
  exact eY pins s σ H _ _ v u Q I rx ry ⟨_,_,rfl,rfl,q _ _ (.same mo (.int _))⟩
 .split at e
  .cases e
   cases s1;cases s2
   exact Rx pins s σ H _ _ v u Q I rx ry ⟨_,_,rfl,rfl,by assumption,q _ _ (.same mo (.str _))⟩
  .cases e
 .split at e
  .rename_i xs ys hz
   cases e
   cases s1 with
   |tup h1 r1=>
    cases s2 with
    |tup h2 r2=>
     rename_i a xs' b ys'
     have l1:=r1.length
     have l2:=r2.length
     by_cases hx:xs'=[]
     .subst hx
      cases r1
      refine St.Z5 pins s σ H _ _ v u Q I rx ry ⟨_,_,_,rfl,rfl,h1,h2,q _ _ (.same mo ?_)⟩
      exact .tup h2 r2
     .refine aH pins s σ H _ _ v u Q I rx ry ⟨_,_,_,_,rfl,rfl,h1,h2,hx,by lia,λz=>?_,λ_ p hp=>q _ _ (.tup mo hp (r1.append r2))⟩
      subst z
      cases r2
      rw[uX]at q
      exact q _ _ (.same mo (.tup h1 r1))
  .cases e
 .cases e1:asL w1 with
  |none=>rw[e1]at e;cases e
  |some xs=>
   rw[e1]at e
   cases e2:asL w2 with
   |none=>rw[e2]at e;cases e
   |some ys=>
    rw[e2]at e
    simp only[uy]at e
    split at e
    .rename_i hz
     cases e
     obtain⟨a,xs',rfl,h1,r1⟩:=s1.l e1
     obtain⟨b,ys',rfl,h2,r2⟩:=s2.l e2
     have l1:=r1.length
     have l2:=r2.length
     exact eX pins s σ H _ _ v u Q I rx ry ⟨a,b,xs',ys',rfl,rfl,h1,h2,by lia,λp hp=>q _ _ (.lst mo hp (r1.append r2))⟩
    .cases e
noncomputable def iQ:Op2:=λa b=>match a,b with
 | .val (.int i),.val (.int j)=>if E7 i j=true then Gc (.val (.int (i*j)))else none
 | .val (.tup xs),.val (.int k)=>if(!xs.isEmpty && decide (1<=k) && decide (xs.length*k.toNat<=sizeLine))=true then Gc (.val (.tup (qZ k.toNat xs).flatten))else none
 |a,.val (.int k)=>(asL a).bind λxs=>if(decide (k<2^63) && decide (-(2^63)<=k) && decide (xs.length*k.toNat<=sizeLine))=true then Gc (.own (qZ k.toNat xs).flatten)else none
 |_,_=>none
theorem Ao.rep{K:pV}{M:Ms}{H:Hp}{xs:List V}{ds:List D}(h:Ao K M H xs ds):∀n:Nat,Ao K M H (qZ n xs).flatten (qZ n ds).flatten
 |0=>.nil
 |n+1=>by
  rw[tO,tO,ub,ub]
  exact h.append (Ao.rep h n)
theorem US:OpR X (binaryOp .Mult) (rOp X.K iQ):=by
 intro pins s σ H x y v u Q I rx ry h
 obtain⟨M,w1,w2,r,e,mo,s1,s2,q⟩:=h
 unfold iQ at e
 split at e
 .rename_i i j
  refine bO pins s σ H x y v u Q I rx ry ⟨M,_,_,r,?_,mo,s1,s2,q⟩
  unfold dY wI2
  show AAF Wv.val (if E7 i j=true then Gc (D.int (i*j))else none)=Gc r
  split at e
  .rename_i hk
   rw[qc hk]
   exact e
  .cases e
 .rename_i xs k
  split at e
  .rename_i hk
   rw[qO,qO]at hk
   cases e
   cases s2
   cases s1 with
   | @tup a ys _ h1 r1=>
     have l1:=r1.length
     have z:=qM hk.2
     have hk1:=qM hk.1.2
     have hne:ys≠[]:=λzz=>by
      subst zz
      cases r1
      exact absurd hk.1.1 (by decide)
     refine cE pins s σ H _ _ v u Q I rx ry ⟨a,ys,k,rfl,rfl,h1,hne,hk1,by rw[l1];exact z,λe1=>?_,λ_ p hp=>q _ _ (.tup mo hp (r1.rep _))⟩
     subst e1
     have:(qZ (1:Int).toNat xs).flatten=xs:=by simp
     rw[this]at q
     exact q _ _ (.same mo (.tup h1 r1))
  .cases e
 .rename_i k hn hn2
  cases e1:asL w1 with
  |none=>rw[e1]at e;cases e
  |some xs=>
   rw[e1]at e
   simp only[uy]at e
   split at e
   .rename_i hk
    rw[qO,qO]at hk
    cases e
    cases s2
    obtain⟨a,xs',rfl,h1,r1⟩:=s1.l e1
    have l1:=r1.length
    have z:=qM hk.2
    exact d6 pins s σ H _ _ v u Q I rx ry ⟨a,k,xs',rfl,rfl,h1,qM hk.1.2,qM hk.1.1,by rw[l1];exact z,λp hp=>q _ _ (.lst mo hp (r1.rep _))⟩
   .cases e
 .cases e
noncomputable def Oe:Op1
 | .val (.int i)=>Gc (.val (.int (-i)))
 |_=>none
theorem Hk:UnR X (unaryOp .USub) (rUn X.K Oe):=by
 intro pins s σ H x v Q I rx h
 obtain⟨M,w,r,e,mo,s1,q⟩:=h
 unfold Oe at e
 split at e
 .cases e
  cases s1
  exact ZR pins s σ H _ v Q I rx ⟨_,rfl,q _ _ (.same mo (.int _))⟩
 .cases e
noncomputable def Iv:D->qk
 | .non=>true| .bl _=>true| .int _=>true| .str _=>true
 |_=>false
theorem Sh.flat{K:pV}{M:Ms}{H:Hp}{v:V}{w:Wv}(h:Sh K M H v w)(f:Iv (fz w)=true):C5 K M H v (fz w):=by
 cases w with
 |val d=>exact h
 |own ds=>cases f
noncomputable def inD(x:D)(xs:List D):qk:=xs.any λy=>deq y x
theorem Q0{K:pV}{M:Ms}{H:Hp}{v:V}{d:D}(h:C5 K M H v d)(f:Iv d=true):Mc v=true:=by
 cases h<;>first|rfl|cases f
theorem Z4{K:pV}{M:Ms}{H:Hp}{v u:V}{d e:D}(h:C5 K M H v d)(g:C5 K M H u e)(f:Iv d=true)(f':Iv e=true):eqV v u=deq d e:=by
 cases h<;>first|(cases f;done)|skip
 all_goals (cases g<;>first|(cases f';done)|rfl)
theorem Ow{K:pV}{M:Ms}{H:Hp}:∀{vs:List V} {ds:List D},Ao K M H vs ds->ds.all Iv=true->vs.all Mc=true
 |_,_,.nil,_=>rfl
 |_,_,.cons h t,f=>by
  rw[uF,qO]at f⊢
  exact⟨Q0 h f.1,Ow t f.2⟩
theorem TK{K:pV}{M:Ms}{H:Hp}{u:V}{e:D}(g:C5 K M H u e)(f':Iv e=true):∀{vs:List V} {ds:List D},Ao K M H vs ds->ds.all Iv=true->inV u vs=inD e ds
 |_,_,.nil,_=>rfl
 |_,_,.cons h t,f=>by
  rw[uF,qO]at f
  have ih:=TK g f' t f.2
  unfold inV inD at ih⊢
  rw[sV,sV,ih,Z4 h g f.1 f']
noncomputable def wIn(neg:qk):Op2:=λa b=>(asS b).bind λds=>if(Iv (fz a) && ds.all Iv)=true then Gc (.val (.bl (if neg then !inD (fz a) ds else inD (fz a) ds)))else none
theorem ZK{M:Ms}{H:Hp}{x y:V}{w1 w2 r:Wv}{neg:qk}{Q:VK}(e:wIn neg w1 w2=Gc r)(mo:MOk M H)(s1:Sh X.K M H x w1)(s2:Sh X.K M H y w2)(q:∀v H',Nw X.K M H H' v r->Q v H'):rIn X.K neg x y H Q:=by
 unfold wIn at e
 cases e1:asS w2 with
 |none=>rw[e1]at e;cases e
 |some ds=>
  rw[e1]at e
  simp only[uy]at e
  split at e
  .rename_i hk
   rw[qO]at hk
   cases e
   obtain⟨a,xs,rfl,h3,h4⟩:=s2.s e1
   have g1:=s1.flat hk.1
   refine⟨a,xs,rfl,h3,Q0 g1 hk.1,Ow h4 hk.2,?_⟩
   rw[TK g1 hk.1 h4 hk.2]
   exact q _ _ (.same mo (.bl _))
  .cases e
theorem RC:OpR X (compareOp .In) (rOp X.K (wIn false)):=by
 intro pins s σ H x y v u Q I rx ry h
 obtain⟨M,w1,w2,r,e,mo,s1,s2,q⟩:=h
 exact Ve pins s σ H _ _ v u Q I rx ry (ZK e mo s1 s2 q)
theorem MG:OpR X (compareOp .NotIn) (rOp X.K (wIn true)):=by
 intro pins s σ H x y v u Q I rx ry h
 obtain⟨M,w1,w2,r,e,mo,s1,s2,q⟩:=h
 exact PQ pins s σ H _ _ v u Q I rx ry (ZK e mo s1 s2 q)
noncomputable def isN:Wv->qk
 | .val .non=>true
 |_=>false
noncomputable def Of(neg:qk):Op2:=λa b=>match b with
 | .val .non=>Gc (.val (.bl (if neg then !isN a else isN a)))
 |_=>none
theorem Ui{K:pV}{M:Ms}{H:Hp}{x:V}{w:Wv}(s:Sh K M H x w):decide (x=.non)=isN w:=by
 cases w with
 |own ds=>obtain⟨a,xs,rfl,_⟩:=s;rfl
 |val d=>cases s<;>rfl
theorem Ik:OpR X (compareOp .Is) (rOp X.K (Of false)):=by
 intro pins s σ H x y v u Q I rx ry h
 obtain⟨M,w1,w2,r,e,mo,s1,s2,q⟩:=h
 unfold Of at e
 split at e
 .cases e
  cases s2
  refine fA pins s σ H _ _ v u Q I rx ry ⟨rfl,?_⟩
  rw[Ui s1]
  exact q _ _ (.same mo (.bl _))
 .cases e
theorem YQ:OpR X (compareOp .IsNot) (rOp X.K (Of true)):=by
 intro pins s σ H x y v u Q I rx ry h
 obtain⟨M,w1,w2,r,e,mo,s1,s2,q⟩:=h
 unfold Of at e
 split at e
 .cases e
  cases s2
  refine aF pins s σ H _ _ v u Q I rx ry ⟨rfl,?_⟩
  rw[Ui s1]
  exact q _ _ (.same mo (.bl _))
 .cases e
theorem GA{K:pV}{M:Ms}{H:Hp}{xs:List V}{ws:List Wv}{f:Op1}{r:Wv}(h:Shs K M H xs ws)(e:o1 f ws=Gc r):∃v w,xs=[v]/\ws=[w]/\Sh K M H v w/\f w=Gc r:=by
 cases h with
 |nil=>cases e
 |cons h1 t=>
  cases t with
  |cons h2 t=>cases e
  |nil=>exact⟨_,_,rfl,rfl,h1,e⟩
theorem QP{K:pV}{M:Ms}{H:Hp}{xs:List V}{ws:List Wv}{f:Op2}{r:Wv}(h:Shs K M H xs ws)(e:o2 f ws=Gc r):∃v w v' w',xs=[v,v']/\ws=[w,w']/\Sh K M H v w/\Sh K M H v' w'/\f w w'=Gc r:=by
 cases h with
 |nil=>cases e
 |cons h1 t=>
  cases t with
  |nil=>cases e
  |cons h2 t=>
   cases t with
   |cons h3 t=>cases e
   |nil=>exact⟨_,_,_,_,rfl,rfl,h1,h2,e⟩
noncomputable def jT:Op1
 | .val (.int i)=>Gc (.val (.int (if i<0 then-i else i)))
 |_=>none
theorem VB:Ds X (.builtin "abs") (rN X.K (o1 jT)):=by
 intro pins s σ H xs us Q I r h
 obtain⟨M,ws,w,e,mo,sh,q⟩:=h
 obtain⟨v,w1,rfl,rfl,s1,e1⟩:=GA sh e
 unfold jT at e1
 split at e1
 .cases e1
  cases s1
  exact YV pins s σ H _ us Q I r ⟨_,rfl,q _ _ (.same mo (.int _))⟩
 .cases e1
noncomputable def gr:Op2:=wI2 λi j=>Gc (.int (if j>i then j else i))
noncomputable def Y6:Op2:=wI2 λi j=>Gc (.int (if j<i then j else i))
theorem RG{f:Int->Int->pY D}{a b r:Wv}(e:wI2 f a b=Gc r):∃i j d,a=.val (.int i)/\b=.val (.int j)/\f i j=Gc d/\r=.val d:=by
 unfold wI2 at e
 split at e
 .rename_i i j
  cases e1:f i j with
  |none=>rw[e1]at e;cases e
  |some d=>rw[e1]at e;cases e;exact⟨i,j,d,rfl,rfl,e1,rfl⟩
 .cases e
theorem Sv(hc:X.calm=true):Ds X (.builtin "max") (rN X.K (o2 gr)):=by
 intro pins s σ H xs us Q I r h
 obtain⟨M,ws,w,e,mo,sh,q⟩:=h
 obtain⟨v,w1,v',w2,rfl,rfl,s1,s2,e1⟩:=QP sh e
 obtain⟨i,j,d,rfl,rfl,e2,rfl⟩:=RG e1
 cases e2;cases s1;cases s2
 exact Uu hc pins s σ H _ us Q I r ⟨_,_,rfl,q _ _ (.same mo (.int _))⟩
theorem L0(hc:X.calm=true):Ds X (.builtin "min") (rN X.K (o2 Y6)):=by
 intro pins s σ H xs us Q I r h
 obtain⟨M,ws,w,e,mo,sh,q⟩:=h
 obtain⟨v,w1,v',w2,rfl,rfl,s1,s2,e1⟩:=QP sh e
 obtain⟨i,j,d,rfl,rfl,e2,rfl⟩:=RG e1
 cases e2;cases s1;cases s2
 exact Ur hc pins s σ H _ us Q I r ⟨_,_,rfl,q _ _ (.same mo (.int _))⟩
noncomputable def Cj:Op1:=λw=>(asS w).map λds=>.val (.tup ds)
theorem A9:Ds X (.type "tuple") (rN X.K (o1 Cj)):=by
 intro pins s σ H xs us Q I r h
 obtain⟨M,ws,w,e,mo,sh,q⟩:=h
 obtain⟨v,w1,rfl,rfl,s1,e1⟩:=GA sh e
 unfold Cj at e1
 cases e2:asS w1 with
 |none=>rw[e2]at e1;cases e1
 |some ds=>
  rw[e2]at e1
  cases e1
  obtain⟨a,ys,rfl,h3,h4⟩:=s1.s e2
  refine Oc pins s σ H _ us Q I r ⟨a,ys,rfl,?_⟩
  rcases h3 with h3|h3
  .exact .inl ⟨h3,λl hl=>q _ _ (.tup mo hl h4)⟩
  .exact .inr ⟨h3,q _ _ (.same mo (.tup h3 h4))⟩
noncomputable def Jq:Op1:=λw=>(asS w).map λds=>.own ds
theorem H0:Ds X (.type "list") (rN X.K (o1 Jq)):=by
 intro pins s σ H xs us Q I r h
 obtain⟨M,ws,w,e,mo,sh,q⟩:=h
 obtain⟨v,w1,rfl,rfl,s1,e1⟩:=GA sh e
 unfold Jq at e1
 cases e2:asS w1 with
 |none=>rw[e2]at e1;cases e1
 |some ds=>
  rw[e2]at e1
  cases e1
  obtain⟨a,ys,rfl,h3,h4⟩:=s1.s e2
  exact Ov pins s σ H _ us Q I r ⟨a,ys,rfl,h3,λl hl=>q _ _ (.lst mo hl h4)⟩
noncomputable def YO:Op1
 | .val (.int i)=>Gc (.val (.int i))
 | .val (.bl b)=>Gc (.val (.int (if b then 1 else 0)))
 |_=>none
theorem Jh:Ds X (.type "int") (rN X.K (o1 YO)):=by
 intro pins s σ H xs us Q I r h
 obtain⟨M,ws,w,e,mo,sh,q⟩:=h
 obtain⟨v,w1,rfl,rfl,s1,e1⟩:=GA sh e
 unfold YO at e1
 split at e1
 .cases e1;cases s1
  exact Ou pins s σ H _ us Q I r (.inl ⟨_,rfl,q _ _ (.same mo (.int _))⟩)
 .cases e1;cases s1
  exact Ou pins s σ H _ us Q I r (.inr ⟨_,rfl,q _ _ (.same mo (.int _))⟩)
 .cases e1
noncomputable def dW:Op1
 | .val (.int i)=>if i.natAbs.log2<1920 then Gc (.val (.str (toString i)))else none
 |_=>none
theorem VW:Ds X (.type "str") (rN X.K (o1 dW)):=by
 intro pins s σ H xs us Q I r h
 obtain⟨M,ws,w,e,mo,sh,q⟩:=h
 obtain⟨v,w1,rfl,rfl,s1,e1⟩:=GA sh e
 unfold dW at e1
 split at e1
 .split at e1
  .cases e1;cases s1
   exact PJ pins s σ H _ us Q I r ⟨_,rfl,by assumption,q _ _ (.same mo (.str _))⟩
  .cases e1
 .cases e1
noncomputable def blD:D->pY qk
 | .bl b=>Gc b
 |_=>none
noncomputable def bls(ds:List D):pY (List qk):=ds.mapM blD
theorem P4{K:pV}{M:Ms}{H:Hp}:∀{vs:List V} {ds:List D} {bs:List qk},Ao K M H vs ds->bls ds=Gc bs->vs=bs.map V.bl
 |_,_,bs,.nil,e=>by cases e;rfl
 |_,_,bs,.cons (d:=d) (ds:=ds) h t,e=>by
  unfold bls at e
  rw[xW]at e
  cases e1:blD d with
  |none=>rw[e1]at e;cases e
  |some b=>
   rw[e1]at e
   cases e2:ds.mapM blD with
   |none=>rw[e2]at e;cases e
   |some cs=>
    rw[e2]at e
    cases e
    have hd:d=.bl b:=by
     cases d<;>first|(cases e1;done)|skip
     cases e1;rfl
    subst hd
    cases h
    rw[qS,<-P4 t e2]
noncomputable def fI:Op1:=λw=>(asL w).bind λds=>(bls ds).map λbs=>.val (.bl (bs.all id))
theorem Pb(hc:X.calm=true):Ds X (.builtin "all") (rN X.K (o1 fI)):=by
 intro pins s σ H xs us Q I r h
 obtain⟨M,ws,w,e,mo,sh,q⟩:=h
 obtain⟨v,w1,rfl,rfl,s1,e1⟩:=GA sh e
 unfold fI at e1
 cases e2:asL w1 with
 |none=>rw[e2]at e1;cases e1
 |some ds=>
  rw[e2]at e1
  simp only[uy]at e1
  cases e3:bls ds with
  |none=>rw[e3]at e1;cases e1
  |some bs=>
   rw[e3]at e1
   cases e1
   obtain⟨a,ys,rfl,h3,h4⟩:=s1.l e2
   exact St.TM hc pins s σ H _ us Q I r ⟨a,bs,rfl,by rw[<-P4 h4 e3];exact .of h3,q _ _ (.same mo (.bl _))⟩
noncomputable def kdW:Wv->pY St.Kd
 | .own _=>Gc .lst
 | .val .non=>Gc .non| .val (.bl _)=>Gc .bl| .val (.int _)=>Gc .int| .val (.str _)=>Gc .str| .val (.lst _)=>Gc .lst| .val (.dct _)=>Gc .dct| .val (.tup _)=>Gc .tup
 | .val (.ty _)=>none| .val (.scr _)=>none| .val (.ref _)=>none
end
section
variable{X:Cx}
theorem XY{K:pV}(k:St.Kd):uK K (.type k.ty) (.type "list")=Gc (k.isA "list"):=by
 cases k<;>rfl
noncomputable def N4(T:tZ):qk:=T== "int" ||T== "bool" ||T== "tuple" ||T== "str" ||T== "list"
theorem eB{K:pV}{T:tZ}(h:N4 T=true)(k:St.Kd):uK K (.type k.ty) (.type T)=Gc (k.isA T):=by
 unfold N4 at h
 simp only[sJ,AAB]at h
 rcases h with(((rfl|rfl)|rfl)|rfl)|rfl
 .exact St.cF k
 .exact St.WS k
 .exact St.kit_tuple k
 .exact St.cT k
 .exact XY k
noncomputable def Jj:Op2:=λa t=>match t with
 | .val (.ty T)=>if N4 T=true then(kdW a).map λk=>.val (.bl (k.isA T))else none
 |_=>none
theorem Br:Ds X (.builtin "isinstance") (rN X.K (o2 Jj)):=by
 intro pins s σ H xs us Q I r h
 obtain⟨M,ws,w,e,mo,sh,q⟩:=h
 obtain⟨v,w1,v',w2,rfl,rfl,s1,s2,e1⟩:=QP sh e
 unfold Jj at e1
 split at e1
 .rename_i T
  split at e1
  .rename_i hT
   cases e2:kdW w1 with
   |none=>rw[e2]at e1;cases e1
   |some k=>
    rw[e2]at e1
    cases e1
    cases s2
    obtain⟨u1,u2,rfl,r1,r2⟩:=r.two
    cases (show u2=vn T from r2)
    have fin:∀tk,EP X pins σ Q (.bool (k.isA T)) {s with toks:=tk}:=λtk=>⟨.bl _,H,I.tok tk,rfl,q _ _ (.same mo (.bl _))⟩
    have kk:=eB (K:=X.K) hT k
    cases w1 with
    |own ds=>
     cases e2
     obtain⟨a,ys,rfl,h1,_⟩:=s1
     exact Fb I r1 (.lst h1) kk fin
    |val d=>
     have s1':C5 X.K M H v d:=s1
     cases s1' with
     |non=>cases e2;exact Fb I r1 .non kk fin
     |bl b=>cases e2;exact Fb I r1 (.bl b) kk fin
     |int b=>cases e2;exact Fb I r1 (.int b) kk fin
     |str b=>cases e2;exact Fb I r1 (.str b) kk fin
     |ty b=>cases e2
     |scr h=>cases e2
     |lst h n rr=>cases e2;exact Fb I r1 (.lst h) kk fin
     |dct h n rr=>cases e2;exact Fb I r1 (.dK h) kk fin
     |ref h=>cases e2
     |tup h rr=>
      cases e2
      rename_i a ys ds
      cases (show u1=qz a from r1)
      obtain⟨its,_,⟨o,h1,h2,_⟩,_⟩:=I.tuple h
      exact sI z7 I.kIn ⟨o,h1,h2⟩ kk (λz=>nomatch z) fin
  .cases e1
 .cases e1
noncomputable def BL(fs:List Ev):Ev:=λE S=>(evs fs E S).bind λr=>if r.1.length<=sizeLine then Gc (.tup r.1,r.2)else none
noncomputable def YM(c:qk)(fs:List Ev):Ev:=λE S=>(evs fs E S).bind λr=>if r.1.length<=sizeLine then fin c (.own r.1) r.2 else none
abbrev GH:=YM false
abbrev HQ:=YM true
theorem Ak{es:List qh}{fs:List Ev}{k:Nat}{pos:Pos}(h:DEs X es fs):DE X (.Tuple es k pos) (BL fs):=⟨BQ (di h.pe) λσ H Q z=>by
 obtain⟨M,E,S,d,S',e,r,st,q⟩:=z
 obtain⟨⟨ds,S1⟩,e1,e⟩:=An e
 dsimp only at e
 split at e
 .cases e
  refine IQ e1 r st λvs H1 M1 g1 st1 d1=>⟨by rw[d1.length];assumption,λp hp=>?_⟩
  have n:=Nw.tup st1.mo hp d1
  exact q _ _ M1 (g1.trans (.grow st1.mo n.grow)) (st1.grow n.grow) n.rel
 .cases e⟩
theorem BS{c:qk}{es:List qh}{fs:List Ev}{pos:Pos}(h:DEs X es fs):DE X (.List es pos) (YM c fs):=⟨BQ (eQ h.pe) λσ H Q z=>by
 obtain⟨M,E,S,d,S',e,r,st,q⟩:=z
 obtain⟨⟨ds,S1⟩,e1,e⟩:=An e
 dsimp only at e
 split at e
 .refine IQ e1 r st λvs H1 M1 g1 st1 d1=>⟨by rw[d1.length];assumption,λp hp=>?_⟩
  obtain⟨M2,g2,st2,d2⟩:=(Nw.lst st1.mo hp d1).fin st1 e
  exact q _ _ M2 (g1.trans g2) st2 d2
 .cases e⟩
noncomputable def GG(f g:Ev):Ev:=λE S=>(f E S).bind λr=>match r.1 with
 | .bl true=>g E r.2
 | .bl false=>Gc (.bl false,r.2)
 |_=>none
noncomputable def eOr(f g:Ev):Ev:=λE S=>(f E S).bind λr=>match r.1 with
 | .bl false=>g E r.2
 | .bl true=>Gc (.bl true,r.2)
 |_=>none
noncomputable def ZQ(f:Ev):Ev:=λE S=>(f E S).bind λr=>match r.1 with
 | .bl b=>Gc (.bl (!b),r.2)
 |_=>none
theorem Q1{K:pV}{M:Ms}{H:Hp}{v:V}{b:qk}(h:C5 K M H v (.bl b)):v=.bl b:=by cases h;rfl
variable{a b c:qh}{rest:List qh}{f g h:Ev}{pos:Pos}
theorem He{op:BoolOp}(h:DE X a f):DE X (.BoolOp op [a] pos) f:=⟨fX h.pe⟩
theorem HH(ha:DE X a f)(hb:DE X (.BoolOp .And (b::rest) pos) g):DE X (.BoolOp .And (a::b::rest) pos) (GG f g):=⟨BQ (gj ha.pe hb.pe) λσ H Q z=>by
 obtain⟨M,E,S,d,S',e,r,st,q⟩:=z
 obtain⟨⟨d1,S1⟩,e1,e⟩:=An e
 dsimp only at e
 refine⟨M,E,S,d1,S1,e1,r,st,λv H1 M1 g1 st1 r1=>?_⟩
 split at e
 .cases Q1 r1
  refine⟨_,rfl,?_⟩
  refine Yp ?_
  exact⟨M1,E,S1,d,S',e,r.step g1.st,st1,λv H2 M2 g2 st2 r2=>q _ _ M2 (g1.trans g2) st2 r2⟩
 .cases e
  cases Q1 r1
  refine⟨_,rfl,?_⟩
  refine Zk ?_
  exact q _ _ M1 g1 st1 r1
 .cases e⟩
theorem fQ(ha:DE X a f):DE X (.UnaryOp .Not a pos) (ZQ f):=⟨BQ (dR ha.pe) λσ H Q z=>by
 obtain⟨M,E,S,d,S',e,r,st,q⟩:=z
 obtain⟨⟨d1,S1⟩,e1,e⟩:=An e
 dsimp only at e
 split at e
 .cases e
  refine⟨M,E,S,_,_,e1,r,st,λv H1 M1 g1 st1 r1=>?_⟩
  cases Q1 r1
  exact⟨_,rfl,q _ _ M1 g1 st1 (.bl _)⟩
 .cases e⟩
noncomputable def tDT(K:pV)(f:Ev):TT:=λσ H Q=>∃M E S b S',f E S=Gc (.bl b,S')/\EnR K M E σ H/\StR K M S H/\∀H' M',Gr M H M' H'->StR K M' S' H'->Q b H'
structure DT(X:Cx)(e:qh)(f:Ev):Prop where
 pe:PT X e (tDT X.K f)
structure DW(X:Cx)(e:qh)(f:Ev):Prop where
 pe:PW X e (tDT X.K f)
theorem DW.dt(h:DW X a f):DT X a f:=⟨PW.pt h.pe⟩
theorem X7{t:TE}(h:PT X a (fE t))(m:∀σ H Q,tD X.K f σ H Q->t σ H Q):DT X a f:=⟨Vi h λσ H Q z=>by
 obtain⟨M,E,S,b,S',e,r,st,q⟩:=z
 refine m _ _ _ ⟨M,E,S,_,S',e,r,st,λv H1 M1 g1 st1 r1=>?_⟩
 cases Q1 r1
 exact⟨_,rfl,q _ M1 g1 st1⟩⟩
theorem HS(h:DE X a f)(he:∀whole,isTrue a X.env whole=(do let v<-whole;standAt a.pos;holding [v] (truthy v)):=by intro _;rfl):DT X a f:=X7 (t:=tD X.K f) (fT h.pe he) λ_ _ _ z=>z
theorem Ai{fa fb:Ev}{op:CmpOp}{f:Op2}(ho:OpR X (compareOp op) (rOp X.K f))(ha:DE X a fa)(hb:DE X b fb)(hm:behindInMarks op b=false:=by rfl):DT X (.Compare a [op] [b] pos) (eOp (o2 f) [fa,fb]):=
 X7 (cK ho ha.pe hb.pe hm) λ_ _ _ h=>RI h
theorem Zi(ha:DT X a f):DT X (.UnaryOp .Not a pos) (ZQ f):=⟨Vi (dg ha.pe) λσ H Q z=>by
 obtain⟨M,E,S,b,S',e,r,st,q⟩:=z
 obtain⟨⟨w1,S1⟩,e1,e⟩:=An e
 dsimp only at e
 split at e
 .cases e
  exact⟨M,E,S,_,_,e1,r,st,q⟩
 .cases e⟩
theorem El(ha:DT X a f):DW X (.BoolOp .And [a] pos) f:=⟨af ha.pe⟩
theorem RF(ha:DT X a f):DW X (.BoolOp .Or [a] pos) f:=⟨dJ ha.pe⟩
theorem UJ{e:qh}{t t':TT}(h:PW X e t)(m:∀σ H Q,t' σ H Q->t σ H Q):PW X e t':=λwh pins s σ H Q I q=>h wh pins s σ H Q I (m _ _ _ q)
theorem GR(ha:DT X a f)(hb:DW X (.BoolOp .And (b::rest) pos) g):DW X (.BoolOp .And (a::b::rest) pos) (GG f g):=⟨UJ (gg ha.pe hb.pe) λσ H Q z=>by
 obtain⟨M,E,S,k,S',e,r,st,q⟩:=z
 obtain⟨⟨w1,S1⟩,e1,e⟩:=An e
 dsimp only at e
 split at e
 .refine⟨M,E,S,_,S1,e1,r,st,λH1 M1 g1 st1=>?_⟩
  refine Yp ?_
  exact⟨M1,E,S1,k,S',e,r.step g1.st,st1,λH2 M2 g2 st2=>q _ M2 (g1.trans g2) st2⟩
 .cases e
  refine⟨M,E,S,_,_,e1,r,st,λH1 M1 g1 st1=>?_⟩
  refine Zk ?_
  exact q _ M1 g1 st1
 .cases e⟩
theorem So(ha:DT X a f)(hb:DW X (.BoolOp .Or (b::rest) pos) g):DW X (.BoolOp .Or (a::b::rest) pos) (eOr f g):=⟨UJ (jv ha.pe hb.pe) λσ H Q z=>by
 obtain⟨M,E,S,k,S',e,r,st,q⟩:=z
 obtain⟨⟨w1,S1⟩,e1,e⟩:=An e
 dsimp only at e
 split at e
 .refine⟨M,E,S,_,S1,e1,r,st,λH1 M1 g1 st1=>?_⟩
  refine Zk ?_
  exact⟨M1,E,S1,k,S',e,r.step g1.st,st1,λH2 M2 g2 st2=>q _ M2 (g1.trans g2) st2⟩
 .cases e
  refine⟨M,E,S,_,_,e1,r,st,λH1 M1 g1 st1=>?_⟩
  refine Yp ?_
  exact q _ M1 g1 st1
 .cases e⟩
end
inductive Fl where
 |nx
 |ret (d:D)
abbrev Ex:=En->Sto->pY (Fl×En×Sto)
def End(K:pV)(M:Ms)(H:Hp)(Dn:Ends)(E':En)(S':Sto):Fl->Prop
 | .nx=>∀σ' H' M',Gr M H M' H'->EnR K M' E' σ' H'->StR K M' S' H'->Dn.nx σ' H'
 | .ret d=>∀v H' M',Gr M H M' H'->StR K M' S' H'->C5 K M' H' v d->Dn.rt v H'
noncomputable def tX(K:pV)(f:Ex):TS:=λDn σ H=>∃M E S fl E' S',f E S=Gc (fl,E',S')/\EnR K M E σ H/\StR K M S H/\End K M H Dn E' S' fl
structure DS(X:Cx)(st:rO)(f:Ex):Prop where
 pe:PS X st (tX X.K f)
structure DSs(X:Cx)(st:List rO)(f:Ex):Prop where
 pe:PSs X st (tX X.K f)
theorem Ek{X:Cx}{e:rO}{t t':TS}(h:PS X e t)(m:∀Dn σ H,t' Dn σ H->t Dn σ H):PS X e t':=λpins s σ H Dn I q=>h pins s σ H Dn I (m _ _ _ q)
theorem JG{X:Cx}{e:List rO}{t t':TS}(h:PSs X e t)(m:∀Dn σ H,t' Dn σ H->t Dn σ H):PSs X e t':=λpins s σ H Dn I q=>h pins s σ H Dn I (m _ _ _ q)
theorem End.later{K:pV}{M M1:Ms}{H H1:Hp}{Dn:Ends}{E':En}{S':Sto}{fl:Fl}(q:End K M H Dn E' S' fl)(g:Gr M H M1 H1):End K M1 H1 Dn E' S' fl:=by
 cases fl with
 |nx=>exact λσ' H' M' g' r st=>q σ' H' M' (g.trans g') r st
 |ret d=>exact λv H' M' g' st r=>q v H' M' (g.trans g') st r
noncomputable def AU(f g:Ex):Ex:=λE S=>(f E S).bind λr=>match r.1 with
 | .nx=>g r.2.1 r.2.2
 | .ret w=>Gc (.ret w,r.2)
noncomputable def CZ:Ex:=λE S=>Gc (.nx,E,S)
section
variable{X:Cx}{st:rO}{rest a b:List rO}{f g h:Ex}{c e:qh}{k:Ev}{pos:Pos}
theorem Ap:DSs X [] CZ:=⟨JG UN λDn σ H z=>by
 obtain⟨M,E,S,fl,E',S',e,r,st,q⟩:=z
 cases e
 exact q _ _ M (.refl st.mo) r st⟩
theorem AG(h1:DS X st f)(h2:DSs X rest g):DSs X (st::rest) (AU f g):=⟨JG (Nx h1.pe h2.pe) λDn σ H z=>by
 obtain⟨M,E,S,fl,E',S',e,r,st,q⟩:=z
 obtain⟨⟨f1,E1,S1⟩,e1,e⟩:=An e
 dsimp only at e
 split at e
 .exact⟨M,E,S,.nx,E1,S1,e1,r,st,λσ1 H1 M1 g1 r1 st1=>⟨M1,E1,S1,fl,E',S',e,r1,st1,q.later g1⟩⟩
 .cases e
  exact⟨M,E,S,.ret _,_,_,e1,r,st,q⟩⟩
theorem AL(h1:DS X st f):DSs X [st] f:=⟨Tt h1.pe⟩
noncomputable def xIf(c:Ev)(f g:Ex):Ex:=λE S=>(c E S).bind λr=>match r.1 with
 | .bl true=>f E r.2
 | .bl false=>g E r.2
 |_=>none
theorem Bo(hc:DT X c k)(ha:DSs X a f)(hb:DSs X b g):DS X (.If c a b pos) (xIf k f g):=⟨Ek (eE hc.pe ha.pe hb.pe) λDn σ H z=>by
 obtain⟨M,E,S,fl,E',S',e,r,st,q⟩:=z
 obtain⟨⟨w1,S1⟩,e1,e⟩:=An e
 dsimp only at e
 split at e
 .refine⟨M,E,S,_,S1,e1,r,st,λH1 M1 g1 st1=>?_⟩
  refine Yp ?_
  exact⟨M1,E,S1,fl,E',S',e,r.step g1.st,st1,q.later g1⟩
 .refine⟨M,E,S,_,S1,e1,r,st,λH1 M1 g1 st1=>?_⟩
  refine Zk ?_
  exact⟨M1,E,S1,fl,E',S',e,r.step g1.st,st1,q.later g1⟩
 .cases e⟩
noncomputable def BR(k:Ev):Ex:=λE S=>(k E S).map λr=>(.ret r.1,E,r.2)
theorem AW(h:DE X e k):DS X (.Return (Gc e) pos) (BR k):=⟨Ek (gh h.pe) λDn σ H z=>by
 obtain⟨M,E,S,fl,E',S',e,r,st,q⟩:=z
 obtain⟨⟨d,S1⟩,e1,e⟩:=JO e
 cases e
 exact⟨M,E,S,d,S1,e1,r,st,λv H1 M1 g1 st1 r1=>q _ _ M1 g1 st1 r1⟩⟩
end
section
variable{K:pV}{M:Ms}{E:En}{σ:Sg}{H:Hp}{i:Nat}{d:D}{v:V}
theorem EnR.put(r:EnR K M E σ H)(rd:C5 K M H v d):EnR K M (E.set i (Gc d)) (σ.set i (Gc v)) H:=by
 refine⟨by rw[tm,tm];exact r.len,λj e ej=>?_⟩
 by_cases h:i=j
 .subst h
  by_cases hi:i<E.length
  .rw[qL hi]at ej
   cases ej
   exact⟨v,qL (by rw[<-r.len];exact hi),rd⟩
  .rw[sS.mpr (by rw[tm];lia)]at ej;cases ej
 .rw[qE h]at ej
  obtain⟨v',h1,h2⟩:=r.val j e ej
  exact⟨v',by rw[qE h];exact h1,h2⟩
end
noncomputable def A4(i:Nat)(k:Ev):Ex:=λE S=>(k E S).map λr=>(.nx,E.set i (Gc r.1),r.2)
theorem Ac{X:Cx}{e:qh}{k:Ev}{pos pos':Pos}(i:Nat){x:Str}(h:DE X e k)(hN:X.N.Nodup)(hi:X.N[i]?=Gc x:=by rfl)(hx:Loc X.env.scope x:=by first|exact Or.inl rfl|exact Or.inr rfl)(hs:swapsWith e (Gc (.Name x pos')) pos.line X.env=pure false:=by rfl)(hf:X.fn x=true\/X.env.scope.names.lookup x=Gc .local:=by first|exact .inl rfl|exact .inr rfl):DS X (.Assign [.Name x pos'] e pos) (A4 i k):=⟨
 Ek (dj hN hi hx h.pe hs hf) λDn σ H z=>by
  obtain⟨M,E,S,fl,E',S',e,r,st,q⟩:=z
  obtain⟨⟨d,S1⟩,e1,e⟩:=JO e
  cases e
  exact⟨M,E,S,d,S1,e1,r,st,λv H1 M1 g1 st1 r1=>q _ _ M1 g1 ((r.step g1.st).put r1) st1⟩⟩
noncomputable def Cb(k:Ev):Ex:=λE S=>(k E S).map λr=>(.nx,E,r.2)
theorem CQ{X:Cx}{e:qh}{k:Ev}{pos:Pos}(h:DE X e k)(hs:swapsWith e none pos.line X.env=pure false:=by rfl):DS X (.Expr e pos) (Cb k):=⟨Ek (aA h.pe hs) λDn σ H z=>by
 obtain⟨M,E,S,fl,E',S',e,r,st,q⟩:=z
 obtain⟨⟨d,S1⟩,e1,e⟩:=JO e
 cases e
 exact⟨M,E,S,d,S1,e1,r,st,λv H1 M1 g1 st1 r1=>q _ _ M1 g1 (r.step g1.st) st1⟩⟩
noncomputable def Ep(S:Sto)(n:Nat):pY (List D):=match S[n]? with
 |some (.lst ds)=>Gc ds
 |_=>none
theorem FJ{S:Sto}{n:Nat}{ds:List D}(h:Ep S n=Gc ds):S[n]?=Gc (.lst ds):=by
 unfold Ep at h
 split at h
 .rename_i e
  cases h
  exact e
 .cases h
abbrev Mo:=Sto->List D->List D->pY (D×List D)
noncomputable def Jv(op:Mo)(f:Ev)(fs:List Ev):Ev:=λE S=>(f E S).bind λr=>match r.1 with
 | .ref n=>(Ep r.2 n).bind λ_=>(evs fs E r.2).bind λp=>(Ep p.2 n).bind λds=>(op p.2 ds p.1).map λq=>(q.1,p.2.set n (.lst q.2))
 |_=>none
def iM(K:pV)(op:Mo):V->List V->Hp->VK->Prop:=λx vs H Q=>∃M S n a ds args d ds',x=.ref a/\M.cel[n]?=Gc a/\S[n]?=Gc (.lst ds)/\op S ds args=Gc (d,ds')/\StR K M S H/\Ao K M H vs args/\∀v H',StR K M (S.set n (.lst ds')) H'->Gr M H M H'->C5 K M H' v d->Q v H'
section
variable{X:Cx}
theorem fF{op:Mo}{f:Ev}{fs:List Ev}{σ:Sg}{H:Hp}{Q:VK}(h:tD X.K (Jv op f fs) σ H Q):tBM X.K "list" (iM X.K op) (tD X.K f) (tDs X.K fs) σ H Q:=by
 obtain⟨M,E,S,d,S',e,r,st,q⟩:=h
 obtain⟨⟨d1,S1⟩,e1,e⟩:=An e
 dsimp only at e
 split at e
 .rename_i n
  obtain⟨ds0,e2,e⟩:=An e
  obtain⟨⟨args,S2⟩,e3,e⟩:=An e
  obtain⟨ds,e4,e⟩:=An e
  obtain⟨⟨dd,ds'⟩,e5,e⟩:=JO e
  cases e
  refine⟨M,E,S,_,S1,e1,r,st,λv H1 M1 g1 st1 r1=>?_⟩
  cases r1 with
  |ref hc=>
   rename_i a
   obtain⟨xs,h1,h2⟩:=st1.cell n a _ hc (FJ e2)
   refine⟨.inl ⟨rfl,xs,.of h1⟩,?_⟩
   refine IQ e3 (r.step g1.st) st1 λvs H2 M2 g2 st2 r2=>?_
   exact⟨M2,S2,n,a,ds,args,dd,ds',rfl,L8 g2.pre hc,FJ e4,e5,st2,r2,λv H3 st3 g3 r3=>q _ _ M2 ((g1.trans g2).trans g3) st3 r3⟩
 .cases e
theorem GS{id:tZ}{name:Str}{o e:qh}{es:List qh}{op:Mo}{f:Ev}{fs:List Ev}{apos cpos:Pos}(slot:Slot "list" name id)(hty:typeOf (.builtin id)=pure (.type "method_descriptor"))(hm:MtR X id (iM X.K op))(ho:DE X o f)(ha:DEs X (e::es) fs)(hbase:attributeBase o name X.env (eval o X.env)=eval o X.env:=by rfl)(hfew:((backTo cpos (qb (e::es) X.env)).all (λx=> !x.1) && (backToKw cpos (keywordEach [] X.env)).all (λx=>x.1.isSome) && decide ((e::es).length+([]:List xo).length+(if([]:List xo).isEmpty then 0 else 1)<30))=true:=by rfl)(hline:(apos.endLine==cpos.line)=true:=by rfl)(hs:qb (e::es) X.env=(false,eval e X.env)::qb es X.env:=by rfl)(hplain:(backTo cpos (qb es X.env)).any (·.1)=false:=by rfl):DE X (.Call (.Attribute o name apos) (e::es) [] cpos) (Jv op f fs):=⟨BQ (j0 PySem.F.plainAttrs_list slot hty hm ho.pe ha.pe hbase hfew hline hs hplain) λσ H Q z=>fF z⟩
noncomputable def Ka:Mo
 |_,ds,[x]=>if ds.length<sizeLine then Gc (.non,ds++[x])else none
 |_,_,_=>none
theorem Qv{K:pV}{M:Ms}{H:Hp}{vs:List V}{d:D}(h:Ao K M H vs [d]):∃v,vs=[v]/\C5 K M H v d:=by
 cases h with
 |cons h t=>cases t;exact⟨_,rfl,h⟩
theorem Es:MtR X "list.append" (iM X.K Ka):=by
 intro pins s σ H x vs v us Q I rx rv h
 obtain⟨M,S,n,a,ds,args,d,ds',rfl,hc,hn,e,st,ra,q⟩:=h
 unfold Ka at e
 split at e
 .split at e
  .rename_i hz
   cases e
   obtain⟨xs,h1,h2⟩:=st.cell n a _ hc hn
   obtain⟨y,rfl,ry⟩:=Qv ra
   obtain⟨st2,g2⟩:=st.chg hc hn (h2.append (.cons ry .nil))
   exact Ol pins s σ H _ _ v us Q I rx rv ⟨a,xs,y,rfl,rfl,h1,by rw[h2.length];exact hz,q _ _ st2 g2 .non⟩
  .cases e
 .cases e
end
noncomputable def Od(k f o:Ev):Ex:=λE S=>(k E S).bind λr=>(f E r.2).bind λb=>(o E b.2).bind λi=>match b.1,i.1 with
 | .ref n,.int j=>(Ep i.2 n).bind λds=>(ixN ds.length j).map λm=>(.nx,E,i.2.set n (.lst (ds.set m r.1)))
 |_,_=>none
theorem Ck {X : Cx} {e t bs : qh} {k f o : Ev} {ps pos : Pos} (h : DE X e k) (hb : DE X bs f) (ht : DE X t o) (ha : ∀ v, assign (.Subscript bs t ps) X.env v = (do
      let ov ← holding [v] (eval bs X.env)
      let iv ← holding [v, ov] (eval t X.env)
      standAt ps
      holding [v, ov, iv] (setItem ov iv v)
      release [v, ov, iv] []) := by intro _; rfl)
    (hs : swapsWithSole [.Subscript bs t ps] e pos.line X.env = pure false := by rfl) (hw : swappedStores [.Subscript bs t ps] e X.env = pure none := by rfl)
    (h1 : (assignEach [.Subscript bs t ps] X.env).map (·.2) = [assign (.Subscript bs t ps) X.env] := by rfl) :
    DS X (.Assign [.Subscript bs t ps] e pos) (Od k f o) := ⟨
  Ek (Yo h.pe (gB hb.pe ht.pe set_list ha) hs hw h1) fun Dn σ H z => by
    obtain ⟨M, E, S, fl, E', S', e, r, st, q⟩ := z
    obtain ⟨⟨d, S1⟩, e1, e⟩ := An e
    obtain ⟨⟨b, S2⟩, e2, e⟩ := An e
    obtain ⟨⟨i, S3⟩, e3, e⟩ := An e
    dsimp only at e e1 e2 e3
    split at e
    · rename_i n j _
      obtain ⟨ds, e4, e⟩ := An e
      obtain ⟨m, e5, e⟩ := JO e
      cases e
      refine ⟨M, E, S, d, S1, e1, r, st, fun v H1 M1 g1 st1 r1 => ?_⟩
      refine ⟨M1, E, S1, _, S2, e2, r.step g1.st, st1, fun bv H2 M2 g2 st2 r2 => ?_⟩
      refine ⟨M2, E, S2, _, S3, e3, (r.step g1.st).step g2.st, st2, fun iv H3 M3 g3 st3 r3 => ?_⟩
      cases r3
      cases r2 with
      | ref hc =>
        rename_i a
        have hc3 := L8 g3.pre hc
        obtain ⟨xs, h1, h2⟩ := st3.cell n a _ hc3 (FJ e4)
        obtain ⟨st4, g4⟩ := st3.chg hc3 (FJ e4) (h2.set ((r1.step g2.st).step g3.st) m)
        have g := ((g1.trans g2).trans g3).trans g4
        exact ⟨a, xs, j, m, rfl, rfl, h1, by rw [h2.length]; exact e5, q _ _ M3 g (r.step g.st) st4⟩
    · cases e⟩
abbrev Fn:=List D->Sto->pY (D×Sto)
noncomputable def flD:Fl->D
 | .nx=>.non
 | .ret d=>d
noncomputable def BH(N:Nat)(body:Ex):Fn:=λds S=>(body (ds.map Gc++qZ (N-ds.length) none) S).map λr=>(flD r.1,r.2.2)
def BE{α:Type}(a:α):α:=Classical.choose (⟨a,rfl⟩:∃x,x=a)
theorem UQ{α:Type}(a:α):BE a=a:=Classical.choose_spec (⟨a,rfl⟩:∃x,x=a)
noncomputable def spD(K:pV)(np:Nat)(f:Fn):Sp:=λvs H Q _=>∃M ds S d S',ds.length=np/\f ds S=Gc (d,S')/\Ao K M H vs ds/\StR K M S H/\∀v H' M',Gr M H M' H'->StR K M' S' H'->C5 K M' H' v d->Q v H'
theorem O6{α:Type}{xs:List α}{i:Nat}{x:α}(h:(xs.map Gc)[i]?=Gc (Gc x)):xs[i]?=Gc x:=by
 rw[qf]at h
 cases e:xs[i]? with
 |none=>rw[e]at h;cases h
 |some y=>rw[e]at h;cases h;rfl
theorem VS{α:Type}{xs:List (pY α)}{k i:Nat}{x:α}(h:(xs++qZ k none)[i]?=Gc (Gc x)):xs[i]?=Gc (Gc x):=by
 by_cases hi:i<xs.length
 .rw[pq hi]at h;exact h
 .rw[qy (by lia),yL]at h
  split at h<;>cases h
theorem cV{α:Type}{xs:List (pY α)}{k i:Nat}{x:pY α}(h:xs[i]?=Gc x):(xs++qZ k none)[i]?=Gc x:=by
 rw[pq (qF.mp h).1];exact h
theorem EnR.args{K:pV}{M:Ms}{H:Hp}{vs:List V}{ds:List D}(r:Ao K M H vs ds)(k:Nat):EnR K M (ds.map Gc++qZ k none) (vs.map Gc++qZ k none) H:=by
 refine⟨by simp[r.length],λi d e=>?_⟩
 obtain⟨v,h1,h2⟩:=r.get (O6 (VS e))
 exact⟨v,cV (by rw[qf,h1];rfl),h2⟩
section
variable{P:qa}{w:qq}{K:pV}{mg:Str->pY pW}{base:qu}
theorem dB{x:Str}{st:rO}{f:pz}{fd:tU}{N ps:List Str}{k np:Nat}{b:Ex}(Fu:Fun K x x st f fd)(S:AX N ps (AK st))(hp:ps.length=np)(hb:∀(cdv:pW) (A:qx) (outer:List PySem.Env) (s:pX) (H:Hp) (E:XK),MM k (A.deeper (vg x (AK st) s.heap.objs.size f cdv))->DSs (Xb CX0 P w K mg base N x (AK st) f cdv A outer s H E).nox (Em st) b):PU P w K mg base CX0 (k+1) f fd ps (spD K np (BE (BH N.length b))):=by
 rw[UQ]
 refine Fu.ok S (λvs H Q E h=>?_) (λcdv A outer s H vs Q E hr h=>?_)
 .obtain⟨M,ds,S0,d,S',hl,_,r,_⟩:=h
  have:=r.length
  lia
 .obtain⟨M,ds,S0,d,S',hl,e,r,st,q⟩:=h
  have hlen:=r.length
  refine⟨_,(hb cdv A outer s H E hr).pe,?_⟩
  obtain⟨⟨fl,E',S1⟩,e1,e⟩:=JO e
  cases e
  refine⟨M,_,S0,fl,E',S1,e1,?_,st,?_⟩
  .rw[show L2.start N vs=vs.map Gc++qZ (N.length-ds.length) none from by unfold L2.start;rw[hlen]]
   exact .args r _
  .cases fl with
   |nx=>exact λσ' H' M' g _ st'=>q _ _ M' g st' .non
   |ret d=>exact λv H' M' g st' r'=>q _ _ M' g st' r'
theorem fL{x:Str}{st:rO}{N ps:List Str}{k np:Nat}{b:Ex}(S:St.Src K mg x st)(sc:AX N ps (AK st))(hp:ps.length=np)(hbi:∀f fd,Fun K x x st f fd->Binds K fd ps [])(hb:∀(f:pz) (cdv:pW) (A:qx) (outer:List PySem.Env) (s:pX) (H:Hp) (E:XK),MM k (A.deeper (vg x (AK st) s.heap.objs.size f cdv))->DSs (Xb CX0 P w K mg base N x (AK st) f cdv A outer s H E).nox (Em st) b):St.Dfn P w K mg base x (k+1) ps (spD K np (BE (BH N.length b))):=by
 obtain⟨f,fd,Fu,hm⟩:=S.ex
 exact⟨f,fd,hm,Fu.kp,hbi f fd Fu,dB Fu sc hp λcdv A outer s H E hr=>hb f cdv A outer s H E hr⟩
end
noncomputable def AJ(f:Fn)(fs:List Ev):Ev:=λE S=>(evs fs E S).bind λr=>f r.1 r.2
theorem aX{K:pV}{np:Nat}{f:Fn}{fs:List Ev}{σ:Sg}{H:Hp}{Q:VK}(hn:fs.length=np)(h:tD K (AJ f fs) σ H Q):ak (spD K np f) [] E0 (tDs K fs) σ H Q:=by
 obtain⟨M,E,S,d,S',e,r,st,q⟩:=h
 obtain⟨⟨ds,S1⟩,e1,e⟩:=An e
 refine IQ e1 r st λvs H1 M1 g1 st1 r1=>?_
 rw[uX]
 exact⟨M1,ds,S1,d,S',by rw[QT e1];exact hn,e,r1,st1,λv H2 M2 g2 st2 r2=>q _ _ M2 (g1.trans g2) st2 r2⟩
theorem cZ{X:Cx}{k np:Nat}{x:Str}{ps:List Str}{f:Fn}{e:qh}{es:List qh}{fs:List Ev}{p pos:Pos}(d:St.Dfn X.prog X.w X.K X.mg X.base x k ps (spD X.K np f))(hr:MM k X.A)(hg:Gl X x)(ha:DEs X (e::es) fs)(hn:fs.length=np:=by rfl)(hdb:(x==("__debug__":Str))=false:=by decide)(he:qb (e::es) X.env=(false,eval e X.env)::qb es X.env:=by rfl)(hpl:(backTo pos (qb es X.env)).any (·.1)=false:=by rfl):DE X (.Call (.Name x p) (e::es) [] pos) (AJ f fs):=⟨BQ (St.kO d hr hg ha.pe hdb he hpl) λσ H Q z=>aX hn z⟩
abbrev Tf:=D->En->Sto->pY En
noncomputable def tG(K:pV)(t:Tf):TG:=λv σ H Q=>∃M d E E' S,t d E S=Gc E'/\EnR K M E σ H/\StR K M S H/\C5 K M H v d/\∀σ',EnR K M E' σ' H->Q σ' H
structure DG(X:Cx)(tg:qh)(t:Tf):Prop where
 pe:PG X tg (tG X.K t)
noncomputable def tNm(i:Nat):Tf:=λd E _=>Gc (E.set i (Gc d))
theorem Tj{X:Cx}{e:qh}{t t':TG}(h:PG X e t)(m:∀v σ H Q,t' v σ H Q->t v σ H Q):PG X e t':=λpins s σ H v u Q I r q=>h pins s σ H v u Q I r (m _ _ _ _ q)
theorem Aj{X:Cx}{pos:Pos}(i:Nat){x:Str}(hN:X.N.Nodup)(hi:X.N[i]?=Gc x:=by rfl)(hx:Loc X.env.scope x:=by first|exact Or.inl rfl|exact Or.inr rfl)(hf:X.fn x=true\/X.env.scope.names.lookup x=Gc .local:=by first|exact .inl rfl|exact .inr rfl):DG X (.Name x pos) (tNm i):=⟨Tj (bp hN hi hx hf) λv σ H Q z=>by
 obtain⟨M,d,E,E',S,e,r,st,rd,q⟩:=z
 cases e
 exact q _ (r.put rd)⟩
noncomputable def tMs:List Tf->List D->En->Sto->pY En
 | [],[],E,_=>Gc E
 |t::ts,d::ds,E,S=>(t d E S).bind λE1=>tMs ts ds E1 S
 |_,_,_,_=>none
noncomputable def tTp(ts:List Tf):Tf:=λd E S=>match d with
 | .tup ds=>tMs ts ds E S
 | .lst ds=>tMs ts ds E S
 | .ref n=>(Ep S n).bind λds=>tMs ts ds E S
 |_=>none
noncomputable def tGs(K:pV):List Tf->TGs
 | []=>mD
 |t::ts=>eW (tG K t) (tGs K ts)
theorem Qz{K:pV}{M:Ms}{H:Hp}{S:Sto}(st:StR K M S H):∀{ts:List Tf} {ds:List D} {vs:List V} {E E':En} {σ:Sg} {Q:Sg->Hp->Prop},tMs ts ds E S=Gc E'->EnR K M E σ H->Ao K M H vs ds->(∀σ',EnR K M E' σ' H->Q σ' H)->tGs K ts vs σ H Q
 | [],[],_,E,E',σ,Q,e,r,rd,q=>by
   cases e
   cases rd
   exact⟨rfl,q _ r⟩
 |t::ts,d::ds,_,E,E',σ,Q,e,r,rd,q=>by
  obtain⟨E1,e1,e⟩:=An e
  cases rd with
  |cons h1 h2=>exact⟨_,_,rfl,M,d,E,E1,S,e1,r,st,h1,λσ1 r1=>Qz st e r1 h2 q⟩
 | [],_::_,_,E,E',σ,Q,e,r,rd,q=>by cases e
 |_::_,[],_,E,E',σ,Q,e,r,rd,q=>by cases e
theorem OT:∀{ts:List Tf} {ds:List D} {E E':En} {S:Sto},tMs ts ds E S=Gc E'->ds.length=ts.length
 | [],[],_,_,_,_=>rfl
 |t::ts,d::ds,E,E',S,e=>by
  obtain⟨E1,e1,e⟩:=An e
  simp[OT e]
 | [],_::_,_,_,_,e=>by cases e
 |_::_,[],_,_,_,e=>by cases e
structure DGs(X:Cx)(es:List qh)(ts:List Tf):Prop where
 pe:PGs X es (tGs X.K ts)
theorem CB{X:Cx}:DGs X [] []:=⟨Z7⟩
theorem AO{X:Cx}{e:qh}{es:List qh}{t:Tf}{ts:List Tf}(h:DG X e t)(g:DGs X es ts)(hs:(assignEach (e::es) X.env).map (·.2)=assign e X.env::(assignEach es X.env).map (·.2):=by rfl):DGs X (e::es) (t::ts):=⟨WX h.pe g.pe hs⟩
theorem GB{X:Cx}{k:Nat}{es:List qh}{ts:List Tf}{pos:Pos}(hc:X.calm=true)(h:DGs X es ts)(hn:(assignEach es X.env).length=ts.length:=by rfl)(hst:(assignEach es X.env).findIdx? (·.1)=none:=by rfl):DG X (.Tuple es k pos) (tTp ts):=⟨
 Tj (fB hc h.pe hn hst) λv σ H Q z=>by
  obtain⟨M,d,E,E',S,e,r,st,rd,q⟩:=z
  unfold tTp at e
  split at e
  .cases rd with
   |tup h1 h2=>exact⟨_,_,rfl,.inl h1,by rw[h2.length];exact OT e,Qz st e r h2 q⟩
  .cases rd with
   |lst h1 n h2=>exact⟨_,_,rfl,.inr h1,by rw[h2.length];exact OT e,Qz st e r h2 q⟩
  .obtain⟨ds,e1,e⟩:=An e
   cases rd with
   |ref hc=>
    obtain⟨xs,h1,h2⟩:=st.cell _ _ _ hc (FJ e1)
    exact⟨_,_,rfl,.inr h1,by rw[h2.length];exact OT e,Qz st e r h2 q⟩
  .cases e⟩
noncomputable def Nz(t:Tf)(k:Ev):Ex:=λE S=>(k E S).bind λr=>(t r.1 E r.2).map λE'=>(.nx,E',r.2)
theorem HI{X:Cx}{tg e:qh}{t:Tf}{k:Ev}{pos:Pos}(h:DE X e k)(hg:DG X tg t)(hs:swapsWithSole [tg] e pos.line X.env=pure false:=by rfl)(hw:swappedStores [tg] e X.env=pure none:=by rfl)(h1:(assignEach [tg] X.env).map (·.2)=[assign tg X.env]:=by rfl):DS X (.Assign [tg] e pos) (Nz t k):=⟨Ek (Yo h.pe hg.pe hs hw h1) λDn σ H z=>by
 obtain⟨M,E,S,fl,E',S',e,r,st,q⟩:=z
 obtain⟨⟨d,S1⟩,e1,e⟩:=An e
 obtain⟨E2,e2,e⟩:=JO e
 cases e
 exact⟨M,E,S,d,S1,e1,r,st,λv H1 M1 g1 st1 r1=>⟨M1,d,E,_,S1,e2,r.step g1.st,st1,r1,λσ' r2=>q _ _ M1 g1 r2 st1⟩⟩⟩
noncomputable def Rg(i j:Nat)(f g:Ev):Ex:=λE S=>(evs [f,g] E S).bind λr=>match r.1 with
 | [d,d']=>Gc (.nx,(E.set i (Gc d)).set j (Gc d'),r.2)
 |_=>none
theorem Lx{X:Cx}{i j:Nat}{x y:Str}{a b:qh}{f g:Ev}{px py pt:Pos}{kt k2:Nat}{pt2 pos:Pos}(hc:X.calm=true)(hN:X.N.Nodup)(hi:X.N[i]?=Gc x)(hj:X.N[j]?=Gc y)(hij:i≠j)(hx:X.env.scope.names.lookup x=Gc .local)(hy:X.env.scope.names.lookup y=Gc .local)(ha:DE X a f)(hb:DE X b g)(hw:swappedStores [.Tuple [.Name x px,.Name y py] kt pt] (.Tuple [a,b] k2 pt2) X.env=pure (Gc [x,y]):=by rfl)(hsa:qb [a,b] X.env=(false,eval a X.env)::qb [b] X.env:=by rfl)(hsb:qb [b] X.env=(false,eval b X.env)::qb [] X.env:=by rfl)(hs:swapsWithSole [.Tuple [.Name x px,.Name y py] kt pt] (.Tuple [a,b] k2 pt2) pos.line X.env=pure false:=by rfl):DS X (.Assign [.Tuple [.Name x px,.Name y py] kt pt] (.Tuple [a,b] k2 pt2) pos) (Rg i j f g):=⟨by
 refine Ek (dX hc hN hi hj hij hx hy (Nq ha.pe (Nq hb.pe T7 hsb) hsa) hw hs) λDn σ H z=>?_
 obtain⟨M,E,S,fl,E',S',e,r,st,q⟩:=z
 obtain⟨⟨ds,S1⟩,e1,e⟩:=An e
 refine IQ (K:=X.K) (fs:=[f,g]) e1 r st λvs H1 M1 g1 st1 r1=>?_
 dsimp only at e
 split at e
 .rename_i d d'
  cases e
  cases r1 with
  |cons h1 t=>
   cases t with
   |cons h2 t=>
    cases t
    exact⟨_,_,rfl,q _ _ M1 g1 (((r.step g1.st).put h1).put h2) st1⟩
 .cases e⟩
noncomputable def ZX:Ex:=λ_ _=>none
theorem Wh{X:Cx}{st:rO}:DS X st ZX:=⟨λ_ _ _ _ _ _ z=>by
 obtain⟨M,E,S,fl,E',S',e,_⟩:=z
 cases e⟩
abbrev Gd:=List (Nat×List D)
def gOk(gs:Gd)(S:Sto):Prop:=∀g∈gs,Ep S g.1=Gc g.2
abbrev Sr:=En->Sto->pY ((List D×Gd)×Sto)
structure fV(K:pV)(M:Ms)(H:Hp)(gs:Gd)(ds:List D)(J:It):Prop where
 go:∀(i:Nat) (H2:Hp) (M2:Ms) (S2:Sto),Sp1 M H M2 H2->StR K M2 S2 H2->gOk gs S2->i<ds.length->J.go i H2
 stop:∀(i:Nat) (H2:Hp) (M2:Ms) (S2:Sto),Sp1 M H M2 H2->StR K M2 S2 H2->gOk gs S2->ds.length<=i->J.stop i H2
 yld:∀(i:Nat) (H2:Hp) (M2:Ms) (S2:Sto) (x:V) (H3:Hp) (d:D),Sp1 M H M2 H2->StR K M2 S2 H2->gOk gs S2->ds[i]?=Gc d->J.yld i H2 x H3->(∀a o,H2 a=Gc o->H3 a=Gc o)/\C5 K M2 H3 x d
noncomputable def tI(K:pV)(s:Sr):TI:=λσ H R=>∃M E S ds gs S',s E S=Gc ((ds,gs),S')/\EnR K M E σ H/\StR K M S H/\∀J H' M',Gr M H M' H'->StR K M' S' H'->fV K M' H' gs ds J->R J H'
structure DI(X:Cx)(tg iter:qh)(s:Sr):Prop where
 pe:PI X tg iter (tI X.K s)
theorem Nv{X:Cx}{tg e:qh}{t t':TI}(h:PI X tg e t)(m:∀σ H R,t' σ H R->t σ H R):PI X tg e t':=λpins s σ H R I q=>h pins s σ H R I (m _ _ _ q)
noncomputable def oJ(K:pV)(tl:TE):TI:=λσ H R=>tl σ H λx H1=>∃a,x=.ref a/\(((∃xs,SqL K H1 a xs)/\R (Itl K a) H1)\/((∃xs,SqT K H1 a xs)/\R (Itt K a) H1))
theorem gF{X:Cx}{tg l:qh}{tl:TE}(hl:PE X l tl):PI X tg l (oJ X.K tl):=by
 intro pins s σ H R I h
 refine thn (hl pins s σ H _ I h) λv s1 ⟨x,H1,I1,r1,q1⟩=>?_
 obtain⟨a,e,q1⟩:=q1
 subst e
 cases r1
 rcases q1 with⟨⟨xs,hq⟩,q⟩|⟨⟨xs,hq⟩,q⟩
 .obtain⟨its,rv,p,hz⟩:=I1.list hq
  refine sM p.isList ?_
  refine⟨s1.heap.objs.size,[s1.heap.objs.size],_,_,H1,rfl,I1.kept (t':=s1.toks) λb o e=>pU _ e,U3 a _,⟨_,qG _ rfl,rfl,rfl⟩,λb hb=>?_,q⟩
  have e:b=s1.heap.objs.size:=by simpa using hb
  subst e
  exact I1.ZU (p9 _) (I1.hok.fresh (p9 _))
 .obtain⟨its,rv,p,hz⟩:=I1.tuple hq
  refine tR (show s1.heap.IsTuple a its.toArray from p) ?_
  refine⟨s1.heap.objs.size,[s1.heap.objs.size],_,_,H1,rfl,I1.kept (t':=s1.toks) λb o e=>pU _ e,Rc a _,⟨_,qG _ rfl,rfl,rfl⟩,λb hb=>?_,q⟩
  have e:b=s1.heap.objs.size:=by simpa using hb
  subst e
  exact I1.ZU (p9 _) (I1.hok.fresh (p9 _))
theorem Ao.get'{K:pV}{M:Ms}{H:Hp}{vs:List V}{ds:List D}{i:Nat}(h:Ao K M H vs ds)(hi:i<ds.length):∃x,vs[i]?=Gc x:=by
 have:=h.length
 exact⟨vs[i],pf (by omega)⟩
structure SqF(K:pV)(M:Ms)(H:Hp)(gs:Gd)(k:qk)(a:pz)(ds:List D):Prop where
 keep:∀(H2:Hp) (M2:Ms) (S2:Sto),Sp1 M H M2 H2->StR K M2 S2 H2->gOk gs S2->∃xs,(if k=true then SqT K H2 a xs else SqL K H2 a xs)/\Ao K M2 H2 xs ds
noncomputable def sqD(S:Sto):D->pY (List D×Gd)
 | .tup ds=>Gc (ds,[])
 | .lst ds=>Gc (ds,[])
 | .ref n=>(Ep S n).map λds=>(ds,[(n,ds)])
 | .scr ns=>Gc (ns.map .int,[])
 |_=>none
theorem RQ{K:pV}{M:Ms}{H:Hp}{S:Sto}{v:V}{d:D}{ds:List D}{gs:Gd}(st:StR K M S H)(h:C5 K M H v d)(e:sqD S d=Gc (ds,gs)):∃k a,v=.ref a/\SqF K M H gs k a ds:=by
 cases h with
 |tup h r=>cases e;exact⟨true,_,rfl,⟨λH2 M2 S2 g _ _=>⟨_,g.sqT h,r.step g⟩⟩⟩
 |lst h n r=>cases e;exact⟨false,_,rfl,⟨λH2 M2 S2 g _ _=>⟨_,SqL.of (g.keep _ _ h n),r.step g⟩⟩⟩
 |scr h=>
  cases e
  refine⟨false,_,rfl,⟨λH2 M2 S2 g _ _=>⟨_,?_,Jc⟩⟩⟩
  rcases h with⟨h,n⟩|h
  .rcases h with h|⟨o,h⟩
   .exact .inl (.inl (g.keep _ _ h n))
   .exact .inl (.inr ⟨o,g.keep _ _ h n⟩)
  .exact .inr h
 |ref h=>
  obtain⟨es,e1,e⟩:=JO e
  cases e
  refine⟨false,_,rfl,⟨λH2 M2 S2 g st2 ok=>?_⟩⟩
  obtain⟨xs,h1,h2⟩:=st2.cell _ _ _ (L8 g.pre h) (FJ (ok _ (qV.mpr rfl)))
  exact⟨xs,SqL.of h1,h2⟩
 |non=>cases e
 |bl b=>cases e
 |int b=>cases e
 |str b=>cases e
 |ty b=>cases e
 |dct h n r=>cases e
theorem kz{K:pV}{M:Ms}{H:Hp}{gs:Gd}{k:qk}{a:pz}{ds:List D}(h:SqF K M H gs k a ds):fV K M H gs ds (if k=true then Itt K a else Itl K a):=by
 cases k with
 |true=>
  exact{
   go:=λi H2 M2 S2 g st ok hi=>let⟨xs,h1,h2⟩:=h.keep H2 M2 S2 g st ok;let⟨x,hx⟩:=h2.get' hi;⟨xs,x,h1,hx⟩
   stop:=λi H2 M2 S2 g st ok hi=>let⟨xs,h1,h2⟩:=h.keep H2 M2 S2 g st ok;⟨xs,h1,by have:=h2.length;omega⟩
   yld:=λi H2 M2 S2 x H3 d g st ok hd hy=>by
    obtain⟨xs,h1,h2⟩:=h.keep H2 M2 S2 g st ok
    obtain⟨rfl,hy⟩:=hy
    refine⟨λ_ _ e=>e,?_⟩
    have hx:=hy xs h1
    obtain⟨x',h3,h4⟩:=h2.get hd
    rw[hx]at h3;cases h3
    exact h4}
 |false=>
  exact{
   go:=λi H2 M2 S2 g st ok hi=>let⟨xs,h1,h2⟩:=h.keep H2 M2 S2 g st ok;let⟨x,hx⟩:=h2.get' hi;⟨xs,x,h1,hx⟩
   stop:=λi H2 M2 S2 g st ok hi=>let⟨xs,h1,h2⟩:=h.keep H2 M2 S2 g st ok;⟨xs,h1,by have:=h2.length;omega⟩
   yld:=λi H2 M2 S2 x H3 d g st ok hd hy=>by
    obtain⟨xs,h1,h2⟩:=h.keep H2 M2 S2 g st ok
    obtain⟨rfl,hy⟩:=hy
    refine⟨λ_ _ e=>e,?_⟩
    have hx:=hy xs h1
    obtain⟨x',h3,h4⟩:=h2.get hd
    rw[hx]at h3;cases h3
    exact h4}
noncomputable def Fp(f:Ev):Sr:=λE S=>(f E S).bind λr=>(sqD r.2 r.1).map λp=>(p,r.2)
theorem Nu{S:Sto}{d:D}{ds:List D}{gs:Gd}(e:sqD S d=Gc (ds,gs)):gOk gs S:=by
 cases d<;>first|(cases e;done)|skip
 all_goals first
  |(cases e;intro g hg;cases hg;done)
  |(obtain⟨es,e1,e⟩:=JO e
    cases e
    intro g hg
    rw[qV.mp hg]
    exact e1)
theorem B7{X:Cx}{tg e:qh}{f:Ev}(h:DE X e f):DI X tg e (Fp f):=⟨Nv (gF h.pe) λσ H R z=>by
 obtain⟨M,E,S,ds,gs,S',e,r,st,q⟩:=z
 obtain⟨⟨d,S1⟩,e1,e⟩:=An e
 obtain⟨⟨ds',gs'⟩,e2,e⟩:=JO e
 cases e
 refine⟨M,E,S,d,S1,e1,r,st,λv H1 M1 g1 st1 r1=>?_⟩
 obtain⟨k,a,rfl,sq⟩:=RQ st1 r1 e2
 obtain⟨xs,hs,_⟩:=sq.keep H1 M1 S1 (Gr.refl st1.mo).st st1 (Nu e2)
 have it:=kz sq
 refine⟨a,rfl,?_⟩
 cases k with
 |true=>exact .inr ⟨⟨xs,hs⟩,q _ _ M1 g1 st1 it⟩
 |false=>exact .inl ⟨⟨xs,hs⟩,q _ _ M1 g1 st1 it⟩⟩
noncomputable def Kb(lo:Int)(n:Nat):List D:=(qR n).map λ(i:Nat)=>.int (lo+(i:Int))
theorem gI{K:pV}{M:Ms}{H:Hp}{lo:Int}{n:Nat}:fV K M H [] (Kb lo n) (Itr lo n) where
 go:=λi H2 M2 S2 g st ok hi=>by
  have:i<n:=by unfold Kb at hi;simpa using hi
  exact this
 stop:=λi H2 M2 S2 g st ok hi=>by
  have:n<=i:=by unfold Kb at hi;simpa using hi
  exact this
 yld:=λi H2 M2 S2 x H3 d g st ok hd hy=>by
  obtain⟨rfl,rfl⟩:=hy
  refine⟨λ_ _ e=>e,?_⟩
  unfold Kb at hd
  rw[qf]at hd
  cases e:(qR n)[i]? with
  |none=>rw[e]at hd;cases hd
  |some j=>
   rw[e]at hd
   cases hd
   have:j=i:=by
    obtain⟨h1,h2⟩:=qF.mp e
    simpa using h2.symm
   subst this
   exact .int _
noncomputable def K8(fs:List Ev):Sr:=λE S=>(evs fs E S).bind λr=>match r.1 with
 | [.int j]=>if(decide (-(2^62)<=j) && decide (j<2^62))=true then Gc ((Kb 0 j.toNat,[]),r.2)else none
 | [.int i,.int j]=>if(decide (-(2^62)<=i) && decide (i<2^62) && decide (-(2^62)<=j) && decide (j<2^62))=true then Gc ((Kb i (j-i).toNat,[]),r.2)else none
 |_=>none
theorem WM{K:pV}{M:Ms}{H:Hp}{vs:List V}{j:Int}(h:Ao K M H vs [.int j]):vs=[.int j]:=by
 cases h with
 |cons h t=>cases t;cases h;rfl
theorem EE{X:Cx}{tg a:qh}{o:Ev}{p pos:Pos}(hg:Gl X "range")(hm:X.mg "range"=none)(ha:DEs X [a] [o])(hs:qb [a] X.env=[(false,eval a X.env)]:=by rfl):DI X tg (.Call (.Name "range" p) [a] [] pos) (K8 [o]):=⟨
 Nv (UH hg hm ha.pe hs) λσ H R z=>by
  obtain⟨M,E,S,ds,gs,S',e,r,st,q⟩:=z
  obtain⟨⟨ws,S1⟩,e1,e⟩:=An e
  have hl:=QT e1
  refine IQ e1 r st λvs H1 M1 g1 st1 r1=>?_
  dsimp only at e
  split at e
  .split at e
   .rename_i j hk
    rw[qO]at hk
    cases e
    exact⟨j,WM r1,qM hk.1,qM hk.2,q _ _ M1 g1 st1 gI⟩
   .cases e
  .simp at hl
  .cases e⟩
open Classical in
def IV(gs:Gd)(t:Tf)(body:Ex):List D->En->Sto->pY (Fl×En×Sto)
 | [],E,S=>if gOk gs S then Gc (.nx,E,S)else none
 |d::ds,E,S=>if gOk gs S then(t d E S).bind λE1=>(body E1 S).bind λr=>match r.1 with
  | .nx=>IV gs t body ds r.2.1 r.2.2
  | .ret w=>Gc (.ret w,r.2)
  else none
def IF(s:Sr)(t:Tf)(body:Ex):Ex:=λE S=>(s E S).bind λr=>IV r.1.2 t body r.1.1 E r.2
theorem JZ{α:Type}{xs:List α}{i:Nat}{x:α}{r:List α}(h:xs.drop i=x::r):xs[i]?=Gc x/\xs.drop (i+1)=r/\i<xs.length:=by
 have hi:i<xs.length:=by
  by_cases hi:i<xs.length
  .exact hi
  .rw[uC (by omega)]at h;cases h
 rw[sE hi]at h
 cases h
 exact⟨pf hi,rfl,hi⟩
theorem D5{X:Cx}{tg iter:qh}{body:List rO}{s:Sr}{t:Tf}{b:Ex}{pos:Pos}(hp:zZ (model X.prog X.w) X.A X.env X.xe)(hc:X.calm=true)(hi:DI X tg iter s)(hg:DG X tg t)(hb:DSs X body b)(hs:∀x,foldedSetIterable iter X.env x=pure x:=by intro _;rfl):DS X (.For tg iter body [] pos) (IF s t b):=⟨Ek (Zt hp hc hi.pe hg.pe hb.pe hs) λDn σ H z=>by
 obtain⟨M,E,S,fl,E',S',e,r,st,q⟩:=z
 obtain⟨⟨⟨ds,gs⟩,S1⟩,e1,e⟩:=An e
 dsimp only at e
 refine⟨M,E,S,ds,gs,S1,e1,r,st,λJ H1 M1 g1 st1 it=>?_⟩
 refine⟨λi m σ' H'=>m=ds.length-i/\∃E2 S2 M2,IV gs t b (ds.drop i) E2 S2=Gc (fl,E',S')/\Gr M1 H1 M2 H'/\EnR X.K M2 E2 σ' H'/\StR X.K M2 S2 H',⟨_,rfl,E,S1,M1,e,.refl st1.mo,r.step g1.st,st1⟩,λi m σ2 H2 hW=>?_⟩
 obtain⟨rfl,E2,S2,M2,e2,g2,r2,st2⟩:=hW
 cases ed:ds.drop i with
 |nil=>
  rw[ed]at e2
  unfold IV at e2
  split at e2
  .rename_i ok
   cases e2
   left
   exact⟨it.stop i H2 M2 _ g2.st st2 ok (vX.mp ed),q _ _ M2 (g1.trans g2) r2 st2⟩
  .cases e2
 |cons d rest=>
  obtain⟨d1,d2,d3⟩:=JZ ed
  rw[ed]at e2
  unfold IV at e2
  split at e2
  .rename_i ok
   obtain⟨E3,e3,e2⟩:=An e2
   obtain⟨⟨f4,E4,S4⟩,e4,e2⟩:=An e2
   dsimp only at e2
   right
   refine⟨it.go i H2 M2 S2 g2.st st2 ok d3,λσ' H'=>∃m',m'<ds.length-i/\(m'=ds.length-(i+1)/\∃E2 S2 M2,IV gs t b (ds.drop (i+1)) E2 S2=Gc (fl,E',S')/\Gr M1 H1 M2 H'/\EnR X.K M2 E2 σ' H'/\StR X.K M2 S2 H'),λσ' H' z=>z,λx H3 hy=>?_⟩
   obtain⟨k3,rx⟩:=it.yld i H2 M2 S2 x H3 d g2.st st2 ok d1 hy
   have g3:Gr M2 H2 M2 H3:=.grow st2.mo k3
   refine⟨M2,d,E2,E3,S2,e3,r2.step g3.st,st2.grow k3,rx,λσ4 r4=>?_⟩
   refine⟨M2,E3,S2,f4,E4,S4,e4,r4,st2.grow k3,?_⟩
   split at e2
   .exact λσ6 H6 M6 g6 r6 st6=>⟨_,by omega,rfl,E4,S4,M6,by rw[d2];exact e2,(g2.trans g3).trans g6,r6,st6⟩
   .cases e2
    exact λv H6 M6 g6 st6 r6=>q _ _ M6 (((g1.trans g2).trans g3).trans g6) st6 r6
  .cases e2⟩
noncomputable def IS(c:Ev)(b:Ex):Nat->En->Sto->pY (Fl×En×Sto)
 |0,_,_=>none
 |k+1,E,S=>(c E S).bind λr=>match r.1 with
  | .bl true=>(b E r.2).bind λp=>match p.1 with
    | .nx=>IS c b k p.2.1 p.2.2
    | .ret w=>Gc (.ret w,p.2)
  | .bl false=>Gc (.nx,E,r.2)
  |_=>none
noncomputable def Vc(fuel:En->Nat)(c:Ev)(b:Ex):Ex:=λE S=>IS c b (fuel E) E S
theorem Xg{X:Cx}{c:qh}{body:List rO}{k:Ev}{b:Ex}{pos:Pos}(fuel:En->Nat)(hp:zZ (model X.prog X.w) X.A X.env X.xe)(hc:DT X c k)(hb:DSs X body b):DS X (.While c body [] pos) (Vc fuel k b):=⟨
 Ek (X9 hp hc.pe hb.pe) λDn σ H z=>by
  obtain⟨M,E,S,fl,E',S',e,r,st,q⟩:=z
  refine⟨λm σ' H'=>∃E2 S2 M2,IS k b m E2 S2=Gc (fl,E',S')/\Gr M H M2 H'/\EnR X.K M2 E2 σ' H'/\StR X.K M2 S2 H',⟨fuel E,E,S,M,e,.refl st.mo,r,st⟩,λm σ2 H2 hW=>?_⟩
  obtain⟨E2,S2,M2,e2,g2,r2,st2⟩:=hW
  cases m with
  |zero=>cases e2
  |succ m=>
   obtain⟨⟨w3,S3⟩,e3,e2⟩:=An e2
   dsimp only at e2
   split at e2
   .obtain⟨⟨f4,E4,S4⟩,e4,e2⟩:=An e2
    refine⟨M2,E2,S2,true,S3,e3,r2,st2,λH3 M3 g3 st3=>?_⟩
    refine Yp ⟨λσ' H'=>∃m',m'<m+1/\∃E2 S2 M2,IS k b m' E2 S2=Gc (fl,E',S')/\Gr M H M2 H'/\EnR X.K M2 E2 σ' H'/\StR X.K M2 S2 H',λσ' H' z=>z,?_⟩
    refine⟨M3,E2,S3,f4,E4,S4,e4,r2.step g3.st,st3,?_⟩
    dsimp only at e2
    split at e2
    .exact λσ5 H5 M5 g5 r5 st5=>⟨m,by omega,E4,S4,M5,e2,(g2.trans g3).trans g5,r5,st5⟩
    .cases e2
     exact λv H5 M5 g5 st5 r5=>q _ _ M5 ((g2.trans g3).trans g5) st5 r5
   .cases e2
    refine⟨M2,_,S2,false,_,e3,r2,st2,λH3 M3 g3 st3=>?_⟩
    refine Zk ?_
    exact q _ _ M3 (g2.trans g3) (r2.step g3.st) st3
   .cases e2⟩
noncomputable def bA(i:Nat):En->Nat:=λE=>match at? E i with
 |some (.int j)=>j.natAbs+2
 |_=>0
section
variable{K:pV}{M M' M2:Ms}{H H' H2:Hp}{S:Sto}
structure GrX(M:Ms)(H:Hp)(M':Ms)(H':Hp):Prop where
 pre:M.cel <+: M'.cel
 fresh:∀a,a∈M'.cel->a∈M.cel\/H a=none
 keep:∀a o,H a=Gc o->a∉M.cel->H' a=Gc o
 some:∀a,H a≠none->H' a≠none
theorem GrX.none(g:GrX M H M' H'){a:pz}(h:H' a=none):H a=none:=by
 cases e:H a with
 |none=>rfl
 |some o=>exact absurd h (g.some a (by rw[e];intro z;cases z))
theorem Gr.x(g:Gr M H M' H'):GrX M H M' H':=⟨g.pre,g.fresh,g.keep,g.some⟩
theorem GrX.trans(h:GrX M H M' H')(g:GrX M' H' M2 H2):GrX M H M2 H2:=
 ⟨h.pre.trans g.pre,λa z=>(g.fresh a z).elim (h.fresh a) λz=>.inr (h.none z),λa o e n=>g.keep a o (h.keep a o e n) (λz=>by
   rcases h.fresh a z with z|z
   .exact n z
   .rw[e]at z;cases z),λa e=>g.some a (h.some a e)⟩
theorem StR.fm(r:StR K M S H){a:pz}(e:H a=none):StR K ⟨M.cel,a::M.tmp⟩ S (upd H a (.lst []))/\GrX M H ⟨M.cel,a::M.tmp⟩ (upd H a (.lst []))/\Sp1 M H ⟨M.cel,a::M.tmp⟩ (upd H a (.lst [])):=by
 have k:∀b o,H b=Gc o->upd H a (.lst []) b=Gc o:=F6 e
 have na:¬M.mem a:=λz=>r.mo.some z e
 have s1:Sp1 M H ⟨M.cel,a::M.tmp⟩ (upd H a (.lst [])):=⟨r.mo,rL,λb z=>by
  rcases z with z|z
  .exact .inl (.inl z)
  .rcases qA.mp z with z|z
   .subst z;exact .inr e
   .exact .inl (.inr z),λb o eb _=>k b o eb⟩
 refine⟨⟨λb z=>?_,r.nd,λb hb z=>?_,r.len,λn b c h1 h2=>?_⟩,⟨rL,λb z=>.inl z,λb o eb _=>k b o eb,λb eb z=>?_⟩,s1⟩
 .by_cases h:b=a
  .subst h;exact .inl ⟨[],Aw⟩
  .rw[Aa h]
   refine r.mo b ?_
   rcases z with z|z
   .exact .inl z
   .rcases qA.mp z with z|z
    .exact absurd z h
    .exact .inr z
 .rcases qA.mp hb with hb|hb
  .subst hb;exact na (.inl z)
  .exact r.nt b hb z
 .have q:=r.cell n b c h1 h2
  cases c with
  |lst ds=>obtain⟨xs,e,rr⟩:=q;exact⟨xs,k _ _ e,rr.step s1⟩
  |dct ds=>obtain⟨xs,e,rr⟩:=q;exact⟨xs,k _ _ e,rr.step s1⟩
  |tab ds=>obtain⟨xs,e,rr⟩:=q;exact⟨xs,k _ _ e,rr.step s1⟩
 .cases h:H b with
  |none=>exact eb h
  |some o=>rw[k b o h]at z;cases z
theorem StR.aC(r:StR K M S H){a:pz}{ys:List V}(ha:a∈M.tmp):StR K M S (upd H a (.lst ys))/\Sp1 M H M (upd H a (.lst ys)):=by
 have s1:Sp1 M H M (upd H a (.lst ys)):=⟨r.mo,rL,λb z=>.inl z,λb o eb nb=>by rw[Aa (λz=>nb (by rw[z];exact .inr ha))];exact eb⟩
 refine⟨⟨λb z=>?_,r.nd,r.nt,r.len,λn b c h1 h2=>?_⟩,s1⟩
 .by_cases h:b=a
  .subst h;exact .inl ⟨ys,Aw⟩
  .rw[Aa h];exact r.mo b z
 .have hb:b≠a:=λz=>r.nt a ha (by rw[<-z];exact qX h1)
  have q:=r.cell n b c h1 h2
  cases c with
  |lst ds=>obtain⟨xs,e,rr⟩:=q;exact⟨xs,by rw[Aa hb];exact e,rr.step s1⟩
  |dct ds=>obtain⟨xs,e,rr⟩:=q;exact⟨xs,by rw[Aa hb];exact e,rr.step s1⟩
  |tab ds=>obtain⟨xs,e,rr⟩:=q;exact⟨xs,by rw[Aa hb];exact e,rr.step s1⟩
theorem StR.aL{c:List pz}{t:List pz}{a:pz}{xs:List V}{ds:List D}{cf:qk}{d:D}{S':Sto}(r:StR K ⟨c,a::t⟩ S H)(nt:a∉t)(e:H a=Gc (.lst xs))(rr:Ao K ⟨c,a::t⟩ H xs ds)(ef:fin cf (.own ds) S=Gc (d,S')):∃c',StR K ⟨c',t⟩ S' H/\C5 K ⟨c',t⟩ H (.ref a) d/\c <+: c'/\(∀b∈c',b∈c\/b=a):=by
 have nc:a∉c:=r.nt a qH
 cases cf with
 |false=>
  cases ef
  have s1:Sp1 ⟨c,a::t⟩ H ⟨c,t⟩ H:=⟨r.mo,rL,λb z=>.inl (z.imp id (qC _)),λ_ _ e _=>e⟩
  refine⟨c,⟨λb z=>r.mo b (z.imp id (qC _)),r.nd,λb hb=>r.nt b (qC _ hb),r.len,λn b cl h1 h2=>?_⟩,.lst e (λz=>z.elim nc nt) (rr.step s1),rL,λb z=>.inl z⟩
  have q:=r.cell n b cl h1 h2
  cases cl with
  |lst ds=>obtain⟨xs,e,rr⟩:=q;exact⟨xs,e,rr.step s1⟩
  |dct ds=>obtain⟨xs,e,rr⟩:=q;exact⟨xs,e,rr.step s1⟩
  |tab ds=>obtain⟨xs,e,rr⟩:=q;exact⟨xs,e,rr.step s1⟩
 |true=>
  cases ef
  have s1:Sp1 ⟨c,a::t⟩ H ⟨c++[a],t⟩ H:=⟨r.mo,vH _ _,λb z=>by
   rcases z with z|z
   .rcases qW.mp z with z|z
    .exact .inl (.inl z)
    .exact .inl (.inr (by rw[qV.mp z];exact qH))
   .exact .inl (.inr (qC _ z)),λ_ _ e _=>e⟩
  have hl:c.length=S.length:=r.len
  refine⟨c++[a],⟨λb z=>?_,?_,λb hb z=>?_,by simp[hl],λn b cl h1 h2=>?_⟩,.ref ?_,vH _ _,λb z=>?_⟩
  .refine r.mo b ?_
   rcases z with z|z
   .rcases qW.mp z with z|z
    .exact .inl z
    .exact .inr (by rw[qV.mp z];exact qH)
   .exact .inr (qC _ z)
  .rw[sN]
   refine⟨r.nd,by simp,λx hx y hy z=>?_⟩
   simp at hy;subst hy
   exact nc (by rw[<-z];exact hx)
  .rcases qW.mp z with z|z
   .exact r.nt b (qC _ hb) z
   .rw[qV.mp z]at hb;exact nt hb
  .by_cases h:n<S.length
   .rw[pq (by rw[hl];exact h)]at h1
    rw[pq h]at h2
    have q:=r.cell n b cl h1 h2
    cases cl with
    |lst ds=>obtain⟨xs,e,rr⟩:=q;exact⟨xs,e,rr.step s1⟩
    |dct ds=>obtain⟨xs,e,rr⟩:=q;exact⟨xs,e,rr.step s1⟩
    |tab ds=>obtain⟨xs,e,rr⟩:=q;exact⟨xs,e,rr.step s1⟩
   .have hm:n=S.length:=by
     have:=(qF.mp h2).1
     simp at this;omega
    subst hm
    rw[qy (by rw[hl];exact p9 _)]at h1
    rw[qy (p9 _)]at h2
    rw[hl]at h1
    simp at h1 h2
    subst h1 h2
    exact⟨xs,e,rr.step s1⟩
  .rw[<-hl];exact qQ
  .rcases qW.mp z with z|z
   .exact .inl z
   .exact .inr (qV.mp z)
end
open Classical in
def CC(gs:Gd)(t:Tf)(c:Ev)(f:Ev):List D->List D->En->Sto->pY (List D×Sto)
 | [],acc,_,S=>if gOk gs S then Gc (acc,S)else none
 |d::ds,acc,E,S=>if gOk gs S then(if acc.length<sizeLine then(t d E S).bind λE1=>(c E1 S).bind λr=>match r.1 with
   | .bl true=>(f E1 r.2).bind λp=>CC gs t c f ds (acc++[p.1]) E1 p.2
   | .bl false=>CC gs t c f ds acc E1 r.2
   |_=>none
  else none)else none
noncomputable def By:Ev:=λ_ S=>Gc (.bl true,S)
noncomputable def Qf(cap:List Nat)(m:Nat)(E:En):En:=cap.map (at? E)++qZ m none
def NY(cf:qk)(cap:List Nat)(m:Nat)(s:Sr)(t:Tf)(c:Ev)(f:Ev):Ev:=λE S=>(s E S).bind λr=>(CC r.1.2 t c f r.1.1 [] (Qf cap m E) r.2).bind λq=>fin cf (.own q.1) q.2
noncomputable abbrev Cc:=NY false
noncomputable abbrev Yr:=NY true
noncomputable def ixC(cap:List Nat)(m:Nat):List (pY Nat):=cap.map Gc++qZ m none
theorem EnR.cap{K:pV}{M:Ms}{E:En}{σ:Sg}{H:Hp}(r:EnR K M E σ H)(cap:List Nat)(m:Nat):EnR K M (Qf cap m E) (sig (ixC cap m) σ) H:=by
 unfold Qf sig ixC
 refine⟨by simp,λi d e=>?_⟩
 have h1:=VS e
 rw[qf]at h1
 cases e1:cap[i]? with
 |none=>rw[e1]at h1;cases h1
 |some j=>
  rw[e1]at h1
  have h2:at? E j=Gc d:=by simpa using h1
  obtain⟨v,hv,rd⟩:=r.val j d (at?_some h2)
  refine⟨v,?_,rd⟩
  have hi:i<cap.length:=(qF.mp e1).1
  rw[sf,pq (by simpa using hi),qf,qf,e1]
  show Gc ((σ[j]?).join)=Gc (Gc v)
  rw[hv]
  rfl
theorem Sl{K:pV}{cf:qk}{cap:List Nat}{m:Nat}{s:Sr}{t:Tf}{c f:Ev}{σ:Sg}{H:Hp}{Q:VK}(h:tD K (NY cf cap m s t c f) σ H Q):aY (ixC cap m) (tI K s) (tG K t) (tDT K c) (tD K f) σ H Q:=by
 obtain⟨M,E,S,d,S',e,r,st,q⟩:=h
 obtain⟨⟨⟨ds,gs⟩,S1⟩,e1,e⟩:=An e
 obtain⟨⟨accf,Sf⟩,e3,e⟩:=An e
 dsimp only at e e3
 refine⟨M,E,S,ds,gs,S1,e1,r,st,λJ H1 M1 g1 st1 it A0 hD=>?_⟩
 obtain⟨st0,gx0,s0⟩:=st1.fm hD
 have nt:A0∉M1.tmp:=λz=>st1.mo.some (.inr z) hD
 refine⟨λi mm σ' H' ys=>mm=ds.length-i/\∃Ei Si Mi acc,CC gs t c f (ds.drop i) acc Ei Si=Gc (accf,Sf)/\GrX M1 H1 Mi H'/\Mi.tmp=A0::M1.tmp/\EnR K Mi Ei σ' H'/\StR K Mi Si H'/\H' A0=Gc (.lst ys)/\Ao K Mi H' ys acc,
  ⟨_,rfl,_,S1,_,[],e3,gx0,rfl,((r.step g1.st).step s0).cap cap m,st0,Aw,.nil⟩,λi mm σ2 H2 ys hW=>?_⟩
 obtain⟨rfl,Ei,Si,Mi,acc,ec,gx,ht,r2,st2,hy,ry⟩:=hW
 have sp:Sp1 M1 H1 Mi H2:=⟨st1.mo,gx.pre,λa z=>by
  rcases z with z|z
  .exact(gx.fresh a z).imp .inl id
  .rw[ht]at z
   rcases qA.mp z with z|z
   .subst z;exact .inr hD
   .exact .inl (.inr z),λa o eo no=>gx.keep a o eo λz=>no (.inl z)⟩
 refine⟨hy,?_⟩
 cases ed:ds.drop i with
 |nil=>
  rw[ed]at ec
  unfold CC at ec
  split at ec
  .rename_i ok
   cases ec
   left
   obtain⟨ci,ti⟩:=Mi
   have ht':ti=A0::M1.tmp:=ht
   subst ht'
   obtain⟨c',st',rd',pr',sub'⟩:=st2.aL nt hy ry e
   refine⟨it.stop i H2 _ _ sp st2 ok (vX.mp ed),q _ _ ⟨c',M1.tmp⟩ (g1.trans ⟨st1.mo,gx.pre.trans pr',rfl,λa z=>?_,gx.keep,gx.some⟩) st' rd'⟩
   rcases sub' a z with z|z
   .exact gx.fresh a z
   .subst z;exact .inr hD
  .cases ec
 |cons d rest=>
  obtain⟨d1,d2,d3⟩:=JZ ed
  rw[ed]at ec
  unfold CC at ec
  split at ec
  .rename_i ok
   split at ec
   .rename_i hz
    obtain⟨E3,e4,ec⟩:=An ec
    obtain⟨⟨w5,S5⟩,e5,ec⟩:=An ec
    right
    refine⟨it.go i H2 Mi Si sp st2 ok d3,by rw[ry.length];exact hz,λx H3 hyl=>?_⟩
    obtain⟨k3,rx⟩:=it.yld i H2 Mi Si x H3 d sp st2 ok d1 hyl
    have g3:Gr Mi H2 Mi H3:=.grow st2.mo k3
    have st3:=st2.grow k3
    refine⟨Mi,d,Ei,E3,Si,e4,r2.step g3.st,st3,rx,λσ4 r4=>?_⟩
    have hA:A0∈Mi.tmp:=by rw[ht];exact qH
    have hy3:H3 A0=Gc (.lst ys):=k3 _ _ hy
    have ry3:Ao K Mi H3 ys acc:=ry.step g3.st
    have fin:∀{E6:En} {S6:Sto} {M6:Ms} {H6:Hp} {zs:List V} {acc6:List D},CC gs t c f rest acc6 E6 S6=Gc (accf,Sf)->GrX M1 H1 M6 H6->M6.tmp=A0::M1.tmp->EnR K M6 E6 σ4 H6->StR K M6 S6 H6->H6 A0=Gc (.lst zs)->Ao K M6 H6 zs acc6->
      ∃m',m'<ds.length-i/\(m'=ds.length-(i+1)/\∃Ei Si Mi acc,CC gs t c f (ds.drop (i+1)) acc Ei Si=Gc (accf,Sf)/\GrX M1 H1 Mi H6/\Mi.tmp=A0::M1.tmp/\EnR K Mi Ei σ4 H6/\StR K Mi Si H6/\H6 A0=Gc (.lst zs)/\Ao K Mi H6 zs acc):=
     λ{E6 S6 M6 H6 zs acc6} ec g6 t6 r6 st6 h6 y6=>⟨_,by omega,rfl,E6,S6,M6,acc6,by rw[d2];exact ec,g6,t6,r6,st6,h6,y6⟩
    dsimp only at ec
    split at ec
    .obtain⟨⟨w7,S7⟩,e7,ec⟩:=An ec
     refine⟨Mi,E3,Si,true,S5,e5,r4,st3,λH5 M5 g5 st5=>?_⟩
     refine Yp ?_
     refine⟨M5,E3,S5,w7,S7,e7,r4.step g5.st,st5,λy H7 M7 g7 st7 d7=>?_⟩
     have nA:∀{M6:Ms} {H6:Hp} {S6:Sto},StR K M6 S6 H6->A0∈M6.tmp->A0∉M6.cel:=λr6 h6=>r6.nt A0 h6
     have hA5:A0∈M5.tmp:=by rw[g5.tmp];exact hA
     have hA7:A0∈M7.tmp:=by rw[g7.tmp];exact hA5
     have hy5:H5 A0=Gc (.lst ys):=g5.keep _ _ hy3 (nA st3 hA)
     have hy7:H7 A0=Gc (.lst ys):=g7.keep _ _ hy5 (nA st5 hA5)
     have ry7:Ao K M7 H7 ys acc:=(ry3.step g5.st).step g7.st
     refine⟨hy7,?_⟩
     obtain⟨st8,s8⟩:=st7.aC (ys:=ys++[y]) hA7
     have gx7:GrX M1 H1 M7 H7:=((gx.trans g3.x).trans g5.x).trans g7.x
     have gx8:GrX M1 H1 M7 (upd H7 A0 (.lst (ys++[y]))):=⟨gx7.pre,gx7.fresh,λa o eo no=>by
      rw[Aa (λz=>by subst z;rw[hD]at eo;cases eo)]
      exact gx7.keep a o eo no,λa ea=>by
      by_cases h:a=A0
      .subst h;rw[Aw];intro z;cases z
      .rw[Aa h];exact gx7.some a ea⟩
     exact fin ec gx8 (by rw[g7.tmp,g5.tmp];exact ht) (((r4.step g5.st).step g7.st).step s8) st8 Aw ((ry7.append (.cons d7 .nil)).step s8)
    .refine⟨Mi,E3,Si,false,S5,e5,r4,st3,λH5 M5 g5 st5=>?_⟩
     refine Zk ?_
     exact fin ec ((gx.trans g3.x).trans g5.x) (by rw[g5.tmp];exact ht) (r4.step g5.st) st5 (g5.keep _ _ hy3 (st3.nt A0 hA)) (ry3.step g5.st)
    .cases ec
   .cases ec
  .cases ec
structure DTs(X:Cx)(ifs:List qh)(c:Ev):Prop where
 pe:PTs X ifs (tDT X.K c)
theorem Wc{X:Cx}{e:List qh}{t t':TT}(h:PTs X e t)(m:∀σ H Q,t' σ H Q->t σ H Q):PTs X e t':=λpins s σ H Q I q=>h pins s σ H Q I (m _ _ _ q)
theorem CJ{X:Cx}:DTs X [] By:=⟨Wc bH λσ H Q z=>by
 obtain⟨M,E,S,b,S',e,r,st,q⟩:=z
 cases e
 exact q _ M (.refl st.mo) st⟩
theorem GD{X:Cx}{c:qh}{f:Ev}(h:DT X c f):DTs X [c] f:=⟨bG h.pe⟩
section
variable{X:Cx}{N':List Str}{cf:qk}{cap:List Nat}{m:Nat}{scope:tT}{elt tg iter:qh}{ifs:List qh}{pos:Pos}{s:Sr}{t:Tf}{c f:Ev}
def Blk(X:Cx)(N':List Str)(scope:tT)(tg:qh)(ifs:List qh)(elt:qh)(t:Tf)(c f:Ev):Prop:=
 ∀(s:pX) (H:Hp) (fp:List pz),DG (Cp X N' scope s H fp) tg t/\DTs (Cp X N' scope s H fp) ifs c/\DE (Cp X N' scope s H fp) elt f
theorem CP(cap:List Nat)(m:Nat)(N':List Str)(hc:X.calm=true)(S:AS X.N X.env.scope N' (ixC cap m) scope)(hi:DI X tg iter s)(hb:Blk X N' scope tg ifs elt t c f)(hs:∀x,foldedSetIterable iter X.env x=pure x:=by intro _;rfl):DE X (.ListComp elt [⟨tg,iter,ifs,0⟩] scope pos) (NY cf cap m s t c f):=⟨
 BQ (cD (g:=tG X.K t) (tc:=tDT X.K c) (te:=tD X.K f) hc S hi.pe (λs H fp=>⟨(hb s H fp).1.pe,(hb s H fp).2.1.pe,(hb s H fp).2.2.pe⟩) hs) λ_ _ _ h=>Sl h⟩
theorem Dk{i:Nat}{y:Str}{py spos:Pos}(cap:List Nat)(m:Nat)(N':List Str)(hc:X.calm=true)(hN:X.N.Nodup)(hi':X.N[i]?=Gc y)(hx:X.env.scope.names.lookup y=Gc .local)(S:AS X.N X.env.scope N' (ixC cap m) scope)(hi:DI X tg iter s)(hb:Blk X N' scope tg ifs elt t c f)(hsw:swapsWith (.ListComp elt [⟨tg,iter,ifs,0⟩] scope pos) (Gc (.Name y py)) spos.line X.env=pure true:=by rfl)(hs:∀x,foldedSetIterable iter X.env x=pure x:=by intro _;rfl):DS X (.Assign [.Name y py] (.ListComp elt [⟨tg,iter,ifs,0⟩] scope pos) spos) (A4 i (NY cf cap m s t c f)):=⟨
 Ek (SN (g:=tG X.K t) (tc:=tDT X.K c) (te:=tD X.K f) hc hN hi' hx S hi.pe (λs H fp=>⟨(hb s H fp).1.pe,(hb s H fp).2.1.pe,(hb s H fp).2.2.pe⟩) hsw hs) λDn σ H z=>by
  obtain⟨M,E,S,fl,E',S',e,r,st,q⟩:=z
  obtain⟨⟨d,S1⟩,e1,e⟩:=JO e
  cases e
  exact Sl ⟨M,E,S,d,S1,e1,r,st,λv H1 M1 g1 st1 r1=>q _ _ M1 g1 ((r.step g1.st).put r1) st1⟩⟩
end
noncomputable def Gx{α:Type}(xs:List α)(lo hi:pY Int):List α:=(xs.drop (HT.sIx xs.length 0 lo)).take (HT.sIx xs.length xs.length hi-HT.sIx xs.length 0 lo)
theorem VZ{K:pV}{M:Ms}{H:Hp}{xs:List V}{ds:List D}(h:Ao K M H xs ds)(lo hi:pY Int):Ao K M H (Za xs lo hi) (Gx ds lo hi):=by
 unfold Za Gx
 rw[h.length]
 exact(h.drop _).take _
theorem U4{α:Type}{xs:List α}{lo hi:pY Int}(h1:HT.sIx xs.length 0 lo=0)(h2:HT.sIx xs.length xs.length hi=xs.length):Gx xs lo hi=xs:=by
 unfold Gx
 rw[h1,h2]
 simp
noncomputable def wSl(lo hi:pY Int):Op1:=λw=>match w with
 | .val (.tup ds)=>Gc (.val (.tup (Gx ds lo hi)))
 | .val (.str z)=>if z.length<=sizeLine then Gc (.val (.str (Txt.slice z lo hi)))else none
 |w=>(asL w).map λds=>.own (Gx ds lo hi)
def oy(K:pV):V->pY Int->pY Int->Hp->VK->Prop:=λx lo hi H Q=>∃M w r,wSl lo hi w=Gc r/\MOk M H/\Sh K M H x w/\∀v H',Nw K M H H' v r->Q v H'
theorem dM{X:Cx}:SlR X (λx lo hi H Q=>∃z,x=.str z/\z.length<=sizeLine/\Q (.str (Txt.slice z lo hi)) H):=by
 intro pins s σ H x v vl vu lo hi sl Q I rx hs pl pu h
 obtain⟨z,rfl,hz,q⟩:=h
 obtain⟨t,rfl⟩:=rx
 have fin:∀t' k,EP X pins σ Q (.str (Txt.slice z lo hi) t') {s with toks:=k}:=λt' k=>⟨.str _,H,I.tok k,⟨t',rfl⟩,q⟩
 cases pl with
 |none=>
  cases pu with
  |none=>exact⟨"str",_,uk.lookup,xS _ _ _,uz (l:=none) (u:=none) (st:=none) hs rfl (xC ⟨qD (ye z _ _) hz,fin⟩)⟩
  |int j u=>exact⟨"str",_,uk.lookup,xS _ _ _,uz (l:=none) (u:=Gc (j,u)) (st:=none) hs rfl (xC ⟨qD (ye z _ _) hz,fin⟩)⟩
 |int i u'=>
  cases pu with
  |none=>exact⟨"str",_,uk.lookup,xS _ _ _,uz (l:=Gc (i,u')) (u:=none) (st:=none) hs rfl (xC ⟨qD (ye z _ _) hz,fin⟩)⟩
  |int j u=>exact⟨"str",_,uk.lookup,xS _ _ _,uz (l:=Gc (i,u')) (u:=Gc (j,u)) (st:=none) hs rfl (xC ⟨qD (ye z _ _) hz,fin⟩)⟩
theorem kn{X:Cx}:SlR X (oy X.K):=by
 intro pins s σ H x v vl vu lo hi sl Q I rx hs pl pu h
 obtain⟨M,w,r,e,mo,sh,q⟩:=h
 unfold wSl at e
 split at e
 .rename_i ds
  cases e
  cases sh with
  |tup hx rr=>
   rename_i a xs
   have hl:=rr.length
   by_cases hw:HT.sIx xs.length 0 lo=0/\HT.sIx xs.length xs.length hi=xs.length
   .refine St.fq pins s σ H _ v vl vu lo hi sl Q I rx hs pl pu ⟨a,xs,rfl,hx,hw.1,hw.2,?_⟩
    have ew:Gx ds lo hi=ds:=U4 (by rw[<-hl];exact hw.1) (by rw[<-hl];exact hw.2)
    rw[ew]at q
    exact q _ _ (.same mo (.tup hx rr))
   .exact gQ pins s σ H _ v vl vu lo hi sl Q I rx hs pl pu ⟨a,xs,rfl,hx,hw,λp hp=>q _ _ (.tup mo hp (VZ rr lo hi))⟩
 .split at e
  .cases e
   cases sh
   exact dM pins s σ H _ v vl vu lo hi sl Q I rx hs pl pu ⟨_,rfl,by assumption,q _ _ (.same mo (.str _))⟩
  .cases e
 .cases e1:asL w with
  |none=>rw[e1]at e;cases e
  |some ds=>
   rw[e1]at e
   cases e
   obtain⟨a,xs,rfl,h1,rr⟩:=sh.l e1
   exact bV pins s σ H _ v vl vu lo hi sl Q I rx hs pl pu ⟨a,xs,rfl,.of h1,λp hp=>q _ _ (.lst mo hp (VZ rr lo hi))⟩
noncomputable def ck:Wv->pY Int
 | .val (.int i)=>Gc i
 |_=>none
noncomputable def Gm(l h:qk):OpN:=λws=>match l,h,ws with
 |false,false,[a]=>wSl none none a
 |true,false,[a,b]=>(ck b).bind λi=>wSl (Gc i) none a
 |false,true,[a,b]=>(ck b).bind λi=>wSl none (Gc i) a
 |true,true,[a,b,c]=>(ck b).bind λi=>(ck c).bind λj=>wSl (Gc i) (Gc j) a
 |_,_,_=>none
theorem Sk{K:pV}{M:Ms}{H:Hp}{v:V}{w:Wv}{i:Int}(s:Sh K M H v w)(e:ck w=Gc i):v=.int i:=by
 cases w with
 |own ds=>cases e
 |val d=>
  cases d<;>first|(cases e;done)|skip
  cases e;cases s;rfl
section
variable{X:Cx}{e lo hi:qh}{oe ol oh:Ev}{c:qk}{pos p2:Pos}
theorem G7(h:DE X e oe)(hl:DE X lo ol):DE X (.Subscript e (.Slice (Gc lo) none none p2) pos) (Nf c (Gm true false) [oe,ol]):=⟨BQ (N1 kn h.pe (Ng hl.pe) Uy) λσ H Q z=>by
 obtain⟨M0,E,S0,w,S1,e,r,st,q⟩:=z
 have z:tD X.K oe σ H λx H1=>tD X.K ol σ H1 λy H2=>rN X.K (Gm true false) [x,y] H2 Q:=Lf (Q:=Q) e r st q
 refine Gs z λx H1 z1=>Gs z1 λy H2 z2=>?_
 obtain⟨M,ws,w',e1,mo,sh,q1⟩:=z2
 cases sh with
 |cons h1 t=>
  cases t with
  |cons h2 t=>
   cases t
   obtain⟨i,ei,e1⟩:=An e1
   exact⟨i,Sk h2 ei,M,_,w',e1,mo,h1,q1⟩⟩
theorem Hj(h:DE X e oe)(hh:DE X hi oh):DE X (.Subscript e (.Slice none (Gc hi) none p2) pos) (Nf c (Gm false true) [oe,oh]):=⟨BQ (N1 kn h.pe Uy (Ng hh.pe)) λσ H Q z=>by
 obtain⟨M0,E,S0,w,S1,e,r,st,q⟩:=z
 have z:tD X.K oe σ H λx H1=>tD X.K oh σ H1 λy H2=>rN X.K (Gm false true) [x,y] H2 Q:=Lf (Q:=Q) e r st q
 refine Gs z λx H1 z1=>Gs z1 λy H2 z2=>?_
 obtain⟨M,ws,w',e1,mo,sh,q1⟩:=z2
 cases sh with
 |cons h1 t=>
  cases t with
  |cons h2 t=>
   cases t
   obtain⟨i,ei,e1⟩:=An e1
   exact⟨i,Sk h2 ei,M,_,w',e1,mo,h1,q1⟩⟩
theorem Ti{K:pV}{M:Ms}{H:Hp}{S:Sto}{v:V}{d:D}{i:Int}(r:C5 K M H v d)(e:ck (dr S d)=Gc i):v=.int i:=by
 cases r<;>first|(cases e;done)|skip
 .cases e;rfl
 .rename_i n h
  unfold dr at e
  dsimp only at e
  split at e<;>cases e
theorem U7(h:DE X e oe)(hl:DE X lo ol)(hh:DE X hi oh):DE X (.Subscript e (.Slice (Gc lo) (Gc hi) none p2) pos) (Nf c (Gm true true) [oe,ol,oh]):=⟨BQ (N1 kn h.pe (Ng hl.pe) (Ng hh.pe)) λσ H Q z=>by
 obtain⟨M0,E,S0,w,S1,e,r,st,q⟩:=z
 obtain⟨⟨ds,S2⟩,e1,e⟩:=An e
 obtain⟨w2,e2,e⟩:=An e
 obtain⟨⟨d1,Sa⟩,ea,e1⟩:=An e1
 obtain⟨⟨ds1,Sb⟩,eb,e1⟩:=JO e1
 cases e1
 obtain⟨⟨d2,Sc⟩,ec,eb⟩:=An eb
 obtain⟨⟨ds2,Sd⟩,ed,eb⟩:=JO eb
 cases eb
 obtain⟨⟨d3,Se⟩,ee,ed⟩:=An ed
 obtain⟨⟨ds3,Sf⟩,ef,ed⟩:=JO ed
 cases ed
 cases ef
 obtain⟨i,ei,e2⟩:=An e2
 obtain⟨j,ej,e2⟩:=An e2
 refine⟨M0,E,S0,d1,Sa,ea,r,st,λx H1 M1 g1 st1 r1=>?_⟩
 refine⟨M1,E,Sa,d2,Sc,ec,r.step g1.st,st1,λy H2 M2 g2 st2 r2=>⟨i,?_,?_⟩⟩
 .exact Ti r2 ei
 refine⟨M2,E,Sc,d3,Se,ee,(r.step g1.st).step g2.st,st2,λu H3 M3 g3 st3 r3=>⟨j,?_,?_⟩⟩
 .exact Ti r3 ej
 refine⟨M3,_,w2,e2,st3.mo,bF st3 ((r1.step g2.st).step g3.st),λv H4 n=>?_⟩
 obtain⟨M4,g4,st4,d4⟩:=n.fin st3 e
 exact q v H4 M4 (((g1.trans g2).trans g3).trans g4) st4 d4⟩
noncomputable def R3{α:Type}(xs:List α):List α:=(qR xs.length).filterMap λk=>xs[St.OS xs.length k]?
theorem av{K:pV}{M:Ms}{H:Hp}{xs:List V}{ds:List D}(h:Ao K M H xs ds):Ao K M H (R3 xs) (R3 ds):=by
 unfold R3
 rw[h.length]
 generalize qR ds.length=ks
 induction ks with
 |nil=>exact .nil
 |cons k ks ih=>
  rw[qY,qY]
  cases e:ds[St.OS ds.length k]? with
  |none=>
   have:xs[St.OS ds.length k]?=none:=by rw[sS]at e ⊢; rw[h.length];exact e
   rw[this]
   exact ih
  |some d=>
   obtain⟨x,h1,h2⟩:=h.get e
   rw[h1]
   exact .cons h2 ih
noncomputable def gP:Op1
 | .val (.tup ds)=>Gc (.val (.tup (R3 ds)))
 |_=>none
noncomputable def kF(K:pV)(te:TE):TE:=λσ H Q=>te σ H λx H1=>∃a xs,x=.ref a/\SqT K H1 a xs/\∀p,H1 p=none->Q (.ref p) (upd H1 p (.tup (R3 xs)))
theorem cP{e:qh}{te:TE}{p1 p2 p3 pos:Pos}{k:Nat}(he:PE X e te):PE X (.Subscript e (.Slice none none (Gc (.UnaryOp .USub (.Constant (.int 1) k p1) p2)) p3) pos) (kF X.K te):=by
 intro pins s σ H Q I h
 refine y8 (thn (he pins s σ H _ I h) λv s1 ⟨x,H1,I1,r1,q1⟩=>?_)
 obtain⟨a,xs,rfl,hx,q⟩:=q1
 cases r1
 refine wpAny_Slice ?_
 rw[zp]
 refine pZ (pZ ?_)
 rw[evalPart_some]
 refine thn ((gk (X:=X) ZR (Ys (i:=1) (j:=k) (pos:=p1)) (pos:=p2)) pins s1 σ H1 (λv H2=>v=.int (-1)/\H2=H1) I1 ⟨_,rfl,rfl,rfl⟩) λu s2 ⟨y,H2,I2,r2,ey,eh⟩=>?_
 subst ey eh
 obtain⟨tk,rfl⟩:=r2
 have I4:Inv X pins σ H2 {s2 with heap:=s2.heap.push {cls:=.type "slice",data:=.fields #[.none,.none,.int (-1) tk]}}:=I2.kept (t':=s2.toks) λb ob q=>pU _ q
 obtain⟨its,r,ht,hz⟩:=I4.tuple hx
 have hlen:its.toArray.size=xs.length:=by rw[qK];exact r.length.symm
 refine PyProof.Rows.tail_any (ops:=[.ref a,.ref s2.heap.objs.size]) ht.typeIs qp.lookup ?_ (by with_unfolding_all rfl)
 refine St.Jp ht (z9 ..) (by rw[hlen];exact hz) ?_
 have fr:=I4.hok.fresh (p9 _)
 refine⟨.ref _,_,I4.laid (o:=.tup (R3 xs)) (λb ob q=>pU _ q) (p9 _) ?_,rfl,q _ fr⟩
 have:=St.Vals.pick r (St.OS xs.length) (qR xs.length)
 refine⟨?_,_,this,?_⟩
 .unfold R3
  refine qD (sZ _ _) ?_
  rw[tY]
  exact hz
 .have e:((qR its.toArray.size).filterMap λk=>its.toArray[St.OS its.toArray.size k]?)=((qR xs.length).filterMap λk=>its[St.OS xs.length k]?):=by
   rw[hlen]
   congr 1
   funext k
   rw[List.getElem?_toArray]
  rw[e]
  exact ui _ _
theorem dm{p1 p3:Pos}{k:Nat}(h:DE X e oe):DE X (.Subscript e (.Slice none none (Gc (.UnaryOp .USub (.Constant (.int 1) k p1) p2)) p3) pos) (eOp (o1 gP) [oe]):=⟨BQ (cP h.pe) λσ H Q z=>by
 refine Gs (T6 z) λx H1 z1=>?_
 obtain⟨M,w,r,e,mo,sh,q⟩:=z1
 unfold gP at e
 split at e
 .cases e
  cases sh with
  |tup hx rr=>exact⟨_,_,rfl,hx,λp hp=>q _ _ (.tup mo hp (av rr))⟩
 .cases e⟩
noncomputable def wUp:Op1
 | .val (.str z)=>if(zb z).length<=sizeLine then Gc (.val (.str (zb z)))else none
 |_=>none
theorem Ww:MtR X "str.upper" (λx xs H Q=>xs=[]/\∃z,x=.str z/\(zb z).length<=sizeLine/\Q (.str (zb z)) H):=by
 intro pins s σ H x xs v us Q I rx rv h
 obtain⟨rfl,z,rfl,hz,q⟩:=h
 cases rv
 obtain⟨t,rfl⟩:=rx
 have hfit:zh (zb z).length=false:=by
  unfold zh
  exact tP (by lia)
 exact call_gives yf (xS _ _ _) PySem.F.entry_str_upper (PySem.F.args_str_upper_1 _) (gives_str_upper z t hfit) ⟨hz,⟨.str _,H,I.tok _,⟨_,rfl⟩,q⟩⟩
theorem Yb{o:qh}{oo:Ev}{apos cpos:Pos}(h:DE X o oo)(hbase:attributeBase o "upper" X.env (eval o X.env)=eval o X.env:=by rfl)(hline:(apos.endLine==cpos.line)=true:=by rfl):DE X (.Call (.Attribute o "upper" apos) [] [] cpos) (eOp (o1 wUp) [oo]):=⟨
 BQ (dh PySem.F.plainAttrs_str yf PySem.F.type_str_upper Ww h.pe hbase hline) λσ H Q z=>by
  refine Gs (T6 z) λx H1 z1=>?_
  obtain⟨M,w,r,e,mo,sh,q⟩:=z1
  unfold wUp at e
  split at e
  .split at e
   .cases e
    cases sh
    exact⟨rfl,rfl,_,rfl,by assumption,q _ _ (.same mo (.str _))⟩
   .cases e
  .cases e⟩
structure pR(K:pV)(mg:Str->pY pW)(x:Str)(d:D):Prop where
 ex:∃v u,mg x=Gc u/\RelV v u/\∀M H,C5 K M H v d
theorem Iw{x:Str}{T:tZ}(hg:Gl X x)(hm:X.mg x=none)(hv:bootBuiltins x=Gc (.type T))(hn:x≠ "__name__":=by decide)(hd:(x==("__debug__":Str))=false:=by decide):DE X (.Name x pos) (eC (.ty T)):=
 Oz (aq (v:=.ty T) hg hm hv rfl hn hd) λ_ _ _=>.ty T
structure pF(K:pV)(w:qq)(mg:Str->pY pW)(x:Str)(tbl:List (Str×D)):Prop where
 ex:∃a kvs,mg x=Gc (.ref a)/\TopD K w a kvs/\∀k,(tbl.lookup k=none->kvs.lookup k=none)/\∀d,tbl.lookup k=Gc d->∃v,kvs.lookup k=Gc v/\∀M H,C5 K M H v d
end
noncomputable def QX:Nat->List D->List D
 |_,[]=>[]
 |k,d::ds=>.tup [.int k,d]::QX (k+1) ds
theorem K0:∀{ds:List D} {k i:Nat},(QX k ds)[i]?=(ds[i]?).map λd=>.tup [.int ((k+i:Nat):Int),d]
 | [],k,i=>by simp[QX]
 |d::ds,k,0=>by simp[QX]
 |d::ds,k,i+1=>by
  simp only[QX,List.getElem?_cons_succ]
  rw[K0,show k+1+i=k+(i+1) by lia]
theorem OV:∀{ds:List D} {k:Nat},(QX k ds).length=ds.length
 | [],k=>rfl
 |d::ds,k=>by simp[QX,OV (ds:=ds)]
theorem SqF.sqB{K:pV}{M:Ms}{H:Hp}{gs:Gd}{k:qk}{a:pz}{ds:List D}(h:SqF K M H gs k a ds){H2:Hp}{M2:Ms}{S2:Sto}(g:Sp1 M H M2 H2)(st:StR K M2 S2 H2)(ok:gOk gs S2):∃xs,SqB K H2 k a xs/\Ao K M2 H2 xs ds:=by
 obtain⟨xs,h1,h2⟩:=h.keep H2 M2 S2 g st ok
 refine⟨xs,?_,h2⟩
 cases k with
 |true=>exact h1
 |false=>exact h1
theorem eP{K:pV}{M:Ms}{H:Hp}{gs:Gd}{k:qk}{a:pz}{ds:List D}(h:SqF K M H gs k a ds):fV K M H gs (QX 0 ds) (ItE K k a) where
 go:=λi H2 M2 S2 g st ok hi=>by
  rw[OV]at hi
  obtain⟨xs,h1,h2⟩:=h.sqB g st ok
  obtain⟨x,hx⟩:=h2.get' hi
  exact⟨xs,x,h1,hx⟩
 stop:=λi H2 M2 S2 g st ok hi=>by
  rw[OV]at hi
  obtain⟨xs,h1,h2⟩:=h.sqB g st ok
  exact⟨xs,h1,by have:=h2.length;lia⟩
 yld:=λi H2 M2 S2 x H3 d g st ok hd hy=>by
  obtain⟨xs,h1,h2⟩:=h.sqB g st ok
  obtain⟨p,y,hp,rfl,hy,rfl⟩:=hy
  have hx:=hy xs h1
  rw[K0]at hd
  obtain⟨d0,e,hd⟩:=JO hd
  subst hd
  obtain⟨x',h3,h4⟩:=h2.get e
  rw[hx]at h3;cases h3
  have k3:=F6 (o:=.tup [.int i,y]) hp
  refine⟨k3,.tup (.of Aw) (.cons ?_ (.cons (h4.step (Gr.grow st.mo k3).st) .nil))⟩
  rw[xI]
  exact .int _
noncomputable def Zx(f:Ev):Sr:=λE S=>(f E S).bind λr=>(sqD r.2 r.1).map λp=>((QX 0 p.1,p.2),r.2)
theorem Q7{X:Cx}{a:qh}{f:Ev}{p pos tp:Pos}{elts:List qh}{k:Nat}(hg:Gl X "enumerate")(hm:X.mg "enumerate"=none)(ha:DE X a f)(hs:qb [a] X.env=[(false,eval a X.env)]:=by rfl):DI X (.Tuple elts k tp) (.Call (.Name "enumerate" p) [a] [] pos) (Zx f):=⟨
 Nv (YR hg hm (Nq ha.pe T7 (by rw[hs];rfl)) hs) λσ H R z=>by
  obtain⟨M,E,S,ds,gs,S',e,r,st,q⟩:=z
  obtain⟨⟨d,S1⟩,e1,e⟩:=An e
  obtain⟨⟨ds',gs'⟩,e2,e⟩:=JO e
  cases e
  refine⟨M,E,S,d,S1,e1,r,st,λv H1 M1 g1 st1 r1=>?_⟩
  obtain⟨k,a,rfl,sq⟩:=RQ st1 r1 e2
  obtain⟨xs,hs,_⟩:=sq.sqB (Gr.refl st1.mo).st st1 (Nu e2)
  exact⟨k,a,rfl,⟨xs,hs⟩,q _ _ M1 g1 st1 (eP sq)⟩⟩
noncomputable def O2(ds es:List D):List D:=(ds.zip es).map λp=>.tup [p.1,p.2]
theorem X4{ds es:List D}{i:Nat}{d:D}(h:(O2 ds es)[i]?=Gc d):∃x y,ds[i]?=Gc x/\es[i]?=Gc y/\d=.tup [x,y]:=by
 unfold O2 at h
 simp only[qf,Option.map_eq_some_iff]at h
 obtain⟨⟨x,y⟩,h1,h2⟩:=h
 rw[xh]at h1
 exact⟨x,y,h1.1,h1.2,h2.symm⟩
theorem Kr{ds es:List D}:(O2 ds es).length=min ds.length es.length:=by simp[O2]
theorem SqF.more{K:pV}{M:Ms}{H:Hp}{gs gs':Gd}{k:qk}{a:pz}{ds:List D}(h:SqF K M H gs k a ds)(s:∀g∈gs,g∈gs'):SqF K M H gs' k a ds:=⟨λH2 M2 S2 g st ok=>h.keep H2 M2 S2 g st λx hx=>ok x (s x hx)⟩
theorem gC{K:pV}{M:Ms}{H:Hp}{gs:Gd}{k m:qk}{a b:pz}{ds es:List D}(h:SqF K M H gs k a ds)(h':SqF K M H gs m b es):fV K M H gs (O2 ds es) (Itz K k a m b) where
 go:=λi H2 M2 S2 g st ok hi=>by
  rw[Kr]at hi
  obtain⟨xs,h1,r⟩:=h.sqB g st ok
  obtain⟨ys,h2,r'⟩:=h'.sqB g st ok
  obtain⟨x,hx⟩:=r.get' (show i<ds.length by lia)
  obtain⟨y,hy⟩:=r'.get' (show i<es.length by lia)
  exact⟨xs,ys,x,y,h1,h2,hx,hy⟩
 stop:=λi H2 M2 S2 g st ok hi=>by
  rw[Kr]at hi
  obtain⟨xs,h1,r⟩:=h.sqB g st ok
  obtain⟨ys,h2,r'⟩:=h'.sqB g st ok
  have:=r.length
  have:=r'.length
  exact⟨xs,ys,h1,h2,by lia⟩
 yld:=λi H2 M2 S2 x H3 d g st ok hd hy=>by
  obtain⟨xs,h1,r⟩:=h.sqB g st ok
  obtain⟨ys,h2,r'⟩:=h'.sqB g st ok
  obtain⟨p,x1,y1,hp,rfl,q1,q2,rfl⟩:=hy
  obtain⟨d1,d2,e1,e2,rfl⟩:=X4 hd
  have hx:=q1 xs h1
  have hy:=q2 ys h2
  obtain⟨x',h3,h4⟩:=r.get e1
  obtain⟨y',h5,h6⟩:=r'.get e2
  rw[hx]at h3;cases h3
  rw[hy]at h5;cases h5
  have k3:=F6 (o:=.tup [x1,y1]) hp
  exact⟨k3,.tup (.of Aw) (.cons (h4.step (Gr.grow st.mo k3).st) (.cons (h6.step (Gr.grow st.mo k3).st) .nil))⟩
noncomputable def cx(f g:Ev):Sr:=λE S=>(evs [f,g] E S).bind λr=>match r.1 with
 | [d,e]=>(sqD r.2 d).bind λp=>(sqD r.2 e).map λq=>((O2 p.1 q.1,p.2++q.2),r.2)
 |_=>none
theorem U8{X:Cx}{a b:qh}{f g:Ev}{p pos tp:Pos}{elts:List qh}{k:Nat}(hg:Gl X "zip")(hm:X.mg "zip"=none)(ha:DE X a f)(hb:DE X b g)(hs:qb [a,b] X.env=[(false,eval a X.env),(false,eval b X.env)]:=by rfl)(hs2:qb [b] X.env=[(false,eval b X.env)]:=by rfl):DI X (.Tuple elts k tp) (.Call (.Name "zip" p) [a,b] [] pos) (cx f g):=⟨
 Nv (eO hg hm (AA ha (AA hb AD hs2) (by rw[hs,hs2])).pe hs hs2) λσ H R z=>by
  obtain⟨M,E,S,ds,gs,S',e,r,st,q⟩:=z
  obtain⟨⟨ws,S1⟩,e1,e⟩:=An e
  refine IQ (fs:=[f,g]) e1 r st λvs H1 M1 g1 st1 r1=>?_
  dsimp only at e
  split at e
  .obtain⟨⟨ds1,gs1⟩,eu,e⟩:=An e
   obtain⟨⟨ds2,gs2⟩,ee,e⟩:=JO e
   cases e
   cases r1 with
   |cons h1 t=>
    cases t with
    |cons h2 t=>
     cases t
     obtain⟨k1,a1,rfl,s1⟩:=RQ st1 h1 eu
     obtain⟨k2,a2,rfl,s2⟩:=RQ st1 h2 ee
     obtain⟨xs,hxs,_⟩:=s1.sqB (Gr.refl st1.mo).st st1 (Nu eu)
     obtain⟨ys,hys,_⟩:=s2.sqB (Gr.refl st1.mo).st st1 (Nu ee)
     exact⟨_,_,_,_,rfl,⟨_,hxs⟩,⟨_,hys⟩,q _ _ M1 g1 st1 (gC (s1.more λx hx=>wk _ hx) (s2.more λx hx=>qm _ hx))⟩
  .cases e⟩
noncomputable def intD:D->pY Int
 | .int i=>Gc i
 |_=>none
noncomputable def Kn(ds:List D):pY (List Int):=ds.mapM intD
theorem Lu{K:pV}{M:Ms}{H:Hp}:∀{vs:List V} {ds:List D} {ns:List Int},Ao K M H vs ds->Kn ds=Gc ns->vs=ns.map V.int
 |_,_,ns,.nil,e=>by cases e;rfl
 |_,_,ns,.cons (d:=d) (ds:=ds) h t,e=>by
  unfold Kn at e
  rw[xW]at e
  cases e1:intD d with
  |none=>rw[e1]at e;cases e
  |some b=>
   rw[e1]at e
   cases e2:ds.mapM intD with
   |none=>rw[e2]at e;cases e
   |some cs=>
    rw[e2]at e
    cases e
    have hd:d=.int b:=by
     cases d<;>first|(cases e1;done)|skip
     cases e1;rfl
    subst hd
    cases h
    rw[qS,<-Lu t e2]
theorem Tc{X:Cx}(hc:X.calm=true):Ds X (.builtin "sum") (λxs H Q=>∃(p:pz) (ns:List Int),xs=[.ref p]/\SqL X.K H p (ns.map V.int)/\Q (.int ns.sum) H):=by
 intro pins s σ H xs us Q I r h
 obtain⟨p,ns,rfl,hp,q⟩:=h
 obtain⟨u,rfl,ru⟩:=r.one
 cases (show u=qz p from ru)
 obtain⟨its,rv,pl,hz⟩:=I.list hp
 have hd:X.A.in1.handled=none:=I.ok.hd hc
 refine call_sum_walkG (sM pl.isList ?_)
 have hlen:ns.length=its.length:=by have:=rv.length;simpa using this
 have hpl:=pl.isList
 have hlt:p<s.heap.objs.size:=by
  obtain⟨o,ho,_⟩:=hpl
  exact qI ho
 refine⟨s.heap.objs.size,_,_,its.length,_,_,λi=>ns.getD i 0,rfl,St.Jr (vs:=its) hd (qN hlt),⟨⟨_,qG _ rfl,rfl,rfl⟩,?_⟩,?_,?_,?_⟩
 .obtain⟨o,ho,r⟩:=hpl
  exact⟨o,pU _ ho,r⟩
 .intro b hb
  rw[ql]
  simp at hb
  rcases hb with h|h
  .rw[h];exact uH _
  .rw[h];exact sC hlt
 .intro i v hv
  have hi:i<its.length:=(qF.mp hv).1
  have hb:(ns.map V.int)[i]?=Gc (.int (ns.getD i 0)):=by
   rw[qf,pf (by lia)]
   simp[qJ,pf (show i<ns.length by lia)]
  obtain⟨u,hu,ru⟩:=rv.get hb
  rw[hv]at hu
  cases hu
  exact ru
 .intro h' tk t' hk
  have e:preSum (λi=>ns.getD i 0) its.length=ns.sum:=by
   rw[<-hlen,St.Ls (p9 _),uB (p9 _)]
  rw[e]
  exact⟨.int _,H,I.kept (t':=tk) λb o eb=>hk b o (by simp;exact qN (qI eb)) (pU _ eb),⟨_,rfl⟩,q⟩
noncomputable def ZY:Op1:=λw=>(asL w).bind λds=>(Kn ds).map λns=>.val (.int ns.sum)
theorem LA{X:Cx}(hc:X.calm=true):Ds X (.builtin "sum") (rN X.K (o1 ZY)):=by
 intro pins s σ H xs us Q I r h
 obtain⟨M,ws,w,e,mo,sh,q⟩:=h
 obtain⟨v,w1,rfl,rfl,s1,e1⟩:=GA sh e
 obtain⟨ds,e2,e1⟩:=An e1
 obtain⟨ns,e3,e1⟩:=JO e1
 cases e1
 obtain⟨a,ys,rfl,h3,h4⟩:=s1.l e2
 exact Tc hc pins s σ H _ us Q I r ⟨a,ns,rfl,by rw[<-Lu h4 e3];exact .of h3,q _ _ (.same mo (.int _))⟩
noncomputable def MB(ns:List Int):List Int:=ns.mergeSort (λa b=>decide (a<=b))
theorem ID(ns:List Int):(MB ns).Perm ns:=xE _ _
theorem NU(ns:List Int):(MB ns).Pairwise (· <= ·):=by
 have:=v3 (le:=λ(a b:Int)=>decide (a<=b)) (λa b c h1 h2=>by simp at *; lia) (λa b=>by simp;lia) ns
 unfold MB
 exact this.imp λh=>qM h
theorem SG{ns ms:List Int}(p:ms.Perm ns)(s:ms.Pairwise (· <= ·)):ms=MB ns:=PySem.W.ksm_same (p.trans (ID ns).symm) s (NU ns)
theorem intsAre_of:∀{ns:List Int} {its:List pW},Vals (ns.map V.int) its->tW its ns
 | [],_,.nil=>.nil
 |n::ns,_,.cons h t=>by
  obtain⟨tk,rfl⟩:=h
  exact .cons n tk (intsAre_of t)
theorem Hh:∀{ns:List Int} {its:List pW},tW its ns->Vals (ns.map V.int) its
 |_,_,.nil=>.nil
 |_,_,.cons n tk t=>.cons ⟨tk,rfl⟩ (Hh t)
theorem OZ(l:pz)(items:qd pW)(n:Nat)(b:pz)(items2:qd pW)(n2:Nat)(dd:pY pz)(sl:qd (pY pW))(hs0:¬(!items.isEmpty && sW (items.size+items2.size))=true)(hs1:items.size<=sizeLine)(hs2:items.size+items2.size<=sizeLine+1):Meets (sQ.«list.extend» ⟨[.ref l,.ref b],[]⟩) (λ_ R s=>s.heap.get? l=Gc {cls:=.type "list",dict:=none,data:=.seq items n,slots:= #[]}/\s.heap.get? b=Gc {cls:=.type "tuple",dict:=dd,data:=.seq items2 n2,slots:=sl}/\R (.ok (.ret sL)) {s with heap:=s.heap.update l (rA λx=>x++items2),toks:=s.toks}):=
 .of_wp λprog w A R s h=>by
  obtain⟨hp,g,d,tk,os⟩:=s;obtain⟨hl,hb,h⟩:=h;have f1:=AutoSeq1.idx_int;have f2:=AutoSeq1.sub_tuple_tuple;have f3:=AutoSeq1.sub_list_list;have f4:=AutoSeq1.sub_tuple_list;have f5:=AutoSeq1.sub_list_tuple
  have hz':(items++items2).size<=sizeLine+1:=by rw[Array.size_append];exact hs2
  wp_walk using(vN hl rfl (hz:=hs1) (_hz':=hz')),qe hl,qe hb;exact⟨_,rfl,h⟩
def Wt(K:pV):V->List V->Hp->VK->Prop:=λx vs H Q=>∃l b xs zs,x=.ref l/\vs=[.ref b]/\H l=Gc (.lst xs)/\SqT K H b zs/\xs.length+zs.length<=sizeLine/\Q .non (upd H l (.lst (xs++zs)))
theorem R6{X:Cx}:MtM X "list.extend" (Wt X.K):=by
 intro pins s σ H x vs v us Q I rx rv h
 obtain⟨l,b,xs,zs,rfl,rfl,hH,hB,hz,q⟩:=h
 cases rx
 obtain⟨u,rfl,ru⟩:=rv.one
 cases ru
 obtain⟨z,its,n,r,hl,e⟩:=I.Yt hH
 obtain⟨its2,r2,⟨⟨c,dd,dt,sl⟩,e2,hc,n2,hd⟩,z2⟩:=I.tuple hB
 simp only at hc hd
 subst hc hd
 have hl2:=r2.length
 have hsz:its.toArray.size+its2.toArray.size<=sizeLine:=by rw[qK,qK];lia
 have hlong:¬(!its.toArray.isEmpty && sW (its.toArray.size+its2.toArray.size))=true:=by
  rw[OA hsz,zE]
  exact rH
 refine uO wm ⟨_,e,rfl⟩ zf (zG _ _)
  (OZ l its.toArray n b its2.toArray n2 dd sl hlong (by rw[qK];lia) (by lia)) ⟨e,e2,?_⟩
 refine⟨.non,_,I.ke (its':=its++its2) hH e (by simp) (r.append r2) ?_,rfl,q⟩
 rw[qw]
 lia
noncomputable def ie:Mo
 |S,ds,[x]=>match dr S x with
  | .val (.tup zs)=>if ds.length+zs.length<=sizeLine then Gc (.non,ds++zs)else none
  |w=>(asL w).bind λzs=>if ds.length+zs.length<=sizeLine then Gc (.non,ds++zs)else none
 |_,_,_=>none
theorem au{X:Cx}:MtR X "list.extend" (iM X.K ie):=by
 intro pins s σ H x vs v us Q I rx rv h
 obtain⟨M,S,n,a,ds,args,d,ds',rfl,hc,hn,e,st,ra,q⟩:=h
 unfold ie at e
 split at e
 .obtain⟨xs,h1,h2⟩:=st.cell n a _ hc hn
  obtain⟨y,rfl,ry⟩:=Qv ra
  have sy:=bF st ry
  split at e
  .rename_i ed
   rw[ed]at sy
   split at e
   .rename_i hz
    cases e
    cases sy with
    |tup hx rr=>
     obtain⟨st2,g2⟩:=st.chg hc hn (h2.append rr)
     exact R6 pins s σ H _ _ v us Q I rx rv ⟨a,_,xs,_,rfl,rfl,h1,hx,by rw[h2.length,rr.length];exact hz,q _ _ st2 g2 .non⟩
   .cases e
  .obtain⟨zs,e1,e⟩:=An e
   split at e
   .rename_i hz
    cases e
    obtain⟨b,ys,rfl,h3,h4⟩:=sy.l e1
    obtain⟨st2,g2⟩:=st.chg hc hn (h2.append h4)
    exact Ta pins s σ H _ _ v us Q I rx rv ⟨a,b,xs,ys,rfl,rfl,h1,h3,by rw[h2.length,h4.length];exact hz,q _ _ st2 g2 .non⟩
   .cases e
 .cases e
theorem Xm{X:Cx}:OpR X (binaryOp .Mult) (λx y H Q=>∃a xs k,x=.ref a/\y=.int k/\SqT X.K H a xs/\xs≠[]/\k<=0/\ -(2^63)<=k/\∀p,H p=none->Q (.ref p) (upd H p (.tup []))):=by
 intro pins s σ H x y v u Q I rx ry h
 obtain⟨a,xs,k,rfl,rfl,hx,hne,hk,hk2,q2⟩:=h
 cases rx
 obtain⟨t,rfl⟩:=ry
 obtain⟨its,r,⟨⟨c,dd,data,sl⟩,ho,hc,n,hd⟩,hzz⟩:=I.tuple hx
 simp only at hc hd
 subst hc hd
 have hl:=r.length
 have hpos:0<xs.length:=zg.mpr hne
 refine ve (T:="tuple") (U:="int") (by decide) ⟨_,ho,rfl⟩ (λs'=>vW s' k t) HD yo vL KS yO.lookup
  (uO vL (vW s k t) yP (xr _ _) (IL k t a its.toArray n dd sl) ⟨ho,rfl,⟨_,ho,rfl⟩,?_⟩)
 refine q9 wd ⟨_,ho,rfl⟩ F.entry_tuple_mul ?_ (AAE _ _)
 unfold sQ.«tuple.__mul__»
 wp_walk using qe ho
 rw[qj (show¬(decide (k< -2^63)||decide (k≥2^63))=true by
  rw[sJ]
  rintro (z|z)
  .have:=qM z;lia
  .have:=qM z;lia)]
 wp_walk using qe ho
 have hemp:its.toArray.isEmpty=false:=by
  cases its with
  |nil=>rw[vM]at hl;lia
  |cons b bs=>rfl
 rw[qj (show¬(its.toArray.isEmpty||k==1)=true by
  rw[hemp,zq]
  intro z
  have:=eq_of_beq z
  lia)]
 wp_walk using qe ho
 all_goals first
  |exact⟨_,rfl,.ref _,_,I.laid (o:=.tup []) (t':=s.toks) (λb ob q=>pU _ q) (p9 _) ⟨rS _,[],.nil,ui _ _⟩,rfl,q2 _ (I.hok.fresh (p9 _))⟩
  |(exfalso
    rename_i hh
    exact hh (by rw[sJ];exact .inl (sX hk)))
noncomputable def HB:Op2:=λa b=>match a,b with
 | .val (.tup xs),.val (.int k)=>if(!xs.isEmpty && decide (k<=0) && decide (-(2^63)<=k))=true then Gc (.val (.tup []))else iQ (.val (.tup xs)) (.val (.int k))
 |a,b=>iQ a b
theorem Cm{X:Cx}:OpR X (binaryOp .Mult) (rOp X.K HB):=by
 intro pins s σ H x y v u Q I rx ry h
 obtain⟨M,w1,w2,r,e,mo,s1,s2,q⟩:=h
 unfold HB at e
 split at e
 .split at e
  .rename_i xs k hk
   rw[qO,qO]at hk
   cases e
   cases s2
   cases s1 with
   | @tup a ys _ h1 r1=>
     have hne:ys≠[]:=λzz=>by
      subst zz
      cases r1
      exact absurd hk.1.1 (by decide)
     exact Xm pins s σ H _ _ v u Q I rx ry ⟨a,ys,k,rfl,rfl,h1,hne,qM hk.1.2,qM hk.2,λp hp=>q _ _ (.tup mo hp .nil)⟩
  .exact US pins s σ H x y v u Q I rx ry ⟨M,_,_,r,e,mo,s1,s2,q⟩
 .exact US pins s σ H x y v u Q I rx ry ⟨M,_,_,r,e,mo,s1,s2,q⟩
theorem Uk{A:qx}{k:Nat}(hr:MM k A):A.units+100<cLine:=by have:=hr.un;lia
section
variable{P:qa}{w:qq}{K:pV}{mg:Str->pY pW}{base:qu}
theorem Ja{x:Str}{st:rO}{k np:Nat}{ps:List Str}(S:St.Src K mg x st)(hbi:∀f fd,Fun K x x st f fd->Binds K fd ps []):St.Dfn P w K mg base x k ps (spD K np λ_ _=>none):=by
 obtain⟨f,fd,Fu,hm⟩:=S.ex
 refine⟨f,fd,hm,Fu.kp,hbi f fd Fu,⟨λvs H Q E h=>?_,λA outer s H args us vs Q E hr h0 hb hv h=>?_⟩⟩
 .obtain⟨_,_,_,_,_,_,e,_⟩:=h;cases e
 .obtain⟨_,_,_,_,_,_,e,_⟩:=h;cases e
end
noncomputable def scE:Nat->qh->List tT
 |0,_=>[]
 |n+1,.ListComp e gs s _=>s::(gs.flatMap λg=>scE n g.iter)++scE n e++(gs.flatMap λg=>g.ifs.flatMap (scE n))
 |n+1,.BoolOp _ vs _=>vs.flatMap (scE n)
 |n+1,.Call f as _ _=>scE n f++as.flatMap (scE n)
 |n+1,.BinOp a _ b _=>scE n a++scE n b
 |n+1,.UnaryOp _ a _=>scE n a
 |n+1,.Compare a _ cs _=>scE n a++cs.flatMap (scE n)
 |n+1,.Subscript a b _=>scE n a++scE n b
 |n+1,.Tuple es _ _=>es.flatMap (scE n)
 |n+1,.List es _=>es.flatMap (scE n)
 |n+1,.IfExp c a b _=>scE n c++scE n a++scE n b
 |n+1,.Dict _ vs _=>vs.flatMap (scE n)
 |n+1,.Slice a b c _=>(a.toList++b.toList++c.toList).flatMap (scE n)
 |n+1,.Attribute v _ _=>scE n v
 |_,_=>[]
noncomputable def scS:Nat->rO->List tT
 |0,_=>[]
 |n+1,.Return (Gc e) _=>scE 30 e
 |n+1,.Assign ts e _=>ts.flatMap (scE 30)++scE 30 e
 |n+1,.AugAssign t _ e _=>scE 30 t++scE 30 e
 |n+1,.Expr e _=>scE 30 e
 |n+1,.If t a b _=>scE 30 t++a.flatMap (scS n)++b.flatMap (scS n)
 |n+1,.For _ it a b _=>scE 30 it++a.flatMap (scS n)++b.flatMap (scS n)
 |n+1,.While t a b _=>scE 30 t++a.flatMap (scS n)++b.flatMap (scS n)
 |_,_=>[]
noncomputable def KR(st:rO)(k:Nat):tT:=((Em st).flatMap (scS 20)).getD k (AK st)
structure pE(P:qa)(w:qq)(K:pV)(mg:Str->pY pW)(base:qu)(x:Str)(k np:Nat)(tbl:List (Str×Fn)):Prop where
 ex:∃a kvs,mg x=Gc (.ref a)/\TopD K w a kvs/\∀p G,tbl.lookup p=Gc G->∃f fd ps,kvs.lookup p=Gc (.ref f)/\PU P w K mg base CX0 k f fd ps (spD K np G)/\uJ K (.ref f)=true/\Binds K fd ps []
section
variable{P:qa}{w:qq}{K:pV}{mg:Str->pY pW}{base h:qu}
theorem gY{x:Str}{st:rO}{f:pz}{oc:pW}{od an:pY pz}{osl:qd (pY pW)}{kV doc pm cdv ct:pW}(X:K.In h)(G:h.Ns mainGlobals mg)(a:PySem.W.nsIn K mainGlobals x=Gc (Gc (.ref f)))(l:K.lookup f=Gc ⟨oc,od,.func (vE x x (Jz st) (Em st) (AK st) .none kV doc pm an cdv ct),osl⟩)(c:xP K cdv x=true)(k:uJ K (.ref f)=true):St.Src K mg x st:=
 ⟨f,_,eJ l c k,PySem.W.mg_of X G a⟩
def IsD(K:pV)(u:pW)(d:D):Prop:=∃v,RelV v u/\∀M H,C5 K M H v d
structure pH(w:qq)(K:pV)(mg:Str->pY pW)(x:Str)(ns:List (Str×Str)):Prop where
 ex:∃a kvs,mg x=Gc (.ref a)/\TopD K w a kvs/\Paired (λ(n:Str×Str) (q:Str×V)=>n.1=q.1/\∃f,q.2=.ref f/\mg n.2=Gc (.ref f)) ns kvs
noncomputable def cW(K:pV):Sp:=λvs H Q _=>∃(a:pz) (ns:List Int),vs=[.ref a]/\SqL K H a (ns.map V.int)/\ns.length<=63/\∀H',Q (.bl true) H'
theorem dA{k:Nat}{f:pz}{fd:tU}{x:Str}{F:Fn}(Fk:PU P w K mg base CX0 k f fd [x] (spD K 1 F))(h:∀ns:List Int,ns.length<=63->∃S,F [.scr ns] []=Gc (.bl true,S)):PU P w K mg base CX0 k f fd [x] (cW K):=by
 refine Fk.imp λvs H Q E z=>?_
 obtain⟨a,ns,rfl,hs,hl,q⟩:=z
 obtain⟨S,e⟩:=h ns hl
 refine⟨Ms.no,[.scr ns],[],_,S,rfl,e,.cons (.scr ?_) .nil,⟨λa z=>absurd z Ms.Zj,List.nodup_nil,λa z=>(nomatch z),rfl,λn a c z=>by simp[Ms.no]at z⟩,λv H' M' g st r=>?_⟩
 .rcases hs with hs|hs
  .exact .inl ⟨hs,Ms.Zj⟩
  .exact .inr hs
 .cases r
  exact q H'
end
noncomputable def putD(kvs:List (Key×D))(k:Key)(v:D):List (Key×D):=
 if(kvs.any λkv=>decide (kv.1=k))=true then kvs.map (λkv=>if kv.1=k then(kv.1,v)else kv)else kvs++[(k,v)]
noncomputable def L6(kvs more:List (Key×D)):List (Key×D):=more.foldl (λacc kv=>putD acc kv.1 kv.2) kvs
noncomputable def U9:List (Key×D)->Key->pY D
 | [],_=>none
 |(j,d)::r,k=>if j=k then Gc d else U9 r k
noncomputable def SW:D->pY Key
 | .int i=>Gc (.inl i)
 | .str x=>Gc (.inr x)
 |_=>none
noncomputable def ML(S:Sto):D->pY (List (Key×D))
 | .dct es=>Gc es
 | .ref n=>match S[n]? with
   |some (.dct es)=>Gc es
   |_=>none
 |_=>none
noncomputable def Rv:qk->List (Key×D)->Sto->D×Sto
 |false,es,S=>(.dct es,S)
 |true,es,S=>(.ref S.length,S++[.dct es])
section
variable{K:pV}{M M':Ms}{H:Hp}{S:Sto}{E:En}{σ:Sg}
theorem BZ.any(k:Key):∀{kvs:List (Key×V)} {es:List (Key×D)},BZ K M H kvs es->(kvs.any λkv=>decide (kv.1=k))=es.any λkv=>decide (kv.1=k)
 |_,_,.nil=>rfl
 |_,_,.cons h t=>by rw[sV,sV,BZ.any k t]
theorem BZ.app:∀{kvs kvs':List (Key×V)} {es es':List (Key×D)},BZ K M H kvs es->BZ K M H kvs' es'->BZ K M H (kvs++kvs') (es++es')
 |_,_,_,_,.nil,s=>s
 |_,_,_,_,.cons h t,s=>.cons h (BZ.app t s)
theorem BZ.ba{k:Key}{v:V}{d:D}(r:C5 K M H v d):∀{kvs:List (Key×V)} {es:List (Key×D)},BZ K M H kvs es->BZ K M H (kvs.map λkv=>if kv.1=k then(kv.1,v)else kv) (es.map λkv=>if kv.1=k then(kv.1,d)else kv)
 |_,_,.nil=>.nil
 |_,_,.cons (k:=k') h t=>by
  rw[qS,qS]
  by_cases e:k'=k
  .rw[qc e,qc e];exact .cons r (BZ.ba r t)
  .rw[qj e,qj e];exact .cons h (BZ.ba r t)
theorem BZ.put{k:Key}{v:V}{d:D}{kvs:List (Key×V)}{es:List (Key×D)}(r:C5 K M H v d)(h:BZ K M H kvs es):BZ K M H (putK kvs k v) (putD es k d):=by
 unfold putK putD
 rw[h.any k]
 split
 .exact h.ba r
 .exact h.app (.cons r .nil)
theorem BZ.merge:∀{more:List (Key×V)} {more':List (Key×D)} {kvs:List (Key×V)} {es:List (Key×D)},BZ K M H more more'->BZ K M H kvs es->BZ K M H (L4 kvs more) (L6 es more')
 |_,_,_,_,.nil,h=>h
 |_,_,kvs,es,.cons (k:=k) (v:=v) (d:=d) (vs:=vs) (ds:=ds) r t,h=>show BZ K M H (L4 (putK kvs k v) vs) (L6 (putD es k d) ds)from BZ.merge t (h.put r)
theorem BZ.val(k:Key):∀{kvs:List (Key×V)} {es:List (Key×D)},BZ K M H kvs es->(R5 kvs k=none/\U9 es k=none)\/∃v d,R5 kvs k=Gc v/\U9 es k=Gc d/\C5 K M H v d
 |_,_,.nil=>.inl ⟨rfl,rfl⟩
 |_,_,.cons (k:=k') (d:=d) (v:=v) (ds:=ds) h t=>by
  by_cases e:k'=k
  .exact .inr ⟨v,d,Ku e,by simp[U9,e],h⟩
  .rw[K1 e]
   have:U9 ((k',d)::ds) k=U9 ds k:=by simp[U9,e]
   rw[this]
   exact BZ.val k t
theorem BZ.length:∀{v:List (Key×V)} {d:List (Key×D)},BZ K M H v d->v.length=d.length
 |_,_,.nil=>rfl
 |_,_,.cons _ t=>by simp[BZ.length t]
theorem Q4{v:V}{d:D}{k:Key}(r:C5 K M H v d)(e:SW d=Gc k):v=kV k:=by
 cases r<;>cases e<;>rfl
theorem Q8{v:V}{d:D}{es:List (Key×D)}(st:StR K M S H)(r:C5 K M H v d)(e:ML S d=Gc es):∃a kvs,v=.ref a/\H a=Gc (.dK kvs)/\BZ K M H kvs es:=by
 cases r with
 |dct h n r=>cases e;exact⟨_,_,rfl,h,r⟩
 |ref h=>
  rename_i a n
  unfold ML at e
  dsimp only at e
  split at e
  .rename_i es' e'
   cases e
   obtain⟨kvs,h1,h2⟩:=st.cell n a _ h e'
   exact⟨a,kvs,rfl,h1,h2⟩
  .cases e
 |_=>cases e
theorem StR.nB(r:StR K M S H){n:Nat}{a:pz}{ds es:List (Key×D)}{ys:List (Key×V)}(h1:M.cel[n]?=Gc a)(h2:S[n]?=Gc (.dct ds))(hy:BZ K M H ys es):StR K M (S.set n (.dct es)) (upd H a (.dK ys))/\Gr M H M (upd H a (.dK ys)):=by
 have ha:a∈M.cel:=qX h1
 have hl:n<S.length:=(qF.mp h2).1
 have g:Gr M H M (upd H a (.dK ys)):=⟨r.mo,rL,rfl,λ_ z=>.inl z,λb o eb nb=>by rw[Aa (λz=>nb (by rw[z];exact ha))];exact eb,λb eb=>by
  by_cases h:b=a
  .subst h;rw[Aw];intro z;cases z
  .rw[Aa h];exact eb⟩
 refine⟨⟨λb z=>?_,r.nd,r.nt,by rw[tm];exact r.len,λm b c e1 e2=>?_⟩,g⟩
 .by_cases h:b=a
  .subst h;exact .inr (.inl ⟨ys,Aw⟩)
  .rw[Aa h];exact r.mo b z
 .by_cases h:n=m
  .subst h
   rw[h1]at e1;cases e1
   rw[qL hl]at e2;cases e2
   exact⟨ys,Aw,hy.step g.st⟩
  .rw[qE h]at e2
   have hb:b≠a:=λz=>by
    subst z
    exact h ((wN (qF.mp h1).1 r.nd).mp (h1.trans e1.symm))
   have q:=r.cell m b c e1 e2
   cases c with
   |lst fs=>obtain⟨xs,e,rr⟩:=q;exact⟨xs,by rw[Aa hb];exact e,rr.step g.st⟩
   |dct fs=>obtain⟨xs,e,rr⟩:=q;exact⟨xs,by rw[Aa hb];exact e,rr.step g.st⟩
   |tab fs=>obtain⟨xs,e,rr⟩:=q;exact⟨xs,by rw[Aa hb];exact e,rr.step g.st⟩
theorem StR.dn(r:StR K M S H){a:pz}(e:H a=none):StR K ⟨M.cel,a::M.tmp⟩ S (upd H a (.dK []))/\Sp1 M H ⟨M.cel,a::M.tmp⟩ (upd H a (.dK [])):=by
 have k:∀b o,H b=Gc o->upd H a (.dK []) b=Gc o:=F6 e
 have na:¬M.mem a:=λz=>r.mo.some z e
 have s1:Sp1 M H ⟨M.cel,a::M.tmp⟩ (upd H a (.dK [])):=⟨r.mo,rL,λb z=>by
  rcases z with z|z
  .exact .inl (.inl z)
  .rcases qA.mp z with z|z
   .subst z;exact .inr e
   .exact .inl (.inr z),λb o eb _=>k b o eb⟩
 refine⟨⟨λb z=>?_,r.nd,λb hb z=>?_,r.len,λn b c h1 h2=>?_⟩,s1⟩
 .by_cases h:b=a
  .subst h;exact .inr (.inl ⟨[],Aw⟩)
  .rw[Aa h]
   refine r.mo b ?_
   rcases z with z|z
   .exact .inl z
   .rcases qA.mp z with z|z
    .exact absurd z h
    .exact .inr z
 .rcases qA.mp hb with hb|hb
  .subst hb;exact na (.inl z)
  .exact r.nt b hb z
 .have q:=r.cell n b c h1 h2
  cases c with
  |lst ds=>obtain⟨xs,e,rr⟩:=q;exact⟨xs,k _ _ e,rr.step s1⟩
  |dct ds=>obtain⟨xs,e,rr⟩:=q;exact⟨xs,k _ _ e,rr.step s1⟩
  |tab ds=>obtain⟨xs,e,rr⟩:=q;exact⟨xs,k _ _ e,rr.step s1⟩
theorem StR.mQ{c t:List pz}{a:pz}{kvs:List (Key×V)}{es:List (Key×D)}(cf:qk)(r:StR K ⟨c,a::t⟩ S H)(nt:a∉t)(rr:BZ K ⟨c,a::t⟩ H kvs es):∃c',StR K ⟨c',t⟩ (Rv cf es S).2 (upd H a (.dK kvs))/\C5 K ⟨c',t⟩ (upd H a (.dK kvs)) (.ref a) (Rv cf es S).1/\c <+: c'/\(∀b∈c',b∈c\/b=a):=by
 have nc:a∉c:=r.nt a qH
 have hl:c.length=S.length:=r.len
 have ne:∀b∈c,b≠a:=λb hb z=>nc (by rw[<-z];exact hb)
 have kp:∀b o,H b=Gc o->¬Ms.mem ⟨c,a::t⟩ b->upd H a (.dK kvs) b=Gc o:=λb o eb nb=>by rw[Aa (λz=>nb (.inr (by rw[z];exact qH)))];exact eb
 have old:∀{c':List pz},Sp1 ⟨c,a::t⟩ H ⟨c',t⟩ (upd H a (.dK kvs))->∀(n:Nat) (b:pz) (cl:Cl),c[n]?=Gc b->S[n]?=Gc cl->fO K ⟨c',t⟩ (upd H a (.dK kvs)) b cl:=λs1 n b cl h1 h2=>by
  have hb:=ne b (qX h1)
  have q:=r.cell n b cl h1 h2
  cases cl with
  |lst ds=>obtain⟨xs,e,rr⟩:=q;exact⟨xs,by rw[Aa hb];exact e,rr.step s1⟩
  |dct ds=>obtain⟨xs,e,rr⟩:=q;exact⟨xs,by rw[Aa hb];exact e,rr.step s1⟩
  |tab ds=>obtain⟨xs,e,rr⟩:=q;exact⟨xs,by rw[Aa hb];exact e,rr.step s1⟩
 have mo:∀b,Ms.mem ⟨c,t⟩ b\/b=a->(∃xs,upd H a (.dK kvs) b=Gc (.lst xs))\/(∃ks,upd H a (.dK kvs) b=Gc (.dK ks))\/∃ps,upd H a (.dK kvs) b=Gc (.tbl ps):=λb z=>by
  by_cases h:b=a
  .subst h;exact .inr (.inl ⟨kvs,Aw⟩)
  .rw[Aa h]
   rcases z with z|z
   .exact r.mo b (z.imp id (qC _))
   .exact absurd z h
 cases cf with
 |false=>
  have s1:Sp1 ⟨c,a::t⟩ H ⟨c,t⟩ (upd H a (.dK kvs)):=⟨r.mo,rL,λb z=>.inl (z.imp id (qC _)),kp⟩
  exact⟨c,⟨λb z=>mo b (.inl z),r.nd,λb hb=>r.nt b (qC _ hb),r.len,old s1⟩,.dct Aw (λz=>z.elim nc nt) (rr.step s1),rL,λb z=>.inl z⟩
 |true=>
  have s1:Sp1 ⟨c,a::t⟩ H ⟨c++[a],t⟩ (upd H a (.dK kvs)):=⟨r.mo,vH _ _,λb z=>by
   rcases z with z|z
   .rcases qW.mp z with z|z
    .exact .inl (.inl z)
    .exact .inl (.inr (by rw[qV.mp z];exact qH))
   .exact .inl (.inr (qC _ z)),kp⟩
  refine⟨c++[a],⟨λb z=>mo b ?_,?_,λb hb z=>?_,by simp[Rv,hl],λn b cl h1 h2=>?_⟩,.ref (by rw[<-hl];exact qQ),vH _ _,λb z=>?_⟩
  .rcases z with z|z
   .rcases qW.mp z with z|z
    .exact .inl (.inl z)
    .exact .inr (qV.mp z)
   .exact .inl (.inr z)
  .rw[sN]
   refine⟨r.nd,by simp,λx hx y hy z=>?_⟩
   simp at hy;subst hy
   exact nc (by rw[<-z];exact hx)
  .rcases qW.mp z with z|z
   .exact r.nt b (qC _ hb) z
   .rw[qV.mp z]at hb;exact nt hb
  .have h2:(S++[Cl.dct es])[n]?=Gc cl:=h2
   by_cases h:n<S.length
   .rw[pq (by rw[hl];exact h)]at h1
    rw[pq h]at h2
    exact old s1 n b cl h1 h2
   .have hm:n=S.length:=by
     have:=(qF.mp h2).1
     simp at this;lia
    subst hm
    rw[qy (by rw[hl];exact p9 _)]at h1
    rw[qy (p9 _)]at h2
    rw[hl]at h1
    simp at h1 h2
    subst h1 h2
    exact⟨kvs,Aw,rr.step s1⟩
  .rcases qW.mp z with z|z
   .exact .inl z
   .exact .inr (qV.mp z)
noncomputable def evP:List (Ev×Ev)->En->Sto->pY (List (Key×D)×Sto)
 | [],_,S=>Gc ([],S)
 |(k,v)::r,E,S=>(k E S).bind λa=>(SW a.1).bind λkk=>(v E a.2).bind λb=>(evP r E b.2).map λq=>((kk,b.1)::q.1,q.2)
theorem Zg:∀{fs:List (Ev×Ev)} {M:Ms} {S:Sto} {es:List (Key×D)} {S':Sto} {H:Hp} {Q:List (V×V)->Hp->Prop},evP fs E S=Gc (es,S')->EnR K M E σ H->StR K M S H->(∀kvs H' M',Gr M H M' H'->StR K M' S' H'->BZ K M' H' kvs es->kvs.length=fs.length->Q (kvs.map λkv=>(kV kv.1,kv.2)) H')->Q5 (fs.map λx=>(tD K x.1,tD K x.2)) σ H Q
 | [],M,S,es,S',H,Q,e,r,st,q=>by
   cases e
   exact q [] H M (.refl st.mo) st .nil rfl
 |(fk,fv)::fs,M,S,es,S',H,Q,e,r,st,q=>by
  obtain⟨⟨dk,S1⟩,e1,e⟩:=An e
  obtain⟨kk,ek,e⟩:=An e
  obtain⟨⟨dv,S2⟩,e2,e⟩:=An e
  obtain⟨⟨es',S3⟩,e3,e⟩:=JO e
  cases e
  refine⟨M,E,S,dk,S1,e1,r,st,λv H1 M1 g1 st1 d1=>?_⟩
  refine⟨M1,E,S1,dv,S2,e2,r.step g1.st,st1,λv2 H2 M2 g2 st2 d2=>?_⟩
  refine Zg e3 ((r.step g1.st).step g2.st) st2 λkvs H3 M3 g3 st3 rk hl=>?_
  rw[Q4 d1 ek]
  exact q ((kk,v2)::kvs) H3 M3 ((g1.trans g2).trans g3) st3 (.cons (d2.step g3.st) rk) (by simp[hl])
end
noncomputable def PX(cf:qk)(fs:List (Ev×Ev)):Ev:=λE S=>(evP fs E S).map λr=>Rv cf (L6 [] r.1) r.2
abbrev gE:=PX false
abbrev Zs:=PX true
section
variable{X:Cx}{pos:Pos}
structure DPs(X:Cx)(pos:Pos)(ks:List (pY qh))(vs:List qh)(fs:List (Ev×Ev)):Prop where
 pe:PPs X pos ks vs (fs.map λx=>(tD X.K x.1,tD X.K x.2))
 all:ks.all (·.isSome)=true
 len:ks.length=vs.length
 num:fs.length=vs.length
theorem ab:DPs X pos [] [] []:=⟨aV,rfl,rfl,rfl⟩
theorem Xr{k v:qh}{ks:List (pY qh)}{vs:List qh}{fk fv:Ev}{fs:List (Ev×Ev)}(hk:DE X k fk)(hv:DE X v fv)(h:DPs X pos ks vs fs):DPs X pos (Gc k::ks) (v::vs) ((fk,fv)::fs):=
 ⟨W8 hk.pe hv.pe h.pe,by rw[uF,h.all];rfl,by rw[qg,qg,h.len],by rw[qg,qg,h.num]⟩
theorem VE{K:pV}{M:Ms}{H:Hp}{S S':Sto}{Q:VK}{cf:qk}{p:pz}{M2:Ms}{H2:Hp}{S2:Sto}{kvs:List (Key×V)}{es:List (Key×D)}(st:StR K M S H)(hp:H p=none)(g:Gr ⟨M.cel,p::M.tmp⟩ (upd H p (.dK [])) M2 H2)(st2:StR K M2 S2 H2)(rk:BZ K M2 H2 kvs es)(q:∀v H' M',Gr M H M' H'->StR K M' (Rv cf es S2).2 H'->C5 K M' H' v (Rv cf es S2).1->Q v H'):Q (.ref p) (upd H2 p (.dK kvs)):=by
 obtain⟨c2,t2⟩:=M2
 have ht:t2=p::M.tmp:=g.tmp
 subst ht
 have np:p∉M.tmp:=λz=>st.mo.some (.inr z) hp
 obtain⟨c',st',rd,pr,sub⟩:=st2.mQ cf np rk
 refine q _ _ ⟨c',M.tmp⟩ ⟨st.mo,(show M.cel <+: c2 from g.pre).trans pr,rfl,λb z=>?_,λb o eb nb=>?_,λb eb=>?_⟩ st' rd
 .rcases sub b z with z|z
  .rcases g.fresh b z with z|z
   .exact .inl z
   .right
    by_cases h:b=p
    .rw[h];exact hp
    .rw[Aa h]at z;exact z
  .right;rw[z];exact hp
 .have h:b≠p:=λz=>by rw[z,hp]at eb;cases eb
  rw[Aa h]
  exact g.keep b o (by rw[Aa h];exact eb) nb
 .by_cases h:b=p
  .subst h;rw[Aw];intro z;cases z
  .rw[Aa h]
   exact g.some b (by rw[Aa h];exact eb)
theorem gJ{cf:qk}{ks:List (pY qh)}{vs:List qh}{fs:List (Ev×Ev)}(h:DPs X pos ks vs fs)(h0:ks≠[])(h15:ks.length<=15):DE X (.Dict ks vs pos) (PX cf fs):=⟨
 BQ (cX h.pe h.all h.len h0 h15) λσ H Q z=>by
  obtain⟨M,E,S,d,S',e,r,st,q⟩:=z
  obtain⟨⟨es,S2⟩,e1,e⟩:=JO e
  intro p hp
  obtain⟨st0,s0⟩:=st.dn hp
  refine Zg e1 (r.step s0) st0 λkvs H2 M2 g st2 rk hl=>⟨g.keep p _ Aw (st0.nt p qH),kvs,rfl,by rw[hl,h.num,<-h.len];exact h15,?_⟩
  refine VE (cf:=cf) (S':=S') st hp g st2 (rk.merge .nil) ?_
  have e':Rv cf (L6 [] es) S2=(d,S'):=e
  rw[e']
  exact q⟩
theorem jr{cf:qk}:DE X (.Dict [] [] pos) (PX cf []):=⟨
 BQ XA λσ H Q z=>by
  obtain⟨M,E,S,d,S',e,r,st,q⟩:=z
  obtain⟨⟨es,S2⟩,e1,e⟩:=JO e
  cases e1
  intro p hp
  obtain⟨st0,s0⟩:=st.dn hp
  have:=VE (cf:=cf) (S':=S') (Q:=Q) (kvs:=[]) (es:=[]) st hp (.refl st0.mo) st0 .nil (by
   have e':Rv cf [] S=(d,S'):=e
   rw[e'];exact q)
  rw[aB]at this
  exact this⟩
noncomputable def XB(k f o:Ev):Ex:=λE S=>(k E S).bind λr=>(f E r.2).bind λb=>(o E b.2).bind λi=>(SW i.1).bind λkk=>match b.1 with
 | .ref n=>match i.2[n]? with
   |some (.dct es)=>if es.length<1000 then Gc (.nx,E,i.2.set n (.dct (putD es kk r.1)))else none
   |_=>none
 |_=>none
theorem aW{e t bs:qh}{k f o:Ev}{ps pos:Pos}(hu:X.A.units+100<cLine)(h:DE X e k)(hb:DE X bs f)(ht:DE X t o)(hs:swapsWith e (Gc (.Subscript bs t ps)) pos.line X.env=pure false:=by rfl):DS X (.Assign [.Subscript bs t ps] e pos) (XB k f o):=⟨
 Ek (aS (by lia) hb.pe ht.pe h.pe hs) λDn σ H z=>by
  obtain⟨M,E,S,fl,E',S',e,r,st,q⟩:=z
  obtain⟨⟨d,S1⟩,e1,e⟩:=An e
  obtain⟨⟨b,S2⟩,e2,e⟩:=An e
  obtain⟨⟨i,S3⟩,e3,e⟩:=An e
  obtain⟨kk,ek,e⟩:=An e
  dsimp only at e e1 e2 e3 ek
  split at e
  . 
   split at e
   .rename_i es e4
    split at e
    .rename_i hl
     cases e
     refine⟨M,E,S,d,S1,e1,r,st,λv H1 M1 g1 st1 r1=>?_⟩
     refine⟨M1,E,S1,_,S2,e2,r.step g1.st,st1,λbv H2 M2 g2 st2 r2=>?_⟩
     refine⟨M2,E,S2,_,S3,e3,(r.step g1.st).step g2.st,st2,λiv H3 M3 g3 st3 r3=>?_⟩
     rw[Q4 r3 ek]
     cases r2 with
     |ref hc=>
      rename_i a
      have hc3:=L8 g3.pre hc
      obtain⟨kvs,h1,h2⟩:=st3.cell _ a _ hc3 e4
      obtain⟨st4,g4⟩:=st3.nB hc3 e4 (BZ.put (k:=kk) ((r1.step g2.st).step g3.st) h2)
      have g:=((g1.trans g2).trans g3).trans g4
      exact⟨a,_,rfl,.k h1 (by rw[h2.length,vt];lia),q _ _ M3 g (r.step g.st) st4⟩
    .cases e
   .cases e
  .cases e⟩
end
abbrev sO(led:qk):Obj:={cls:=.type "set",dict:=none,data:=.set #[] 0 (.fresh 0 0 led)}
section
variable{prog:qa}{w:qq}{A:qx}{E:pW->pX->Prop}{s:pX}{l:pz}{items:qd pW}{ns:List Int}
abbrev WD(ns:List Int)(n:Nat):List Int:=PyProof.Rows.firstMet (λi=>ns.getD i 0) n
end
end Mi
end
noncomputable section
namespace Mi
open PySem
abbrev Ris(xs:qd Nat):Prop:=xs.toList.Pairwise (· < ·)
theorem Ris.lt{xs:qd Nat}(h:Ris xs){i k:Nat}(a:i<k)(b:k<xs.size):xs[i]'(tJ a b)<xs[k]:=by
 have:=xi.mp h i k (by simpa using tJ a b) (by simpa using b) a
 simpa using this
structure Blw(xs:qd Nat)(j r:Nat):Prop where
 le:r<=xs.size
 lo:∀i (h:i<xs.size),i<r->xs[i]<j
 hi:∀i (h:i<xs.size),r<=i->j<=xs[i]
theorem N9{xs:qd Nat}(hx:Ris xs)(j:Nat):∀fuel lo hi,hi-lo<=fuel->lo<=hi->hi<=xs.size->(∀i (h:i<xs.size),i<lo->xs[i]<j)->(∀i (h:i<xs.size),hi<=i->j<=xs[i])->Blw xs j (SetTable.below.go xs j fuel lo hi)
 |0,lo,hi,f,a,b,c,d=>by
  have:lo=hi:=by lia
  subst this
  exact⟨b,c,d⟩
 |fuel+1,lo,hi,f,a,b,c,d=>by
  unfold SetTable.below.go
  by_cases q:lo<hi
  .rw[qc q]
   have ml:(lo+hi) / 2<xs.size:=by lia
   have e:xs.getD ((lo+hi) / 2) j=xs[(lo+hi) / 2]:=by simp[vq,ml]
   dsimp only
   by_cases z:xs.getD ((lo+hi) / 2) j<j
   .rw[qc z]
    rw[e]at z
    refine N9 hx j fuel _ _ (by lia) (by lia) b (λi h l=>?_) d
    by_cases k:i=(lo+hi) / 2
    .subst k;exact z
    .exact tJ (hx.lt (show i<(lo+hi) / 2 by lia) ml) z
   .rw[qj z]
    rw[e]at z
    refine N9 hx j fuel _ _ (by lia) (by lia) (by lia) c (λi h l=>?_)
    by_cases k:i=(lo+hi) / 2
    .subst k;lia
    .have:=hx.lt (show(lo+hi) / 2<i by lia) h;lia
  .rw[qj q]
   have:lo=hi:=by lia
   subst this
   exact⟨b,c,d⟩
theorem Ob{xs:qd Nat}(hx:Ris xs)(j:Nat):Blw xs j (rQ xs j):=
 N9 hx j _ _ _ (by lia) (rS _) (p9 _) (λi _ h=>absurd h (by lia)) (λi h l=>absurd h (by lia))
theorem below_at{xs:qd Nat}(hx:Ris xs){k:Nat}(hk:k<xs.size):rQ xs xs[k]=k:=by
 have b:=Ob hx xs[k]
 rcases Nat.lt_trichotomy (rQ xs xs[k]) k with h|h|h
 .have:=b.hi _ (by lia) (p9 _);have:=hx.lt h hk;lia
 .exact h
 .have:=b.lo k hk h;lia
noncomputable def slotAt(xs:qd Nat)(i:Nat):Nat:=if i=0 then 0 else xs.getD (i-1) 0+1
theorem Ra{xs:qd Nat}(hx:Ris xs){i:Nat}(hi:i<=xs.size):rQ xs (slotAt xs i)=i:=by
 have b:=Ob hx (slotAt xs i)
 have bl:=b.le
 by_cases z:i=0
 .subst z
  rcases Nat.eq_zero_or_pos (rQ xs (slotAt xs 0))with h|h
  .exact h
  .have:=b.lo 0 (by lia) h;simp[slotAt]at this
 .have e:slotAt xs i=xs[i-1]'(by lia)+1:=by
   have:i-1<xs.size:=by lia
   simp[slotAt,z,vq,this]
  rcases Nat.lt_trichotomy (rQ xs (slotAt xs i)) i with h|h|h
  .have:=b.hi (i-1) (by lia) (by lia);lia
  .exact h
  .have h1:=b.lo i (by lia) h;have h2:=hx.lt (show i-1<i by lia) (show i<xs.size by lia);lia
theorem Ris.insert{xs:qd Nat}(hx:Ris xs){j:Nat}(hj:xs[rQ xs j]?≠Gc j):Ris (SetTable.insertAt xs (rQ xs j) j):=by
 have b:=Ob hx j
 have nj:∀k (hk:k<xs.size),xs[k]≠j:=λk hk e=>hj (by rw[<-e,below_at hx hk,Array.getElem?_eq_getElem hk])
 show zt _ _
 rw[SetTable.toList_insertAt,List.pairwise_append,AAG]
 have tk:∀a∈xs.toList.take (rQ xs j),a<j:=λa ha=>by
  obtain⟨i,hi,rfl⟩:=List.mem_take_iff_getElem.mp ha
  have q:i<xs.size:=by simp at hi;lia
  simpa using b.lo i q (by lia)
 have dr:∀a∈xs.toList.drop (rQ xs j),j<a:=λa ha=>by
  obtain⟨i,hi,rfl⟩:=List.mem_drop_iff_getElem.mp ha
  have q:rQ xs j+i<xs.size:=by simp at hi;lia
  have:=b.hi _ q (by lia)
  have:=nj _ q
  simp only[Array.getElem_toList]
  lia
 refine⟨yx (wH _ _) hx,⟨dr,yx (List.drop_sublist _ _) hx⟩,λa ha c hc=>?_⟩
 rcases qA.mp hc with rfl|hc
 .exact tk a ha
 .exact tJ (tk a ha) (dr c hc)
theorem UI(n:Nat):Ris (Array.range n):=by
 show zt _ _
 rw[Array.toList_range];exact wQ
structure TOk(t:SetTable)(led:qk):Prop where
 dum:t.dummies= #[]
 ris:Ris t.place
 led:t.led=led
theorem TOk.fresh(led:qk):TOk (.fresh 0 0 led) led:=⟨rfl,xt,rfl⟩
theorem TOk.standIn{t:SetTable}{led:qk}(h:TOk t led)(n:Nat):TOk (t.standIn n) led:=⟨rfl,UI n,h.led⟩
theorem TOk.orStandIn{t:SetTable}{led:qk}(h:TOk t led)(n:Nat):TOk (t.orStandIn n) led:=by
 unfold SetTable.orStandIn;split
 .exact h
 .exact h.standIn n
theorem TOk.plain{t:SetTable}{led:qk}(h:TOk t led)(b:qk):TOk {t with plain:=b} led:=⟨h.dum,h.ris,h.led⟩
theorem TU(j:Nat):SetTable.has #[] j=false:=by simp[SetTable.has]
theorem Q3{t:SetTable}(hd:t.dummies= #[])(f:Nat->Int)(h:Int):∀fuel (p:SetTable.Probe) {j d},p.dummy=none->xu t f h fuel p=Gc (.empty j d)->d=none/\t.place[rQ t.place j]?≠Gc j
 |0,p,j,d,_,e=>by simp[xu]at e
 |fuel+1,p,j,d,pn,e=>by
  unfold xu at e
  have an:(t.advance p).dummy=none:=by unfold SetTable.advance;split<;>exact pn
  cases q:t.slot p.j with
  |empty=>
   rw[q]at e
   dsimp only at e
   injection e with e
   injection e with e1 e2
   subst e1 e2
   refine⟨pn,λz=>?_⟩
   unfold SetTable.slot at q
   rw[qc (by rw[z];simp)]at q
   exact SetTable.Slot.noConfusion q
  |dummy=>
   unfold SetTable.slot at q
   rw[hd,TU]at q
   dsimp only at q
   split at q<;>simp at q
  |live i=>
   rw[q]at e
   dsimp only at e
   split at e
   .simp at e
   .exact Q3 hd f h fuel _ an e
theorem Z9{t:SetTable}{led:qk}(h:TOk t led){x:Int}{j:Nat}{b:qk}(e:t.freeSlot x=Gc (j,b)):t.place[rQ t.place j]?≠Gc j:=by
 unfold SetTable.freeSlot at e
 split at e
 .rename_i j' d q
  unfold SetTable.probe at q
  obtain⟨rfl,n⟩:=Q3 h.dum _ x _ _ rfl q
  simp at e
  obtain⟨rfl,_⟩:=e
  exact n
 .simp at e
theorem TOk.put{t:SetTable}{led:qk}(h:TOk t led){j:Nat}(n:t.place[rQ t.place j]?≠Gc j):TOk (t.put j).1 led:=by
 refine⟨?_,h.ris.insert n,h.led⟩
 show(if SetTable.has t.dummies j=true then _ else t.dummies)=_
 rw[h.dum,TU];rfl
theorem TOk.layNew{t:SetTable}{led:qk}(h:TOk t led)(es:qd (Int×pW))(x:Int)(v:pW):TOk (layNew t es x v).2.1 led:=by
 unfold PySem.layNew
 split
 .rename_i j b e
  exact(h.put (Z9 h e)).orStandIn _
 .exact h.standIn _
theorem TOk.j9{t:SetTable}{led:qk}(h:TOk t led)(es:qd (Int×pW))(n:Nat):TOk (relayAll t es n).2.1 led:=by
 unfold relayAll
 split
 .rename_i t' order e
  dsimp only
  split
  .unfold SetTable.relaid SetTable.laid at e
   cases q:SetTable.layClean (SetTable.sizeAbove n-1) (es.map (·.1))with
   |none=>rw[q]at e;simp at e
   |some owner=>
    rw[q]at e
    simp at e
    obtain⟨rfl,_⟩:=e
    refine⟨rfl,?_,h.led⟩
    show zt _ _
    simp only[List.map_filterMap]
    refine List.Pairwise.filterMap _ (λa a' l b hb b' hb'=>?_) wQ
    simp at hb hb'
    obtain⟨_,_,rfl⟩:=hb
    obtain⟨_,_,rfl⟩:=hb'
    exact l
  .exact h.standIn _
 .exact h.standIn _
end Mi
end
noncomputable section
namespace Mi
open PySem PySem.Spec L2 PyProof.Rows
noncomputable def iOf:Int×pW->Int|(_,.int n _)=>n|_=>0
abbrev vls(es:List (Int×pW)):List Int:=es.map iOf
abbrev byT(w:qq):qk:=w.params.followText "set-order"
section
variable{prog:qa}{w:qq}{A:qx}{E:pW->pX->Prop}{s:pX}
def Ki(prog:qa)(w:qq)(h:qu)(a:pz)(L:List Int):Prop:=
 ∃o es ep t,h.get? a=Gc o/\o.ExactSet/\o.data=.set es ep t/\yg (intKind prog w) es.toList/\(vls es.toList).Perm L/\es.size<scanBound/\t.fits es.size=true/\TOk t (!byT w)
theorem Ki.at{h h':qu}{a:pz}{L:List Int}(x:Ki prog w h a L)(k:∀o,h.get? a=Gc o->h'.get? a=Gc o):Ki prog w h' a L:=
 let⟨o,es,ep,t,ho,r⟩:=x;⟨o,es,ep,t,k o ho,r⟩
theorem ZG{e:Int×pW}{es:List (Int×pW)}(h:yg (intKind prog w) es)(he:e∈es)(k:Int):(intKind prog w).is k e.2=true↔iOf e=k:=by
 obtain⟨⟨k',q,_⟩,_⟩:=h e he
 obtain⟨t,hv⟩:=xl q
 obtain⟨x,v⟩:=e
 dsimp only at hv
 subst hv
 show zA k (.int k' t)=true↔k'=k
 simp[zA]
theorem Tu{es:List (Int×pW)}(h:yg (intKind prog w) es)(k:Int):(∃e∈es,(intKind prog w).is k e.2=true)↔k∈vls es:=by
 rw[qi]
 exact⟨λ⟨e,he,q⟩=>⟨e,he,(ZG h he k).mp q⟩,λ⟨e,he,q⟩=>⟨e,he,(ZG h he k).mpr q⟩⟩
theorem NG{h:qu}{a:pz}{o:Obj}{es:qd (Int×pW)}{ep:Nat}{t:SetTable}(ho:h.get? a=Gc o)(hex:o.ExactSet)(hd:o.data=.set es ep t){es':qd (Int×pW)}{t':SetTable}{L:List Int}(hel:yg (intKind prog w) es'.toList)(hp:(vls es'.toList).Perm L)(hb:es'.size<scanBound)(hf:t'.fits es'.size=true)(ht:TOk t' (!byT w)):(h.update a (yh es' t')).get? a=Gc {o with data:=.set es' (ep+1) t'}/\Ki prog w (h.update a (yh es' t')) a L:=by
 have hg:(h.update a (yh es' t')).get? a=Gc {o with data:=.set es' (ep+1) t'}:=by
  have:=rE (yh es' t') ho (by rw[putSet_of es' t' hd];rfl)
  rw[putSet_of es' t' hd]at this;exact this
 exact⟨hg,_,es',ep+1,t',hg,hex,rfl,hel,hp,hb,hf,ht⟩
theorem Qk{g:qk->Sem Unit}(hg:∀(b:qk) (s₁:pX) (Q':Unit->pX->Prop),Q' () s₁->wpAny (model prog w) A (g b) Q' E s₁){a:pz}{o:Obj}{es:qd (Int×pW)}{ep:Nat}{t:SetTable}(ho:s.heap.get? a=Gc o)(hex:o.ExactSet)(hd:o.data=.set es ep t){es1:qd (Int×pW)}{t2:SetTable}{L:List Int}(hel1:yg (intKind prog w) es1.toList)(hp1:(vls es1.toList).Perm L)(hb1:es1.size<scanBound)(hf2:t2.fits es1.size=true)(ht:TOk t2 (!byT w)){wasDummy:qk}{R:pY qk->pX->Prop}(h:∀h',t9 a s.heap h'->Ki prog w h' a L->R (Gc true) {s with heap:=h'}):wpAny (model prog w) A (do
        storeSet a es1 t2
        if(!wasDummy && t2.tooFull)=true then do
           g (relayAll t2 es1 (vA es1.size)).2.2
           storeSet a (relayAll t2 es1 (vA es1.size)).1 (relayAll t2 es1 (vA es1.size)).2.1
           pure (Gc true)
         else pure (Gc true)) R E s:=by
 refine Wp (wpAny_storeSet_of ho hd ?_ (wR hb1))
 obtain⟨ho1,hS1⟩:=NG ho hex hd hel1 hp1 hb1 hf2 ht
 have hsb1:=rf s.heap a (yh es1 t2)
 split
 .have hp:=relayAll_perm t2 es1 (vA es1.size)
  have hfr:=relayAll_fits t2 es1 (vA es1.size)
  have htr:=ht.j9 es1 (vA es1.size)
  generalize hRl:relayAll t2 es1 (vA es1.size)=Rl at hp hfr htr⊢
  obtain⟨es2,t3,gave2⟩:=Rl
  dsimp only at hp hfr htr⊢
  have hel2:yg (intKind prog w) es2.toList:=hel1.perm hp
  have hsz:es2.size=es1.size:=by rw[<-rY,hp.length_eq,rY]
  have hb2:es2.size<scanBound:=by rw[hsz];exact hb1
  refine Wp (hg _ _ _ ?_)
  refine Wp (wpAny_storeSet_of ho1 rfl ?_ (wR hb2))
  obtain⟨_,hS2⟩:=NG ho1 hex rfl hel2 ((hp.map iOf).trans hp1) hb2 hfr htr
  exact pZ (h _ (hsb1.trans (rf _ a _)) hS2)
 .exact pZ (h _ hsb1 hS1)
theorem bY{a:pz}{L:List Int}{k:Int}{u:Tok}{Q:qk->pX->Prop}(hS:Ki prog w s.heap a L)(hroom:L.length+1<scanBound)(h:∀h' b,t9 a s.heap h'->Ki prog w h' a (tq L k)->Q b {s with heap:=h'}):wpAny (model prog w) A (setAddHashed a (.int k u) ((intKind prog w).hash k)) Q E s:=by
 obtain⟨o,es,ep,t,ho,hex,hd,hel,hp,hb,hf,ht⟩:=hS
 have hkey:=intKind_is prog w k u
 have hsc:(vc k u).scannable=true:=rfl
 have hn:es.size=L.length:=by have:=hp.length_eq;simpa using this
 have hb1:es.size+1<scanBound:=by rw[hn];exact hroom
 unfold setAddHashed setAddHashedIn
 refine rB (Wp (ue ho hd hf ?_))
 dsimp only
 rw[byScan_of hsc hb hel]
 simp only[↓reduceIte]
 unfold setAddByScan
 refine Wp ?_
 refine Wp (uh ?_)
 refine Wp (wpAny_setScan_of hkey ho hd hf hel ?_)
 cases hr:List.findIdx? (λe=>(intKind prog w).is k e.2) es.toList with
 |some j=>
  dsimp only
  obtain⟨hj,hpj,_⟩:=List.findIdx?_eq_some_iff_getElem.mp hr
  have kin:k∈L:=hp.mem_iff.mp ((Tu hel k).mp ⟨es.toList[j],tS hj,hpj⟩)
  refine pZ (pZ ?_)
  have e:s={s with heap:=s.heap}:=by cases s;rfl
  rw[e]
  refine h s.heap _ (Heap.SameBut.refl a s.heap) ?_
  rw[show tq L k=L by unfold tq;rw[qc (uI.mpr ⟨k,kin,by simp⟩)]]
  exact⟨o,es,ep,t,ho,hex,hd,hel,hp,hb,hf,ht⟩
 |none=>
  dsimp only
  have kno:k∉L:=λz=>by
   obtain⟨e,he,q⟩:=(Tu hel k).mpr (hp.mem_iff.mpr z)
   have:=List.findIdx?_eq_none_iff.mp hr e he;rw[q]at this;exact su this
  have sd:tq L k=L++[k]:=by
   unfold tq
   rw[qj (λz=>by obtain⟨x,hx,e⟩:=uI.mp z;exact kno (by rw[<-eq_of_beq e];exact hx))]
  rw[sd]at h
  have hgw:∀(b:qk) {s₁:pX} {Q':Unit->pX->Prop},Q' () s₁->wpAny (model prog w) A (match b with|true=>rule "set.scan.the-table-gave-way" |false=>pure ()) Q' E s₁:=
   λb s₁ Q' hq=>by cases b<;>first|exact pZ hq|exact uh hq
  have hperm:=layNew_perm t es ((intKind prog w).hash k) (.int k u)
  have hfits:=layNew_fits t es ((intKind prog w).hash k) (.int k u)
  have hto:=ht.layNew es ((intKind prog w).hash k) (.int k u)
  generalize hL:layNew t es ((intKind prog w).hash k) (.int k u)=L1 at hperm hfits hto⊢
  obtain⟨es1,t1,wasDummy,gave⟩:=L1
  dsimp only at hperm hfits hto⊢
  rw[Array.toList_push]at hperm
  have hel1:yg (intKind prog w) es1.toList:=(hel.push hkey hsc).perm hperm
  have hp1:(vls es1.toList).Perm (L++[k]):=(hperm.map iOf).trans (by rw[sf];exact hp.append_right _)
  have hb1':es1.size<scanBound:=by rw[<-rY,hperm.length_eq,qw,rY];simpa using hb1
  refine Wp (hgw _ ?_)
  split
  .refine Wp ?_
   rw[hashByValue_scannable 8 hsc]
   refine pZ ?_
   refine Qk ?_ ho hex hd hel1 hp1 hb1' ?_ ?_ ?_
   .intro b s₁ Q' hq;cases b<;>first|exact pZ hq|exact uh hq
   .split
    .exact hfits
    .exact SetTable.fits_plain_off hfits
   .split
    .exact hto
    .exact hto.plain _
   .intro h' hsb hS';dsimp only;exact pZ (h h' _ hsb hS')
  .refine Wp (pZ ?_)
   simp only[↓reduceIte]
   refine Qk ?_ ho hex hd hel1 hp1 hb1' hfits hto ?_
   .intro b s₁ Q' hq;cases b<;>first|exact pZ hq|exact uh hq
   .intro h' hsb hS';dsimp only;exact pZ (h h' _ hsb hS')
end
section
variable{prog:qa}{w:qq}{A:qx}{R:z8->pX->Prop}{I:pz}{fp wr:List pz}{G:qd GenState->qd GenState->Prop}{n:Nat}{P:Nat->pW->Prop}{St:Nat->pX->Prop}
theorem Py(W:WalksS prog w A.in1 I fp wr G n P St)(S:pz)(hSf:S∉fp)(val:Nat->Int)(hval:∀i v,P i v->∃t,v=.int (val i) t)(hb:n+1<scanBound):∀(k i:Nat) (s:pX),n-i=k->i<=n->St i s->Ki prog w s.heap S (firstMet val i)->(∀s',Moved (S::wr) G s s'->Ki prog w s'.heap S (firstMet val n)->R (.ok (.ret .none)) s')->codeAny (model prog w) A (.builtin "set.update.loop" ⟨[.ref S,.ref I],[]⟩) R s:=by
 have hSw:S∉wr:=λh=>hSf (W.sub _ h)
 have hsub:∀b∈wr,b∈S::wr:=λb hb=>qC _ hb
 intro k
 induction k with
 |zero=>
  intro i s hk hi hst hS hR
  have hin:i=n:=by lia
  subst hin
  refine tu yS ?_
  rw[sx wB _]
  show wpAny _ A.in1 (pyNext (.ref I) >>= _) _ _ s
  refine Wp (W.done s _ _ hst λs' hm=>?_)
  show wpAny _ A.in1 (ret sL) _ _ s'
  exact pZ (hR s' (hm.mono hsub) (hS.at λo e=>hm.heap S _ hSw e))
 |succ k ih=>
  intro i s hk hi hst hS hR
  have hlt:i<n:=by lia
  refine tu yS ?_
  rw[sx wB _]
  show wpAny _ A.in1 (pyNext (.ref I) >>= _) _ _ s
  refine Wp (W.item i s _ _ hlt hst λv s' hP hst' hm=>?_)
  obtain⟨t,rfl⟩:=hval i v hP
  have hS':Ki prog w s'.heap S (firstMet val i):=hS.at λo e=>hm.heap S _ hSw e
  show wpAny _ A.in1 (holding [vc (val i) t] (setAdd S (.int (val i) t)) >>= _) _ _ s'
  refine Wp (rB ?_)
  unfold setAdd
  refine rB ?_
  refine Wp ((intKind prog w).pyHash (k:=val i) (intKind_is _ _ _ _) ?_)
  have hroom:(firstMet val i).length+1<scanBound:=by have:=firstMet_length_le val i;lia
  refine bY (s:={s' with toks:=s'.toks+1}) hS' hroom λh' bb hsb hS2=>?_
  rw[<-firstMet_succ]at hS2
  refine pZ ⟨vk wB _,ih (i+1) _ (by lia) hlt (W.frame _ s' _ _ hst' (xv _) λb hb o e=>?_) hS2 λs'' hm'' hS''=>?_⟩
  .rw[hsb.2 b (λh:b=S=>hSf (by rw[<-h];exact hb))];exact e
  .refine hR s'' (Moved.trans W.gtrans ((hm.mono hsub).then_heap (xv _) λb o hb e=>?_) hm'') hS''
   rw[hsb.2 b (λh:b=S=>hb (by rw[h];exact qH))];exact e
end
section
variable{prog:qa}{w:qq}{A:qx}{E:pW->pX->Prop}{s:pX}
theorem W9(a:pW){Q₁:pW->pX->Prop}(h:Q₁ (.ref s.heap.objs.size) {s with heap:=s.heap.push (sO (!byT w))}):codeAny (model prog w) A (.call (.builtin "set.__new__") ⟨[.type "set",a],[]⟩) (wants Q₁ E) s:=by
 refine codeAny_of_tree ?_
 show wpAny _ A.in1 (do checkBuiltinCall "set.__new__" ⟨[.type "set",a],[]⟩;again (.builtin "set.__new__" ⟨[.type "set",a],[]⟩)) _ _ s
 refine Wp (xw (F.newCall_set_1 a) (pZ ⟨vk F.plain_set_new _,tu F.entry_set_new ?_⟩))
 rw[sx F.plain_set_new _]
 unfold sQ.«set.__new__» Builtin.Frozenset.newClass
 have hsub:=sub_set_self
 obtain⟨hp,g,d,tk,os⟩:=s
 dsimp only
 wp_walk
 refine yT (pZ ?_)
 dsimp only
 simp only[newObj]
 refine Wp (wpAny_alloc (pZ ?_))
 exact pZ h
end
end Mi
end
noncomputable section
namespace Mi
open PySem PySem.Spec L2 PyProof.Rows
section
variable{prog:qa}{w:qq}{A:qx}{E:pW->pX->Prop}{s:pX}{l:pz}{items:qd pW}{ns:List Int}
theorem Ki.fresh{h:qu}{a:pz}(e:h.get? a=Gc (sO (!byT w))):Ki prog w h a []:=
 ⟨_, #[],0,_,e,⟨rfl,rfl,rfl⟩,rfl,λe he=>by simp at he,by exact wU _,by decide,by rfl,TOk.fresh _⟩
theorem UU{Q:pW->pX->Prop}(hh:A.handled=none)(hl:s.heap.IsList l items)(hi:tW items.toList ns)(hb:items.size+1<scanBound)(h:∀(h':qu) (tk:Nat),Ki prog w h' s.heap.objs.size (WD ns items.size)->(∀b o,s.heap.get? b=Gc o->h'.get? b=Gc o)->Q .none {s with heap:=h',toks:=tk}):codeAny (model prog w) A (.call (.builtin "set.__init__") ⟨[.ref s.heap.objs.size,.ref l],[]⟩) (wants Q E) {s with heap:=s.heap.push (sO (!byT w))}:=by
 generalize hled:(!byT w)=led
 have me:(s.heap.push (sO led)).get? s.heap.objs.size=Gc (sO led):=qG _ rfl
 have ty:Shared.TypeIs {s with heap:=s.heap.push (sO led)} (.ref s.heap.objs.size) "set":=⟨_,me,rfl⟩
 have hl1:=hl.push (sO led)
 obtain⟨o,ho,hc,n,hd⟩:=id hl
 have lt:=qI ho
 refine codeAny_call_builtin vI.init.plain F.entry_set_init (check_set_init_1 ty ?_)
 have ho1:=pU (sO led) ho
 obtain⟨c0,d0,q0,l0⟩:=o
 cases hc;cases hd
 have n1:=F.sub_list_set
 have n2:=F.sub_list_frozenset
 have n3:(vn "list" ==vn "dict")=false:=by decide
 unfold sQ.«set.__init__» noKeywords Builtin.Frozenset.updateFrom
 generalize pi:pyIter=it
 wp_walk
 subst pi
 refine sM hl1 (Wp (zO ?_))
 have sz:(s.heap.push (sO led)).objs.size=s.heap.objs.size+1:=ql ..
 have ap:l≠(s.heap.push (sO led)).objs.size:=by rw[sz];exact qN (sC lt)
 refine Py ((Walks.list (by simp[hh]) _ l ap items).toS) s.heap.objs.size (by rw[sz,qA,qV,yc];exact⟨qN (uH _),vD lt⟩) (λi=>ns.getD i 0)
  (λi v hv=>hi.int_at i v (by rw[uU];exact hv)) hb (items.size-0) 0 _ (by lia) (rS _) ⟨⟨_,qG _ rfl,rfl,rfl⟩,hl1.push _⟩ ?_ ?_
 .exact Ki.fresh (by rw[hled];exact pU _ me)
 .rintro ⟨h',g',d',tk',os'⟩ hm hS
  have e1:g'=s.gens:=hm.gens
  have e2:d'=s.drawn:=hm.drawn
  have e3:os'=s.os:=hm.os
  subst e1 e2 e3
  refine pZ (show wpAny _ _ (ret sL) _ _ _ from pZ (h h' tk' hS λb u e=>?_))
  have lb:=qI e
  exact hm.heap b u (by rw[sz,qA,qV,yc];exact⟨qN lb,qN (sC lb)⟩) (pU _ (pU _ e))
theorem Ux{Q:pW->pX->Prop}(hh:A.handled=none)(hl:s.heap.IsList l items)(hi:tW items.toList ns)(hb:items.size+1<scanBound)(h:∀(h':qu) (tk:Nat),Ki prog w h' s.heap.objs.size (WD ns items.size)->(∀b o,s.heap.get? b=Gc o->h'.get? b=Gc o)->Q (.ref s.heap.objs.size) {s with heap:=h',toks:=tk}):wpAny (model prog w) A (call (.type "set") [.ref l]) Q E s:=by
 obtain⟨c,tl,mr⟩:=vI.mro
 have z1:=vI.made
 have z2:=vI.sub
 have z3:=vI.notType
 have z4:=vI.canCreate
 have z5:=F.typeCall_set_1 (.ref l)
 refine wpAny_call (codeAny_of_tree (show wpAny _ _ (callAny (.type "set") _) _ _ _ from pZ ⟨Code.quiet_builtin _ (by decide+kernel),tu F.entry_type_call ?_⟩))
 rw[Around.under_plain (weight_type_call_type "set" [.ref l] []) rfl]
 repeat (any_goals (first|assumption|wp_step))
 refine wG (W9 (.ref l) (E:=E) (Q₁:=λu s1=>u=.ref s.heap.objs.size/\s1={s with heap:=s.heap.push (sO (!byT w))}) ⟨rfl,rfl⟩) ?_
 rintro (e|(_|u|_)) s1 hr
 all_goals first|exact hr|exact hr.elim|skip
 obtain⟨rfl,rfl⟩:=hr
 have me:(s.heap.push (sO (!byT w))).get? s.heap.objs.size=Gc (sO (!byT w)):=qG _ rfl
 have ty:Shared.TypeIs {s with heap:=s.heap.push (sO (!byT w))} (.ref s.heap.objs.size) "set":=⟨_,me,rfl⟩
 have y1:=vI.init.lookup
 have y2:=vI.init.bind (.ref s.heap.objs.size)
 repeat (any_goals (first|assumption|wp_step))
 refine wG (UU (E:=E) (Q:=λr s2=>r=.none/\∃h' tk,s2={s with heap:=h',toks:=tk}/\Ki prog w h' s.heap.objs.size (WD ns items.size)/\∀b o,s.heap.get? b=Gc o->h'.get? b=Gc o) (by simp[hh]) hl hi hb λh' tk hS hk=>⟨rfl,h',tk,rfl,hS,hk⟩) ?_
 rintro (e|(_|u|_)) s2 hr
 all_goals first|exact hr|exact hr.elim|skip
 obtain⟨rfl,h',tk,rfl,hS,hk⟩:=hr
 repeat (any_goals (first|assumption|wp_step))
 exact h _ _ hS hk
end
end Mi
end
noncomputable section
namespace Mi
open PySem PySem.Spec L2 PyProof.Rows
section
variable{prog:qa}{w:qq}{A:qx}{E:pW->pX->Prop}{s:pX}{a:pz}{es:qd (Int×pW)}{ep:Nat}{t:SetTable}
def Ko(h:qu)(a:pz)(es:qd (Int×pW))(ep:Nat)(t:SetTable):Prop:=∃o,h.get? a=Gc o/\o.ExactSet/\o.data=.set es ep t/\t.fits es.size=true
theorem Ko.at{h h':qu}(x:Ko h a es ep t)(k:∀o,h.get? a=Gc o->h'.get? a=Gc o):Ko h' a es ep t:=let⟨o,ho,r⟩:=x;⟨o,k o ho,r⟩
theorem JC{Q:qk->pX->Prop}(h:Q (byT w) s):wpAny (model prog w) A setsByText Q E s:=by
 unfold setsByText
 exact Wp (yT (pZ h))
theorem Tp{slot i:Nat}{Q:pY (pW×Nat)->pX->Prop}(hb:byT w=true)(x:Ko s.heap a es ep t)(h:Q (((pickOrder (w.params.setOrder a ep) es)[i]?).map λe=>(e.2,slot)) s):wpAny (model prog w) A (setNext a slot i ep) Q E s:=by
 obtain⟨o,ho,hex,hd,hf⟩:=x
 unfold setNext
 refine Wp (ue ho hd hf (Wp (JC ?_)))
 rw[hb]
 simp only[wJ,wV,sg,ux]
 unfold setWalk
 refine Wp (Wp (ue ho hd hf (Wp (JC ?_))))
 rw[hb]
 exact Wp (yT (pZ (pZ h)))
theorem SH{slot i:Nat}{Q:pY (pW×Nat)->pX->Prop}(hb:byT w=false)(x:Ko s.heap a es ep t)(hp:(!t.plain && decide (es.size>1))=false)(hl:t.led=true)(h:Q (match es[rQ t.place slot]?,t.place[rQ t.place slot]? with|some (_,x),Gc j=>Gc (x,j+1)|_,_=>none) s):wpAny (model prog w) A (setNext a slot i ep) Q E s:=by
 obtain⟨o,ho,hex,hd,hf⟩:=x
 unfold setNext
 refine Wp (ue ho hd hf (Wp (JC ?_)))
 rw[hb]
 simp only[sg,ux]
 rw[qj (show¬_ from by show¬((!t.plain && decide (es.size>1))=true);rw[hp];simp)]
 refine Wp ?_
 show wpAny _ _ (if(!t.led && !es.isEmpty)=true then unsupported _ else pure ()) _ _ _
 rw[hl]
 exact pZ (pZ h)
theorem BN:Slot "set_iterator" "__next__" "set_iterator.__next__":=
 .of (owner:="set_iterator") (n:="__next__") (by rw[typeLookup_type,yy];kernel_rfl) (by decide+kernel) (by decide+kernel) (by decide+kernel)
  (by first|exact .inl (by decide+kernel)|exact .inr (by decide+kernel)) (by rw[zP];kernel_rfl)
theorem Ez:entryFor table "set_iterator.__next__"=Gc sQ.«set_iterator.__next__» :=entryFor_of_tree (by kernel_rfl)
theorem RL : Manifest.owners.lookup (String.ofList ['r', 'o', 't', 'a', 'r', 'e', 't', 'i', '_', 't', 'e', 's'].reverse) = Gc Manifest.sig_set_iterator := by kernel_rfl
theorem F7(a:pW):argsOk "set_iterator.__next__" ⟨[a],[]⟩:=by
 unfold argsOk; rw [signature?_of (id := "set_iterator.__next__") (n := ['_', '_', 't', 'x', 'e', 'n', '_', '_']) (o := ['r', 'o', 't', 'a', 'r', 'e', 't', 'i', '_', 't', 'e', 's']) (by kernel_rfl) RL]; kernel_rfl
theorem KO:Slot "set_iterator" "__iter__" "set_iterator.__iter__":=
 .of (owner:="set_iterator") (n:="__iter__") (by rw[typeLookup_type,yy];kernel_rfl) (by decide+kernel) (by decide+kernel) (by decide+kernel)
  (by first|exact .inl (by decide+kernel)|exact .inr (by decide+kernel)) (by rw[zP];kernel_rfl)
theorem Px(a:pW):argsOk "set_iterator.__iter__" ⟨[a],[]⟩:=by
 unfold argsOk; rw [signature?_of (id := "set_iterator.__iter__") (n := ['_', '_', 'r', 'e', 't', 'i', '_', '_']) (o := ['r', 'o', 't', 'a', 'r', 'e', 't', 'i', '_', 't', 'e', 's']) (by kernel_rfl) RL]; kernel_rfl
theorem Na:entryFor table "set_iterator.__iter__"=Gc sQ.«dict_keyiterator.__iter__» :=
 entryFor_alias (id':="dict_keyiterator.__iter__") (by kernel_rfl) (by first|rfl|decide+kernel|(unfold String.splitOn;simp+decide [String.splitOnAux])) (by decide+kernel) (by kernel_rfl)
theorem MQ:entryFor table "set.__iter__"=Gc sQ.«frozenset.__iter__» :=
 entryFor_alias (id':="frozenset.__iter__") (by kernel_rfl) rfl (by decide+kernel) (by kernel_rfl)
def SIt(h:qu)(I a:pz)(f:pW)(i n ep:Nat):Prop:=∃o,h.get? I=Gc o/\o.cls=.type "set_iterator" /\o.data=.fields #[f,.int i 0,.ref a,.int n 0,.int ep 0]
variable{I:pz}{i n:Nat}{f:pW}
theorem SIt.typeIs(x:SIt s.heap I a f i n ep):s.TypeIs (.ref I) "set_iterator":=let⟨o,ho,c,_⟩:=x;⟨o,ho,c⟩
theorem SIt.at{h h':qu}(x:SIt h I a f i n ep)(k:∀o,h.get? I=Gc o->h'.get? I=Gc o):SIt h' I a f i n ep:=let⟨o,ho,r⟩:=x;⟨o,k o ho,r⟩
theorem UA{Q:pW->pX->Prop}(x:SIt s.heap I a f i n ep)(h:Q (.ref I) s):wpAny (model prog w) A (pyIter (.ref I)) Q E s:=by
 refine wpAny_pyIter_slot x.typeIs KO (q9 KO x.typeIs Na ?_ (Px _))
 show wpAny _ _ (ret (.ref I)) _ _ s
 exact pZ ⟨_,rfl,"set_iterator",_,x.typeIs,BN.lookup,h⟩
theorem Ro{k nx:Nat}{v:pW}{Q:pY pW->pX->Prop}(hit:SIt s.heap I a (.int k 0) i es.size ep)(hs:Ko s.heap a es ep t)(hN:∀{A:qx} {Q:pY (pW×Nat)->pX->Prop} {E:pW->pX->Prop},Q (Gc (v,nx)) s->wpAny (model prog w) A (setNext a k i ep) Q E s)(hQ:∀h',SIt h' I a (.int nx 0) (i+1) es.size ep->t9 I s.heap h'->Q (Gc v) {s with heap:=h'}):wpAny (model prog w) A (pyNext (.ref I)) Q E s:=by
 obtain⟨o,ho,hc,hd⟩:=id hit
 obtain⟨os,hos,hex,hds,hf⟩:=id hs
 unfold pyNext
 refine Wp (vj (rC (name:=rK "__next__") hit.typeIs BN
  (q9 BN hit.typeIs Ez ?_ (F7 _))))
 unfold sQ.«set_iterator.__next__»
 refine Wp (m:=slotArgs "__next__" 0 _) (pZ (Wp (xX ho hd ?_)))
 show wpAny _ _ (setEntries a >>= _) _ _ _
 refine Wp (uq hos hds hf ?_)
 rw[qj (by simp)]
 show wpAny _ _ (setNext a k i ep >>= _) _ _ _
 refine Wp (hN ?_)
 show wpAny _ _ (setField (.ref I) 0 (rawInt nx) >>= λ_=>setField (.ref I) 1 (rawInt (i+1)) >>= λ_=>ret v) _ _ _
 refine Wp (uQ ho hd (by simp) ?_)
 have ho1:=rE (zr (·.setIfInBounds 0 (rawInt nx))) ho (uT (sP hd _))
 have hd1:=sP hd (·.setIfInBounds 0 (rawInt nx))
 refine Wp (uQ ho1 hd1 (by simp) (pZ ⟨v,rfl,pZ (hQ _ ?_ ((rf ..).trans (rf ..)))⟩))
 exact⟨_,rE _ ho1 (uT (sP hd1 _)),(wL ..).trans ((wL ..).trans hc),by
  rw[sP hd1];simp[rawInt]⟩
end
end Mi
end
noncomputable section
namespace Mi
open PySem PySem.Spec L2 PyProof.Rows
section
variable{prog:qa}{w:qq}{A:qx}{E:pW->pX->Prop}{s:pX}{a:pz}{es:qd (Int×pW)}{ep:Nat}{t:SetTable}{I:pz}{i n:Nat}{f:pW}
theorem UD{k:Nat}{Q:pY pW->pX->Prop}(hh:A.handled=none)(hit:SIt s.heap I a (.int k 0) i es.size ep)(hs:Ko s.heap a es ep t)(hN:∀{A:qx} {Q:pY (pW×Nat)->pX->Prop} {E:pW->pX->Prop},Q none s->wpAny (model prog w) A (setNext a k i ep) Q E s)(hQ:∀h',vz I s.heap h'->Q none {s with heap:=h'}):wpAny (model prog w) A (pyNext (.ref I)) Q E s:=by
 obtain⟨o,ho,hc,hd⟩:=id hit
 obtain⟨os,hos,hex,hds,hf⟩:=id hs
 unfold pyNext
 refine Wp (vj (rC (name:=rK "__next__") hit.typeIs BN
  (q9 BN hit.typeIs Ez ?_ (F7 _))))
 unfold sQ.«set_iterator.__next__»
 refine Wp (m:=slotArgs "__next__" 0 _) (pZ (Wp (xX ho hd ?_)))
 show wpAny _ _ (setEntries a >>= _) _ _ _
 refine Wp (uq hos hds hf ?_)
 rw[qj (by simp)]
 show wpAny _ _ (setNext a k i ep >>= _) _ _ _
 refine Wp (hN ?_)
 show wpAny _ _ (setField (.ref I) 2 .none >>= λ_=>newExc (.type "StopIteration") [] >>= λe=>raiseNew e) _ _ _
 refine Wp (uQ ho hd (by simp) ?_)
 refine Wp ?_
 simp only[newExc,newTuple]
 refine Wp (qr ?_ (by size_fits))
 refine Wp (m:=firstArgMember _ _) (xw (a:=sL) (by first|rfl|(simp only[firstArgMember];rfl)) ?_)
 refine qr ?_ (by size_fits)
 simp only[raiseNew]
 refine Wp (wpAny_handled ?_)
 rw[show A.in1.handled=none from hh]
 refine Wp (pZ (wpAny_throw ?_))
 refine Wp (vd (T:="StopIteration") (b:=true) ⟨_,qG _ rfl,rfl⟩ zK ?_)
 exact pZ (hQ _ (((rf ..).extBut.push _).push _))
theorem R8{T:pz}{pl:qd pW}{k:Nat}{e:Int×pW}{Q:pY pW->pX->Prop}(hit:SIt s.heap I a (.ref T) i es.size ep)(hs:Ko s.heap a es ep t)(hT:s.heap.IsTuple T pl)(hp:pl[i]?=Gc (.int k 0))(he:es[k]?=Gc e)(hQ:∀h',SIt h' I a (.ref T) (i+1) es.size ep->t9 I s.heap h'->Q (Gc e.2) {s with heap:=h'}):wpAny (model prog w) A (pyNext (.ref I)) Q E s:=by
 obtain⟨o,ho,hc,hd⟩:=id hit
 obtain⟨os,hos,hex,hds,hf⟩:=id hs
 obtain⟨ot,hot,_,nt,hdt⟩:=id hT
 unfold pyNext
 refine Wp (vj (rC (name:=rK "__next__") hit.typeIs BN
  (q9 BN hit.typeIs Ez ?_ (F7 _))))
 unfold sQ.«set_iterator.__next__»
 refine Wp (m:=slotArgs "__next__" 0 _) (pZ (Wp (xX ho hd ?_)))
 show wpAny _ _ (setEntries a >>= _) _ _ _
 refine Wp (uq hos hds hf ?_)
 rw[qj (by simp)]
 show wpAny _ _ (seqItems? (.ref T) >>= _) _ _ _
 refine Wp (tV hot hdt ?_)
 simp only[vS,hp]
 refine Wp (m:=setNextDrawn a k ep) ?_
 unfold setNextDrawn
 refine Wp (ue hos hds hf ?_)
 simp only[wV,sg,ux,he]
 refine pZ ?_
 show wpAny _ _ (setField (.ref I) 1 (rawInt (i+1)) >>= λ_=>ret e.2) _ _ _
 refine Wp (uQ ho hd (by simp) (pZ ⟨e.2,rfl,pZ (hQ _ ?_ (rf ..))⟩))
 exact⟨_,rE _ ho (uT (sP hd _)),(wL ..).trans hc,by
  rw[sP hd];simp[rawInt]⟩
theorem Ue{T:pz}{pl:qd pW}{Q:pY pW->pX->Prop}(hh:A.handled=none)(hit:SIt s.heap I a (.ref T) i es.size ep)(hs:Ko s.heap a es ep t)(hT:s.heap.IsTuple T pl)(hp:pl[i]?=none)(hQ:∀h',vz I s.heap h'->Q none {s with heap:=h'}):wpAny (model prog w) A (pyNext (.ref I)) Q E s:=by
 obtain⟨o,ho,hc,hd⟩:=id hit
 obtain⟨os,hos,hex,hds,hf⟩:=id hs
 obtain⟨ot,hot,_,nt,hdt⟩:=id hT
 unfold pyNext
 refine Wp (vj (rC (name:=rK "__next__") hit.typeIs BN
  (q9 BN hit.typeIs Ez ?_ (F7 _))))
 unfold sQ.«set_iterator.__next__»
 refine Wp (m:=slotArgs "__next__" 0 _) (pZ (Wp (xX ho hd ?_)))
 show wpAny _ _ (setEntries a >>= _) _ _ _
 refine Wp (uq hos hds hf ?_)
 rw[qj (by simp)]
 show wpAny _ _ (seqItems? (.ref T) >>= _) _ _ _
 refine Wp (tV hot hdt ?_)
 simp only[vS,hp]
 show wpAny _ _ (setField (.ref I) 0 (rawInt 0) >>= λ_=>setField (.ref I) 2 .none >>= λ_=>newExc (.type "StopIteration") [] >>= λe=>raiseNew e) _ _ _
 refine Wp (uQ ho hd (by simp) ?_)
 have ho1:=rE (zr (·.setIfInBounds 0 (rawInt 0))) ho (uT (sP hd _))
 have hd1:=sP hd (·.setIfInBounds 0 (rawInt 0))
 refine Wp (uQ ho1 hd1 (by simp) ?_)
 refine Wp ?_
 simp only[newExc,newTuple]
 refine Wp (qr ?_ (by size_fits))
 refine Wp (m:=firstArgMember _ _) (xw (a:=sL) (by first|rfl|(simp only[firstArgMember];rfl)) ?_)
 refine qr ?_ (by size_fits)
 simp only[raiseNew]
 refine Wp (wpAny_handled ?_)
 rw[show A.in1.handled=none from hh]
 refine Wp (pZ (wpAny_throw ?_))
 refine Wp (vd (T:="StopIteration") (b:=true) ⟨_,qG _ rfl,rfl⟩ zK ?_)
 exact pZ (hQ _ ((((rf ..).trans (rf ..)).extBut.push _).push _))
theorem Zm(hh:A.handled=none)(I a:pz)(hne:a≠I)(es:qd (Int×pW))(ep:Nat)(t:SetTable)(g:Nat->Nat)(items:qd pW)(hN:∀(s:pX) (i:Nat) {A:qx} {Q:pY (pW×Nat)->pX->Prop} {E:pW->pX->Prop},Ko s.heap a es ep t->i<=items.size->Q (items[i]?.map λx=>(x,g (i+1))) s->wpAny (model prog w) A (setNext a (g i) i ep) Q E s):Walks prog w A I [I,a] [I] items.size (λi v=>items[i]?=Gc v) (λi h=>SIt h I a (.int (g i) 0) i es.size ep/\Ko h a es ep t) where
 sub:=λb hb=>by simp at hb;simp[hb]
 frame:=λ_ _ _ st hk=>⟨st.1.at λo e=>hk I (by simp) o e,st.2.at λo e=>hk a (by simp) o e⟩
 item:=λi s Q E hi st hQ=>by
  have e:items[i]?=Gc items[i]:=by simp[hi]
  refine Ro st.1 st.2 (v:=items[i]) (nx:=g (i+1)) (λq=>hN s i st.2 (sF hi) (by rw[e];exact q)) λh' hit' hs'=>?_
  exact hQ _ h' s.toks (by simp[hi]) ⟨hit',st.2.at λo e=>hs'.extBut a o hne e⟩ λb o hb e=>hs'.extBut b o (λh=>hb (by simp[h])) e
 done:=λs Q E st hQ=>UD hh st.1 st.2 (λq=>hN s items.size st.2 (p9 _) (by simpa using q)) λh' he'=>hQ h' s.toks λb o hb e=>he' b o (λh=>hb (by simp[h])) e
 self:=λ_ _ _ _ st hQ=>UA st.1 hQ
theorem c8(hh:A.handled=none)(I a T:pz)(hne:a≠I)(hnT:T≠I)(es:qd (Int×pW))(ep:Nat)(t:SetTable)(ks:List Nat)(items:qd pW)(hz:items.size=ks.length)(hk:∀(i k:Nat),ks[i]?=Gc k->∃e:Int×pW,es[k]?=Gc e/\items[i]?=Gc e.2):Walks prog w A I [I,a,T] [I] items.size (λi v=>items[i]?=Gc v) (λi h=>SIt h I a (.ref T) i es.size ep/\Ko h a es ep t/\h.IsTuple T (ks.map λ(i:Nat)=>rawInt i).toArray) where
 sub:=λb hb=>by simp at hb;simp[hb]
 frame:=λ_ _ _ st hk=>⟨st.1.at λo e=>hk I (by simp) o e,st.2.1.at λo e=>hk a (by simp) o e,st.2.2.at λo e=>hk T (by simp) o e⟩
 item:=λi s Q E hi st hQ=>by
  have hi':i<ks.length:=by omega
  obtain⟨e,he,hv⟩:=hk i ks[i] (by simp[hi'])
  refine R8 st.1 st.2.1 st.2.2 (k:=ks[i]) (by simp[hi',rawInt]) he λh' hit' hs'=>?_
  exact hQ _ h' s.toks hv ⟨hit',st.2.1.at λo e=>hs'.extBut a o hne e,st.2.2.at λo e=>hs'.extBut T o hnT e⟩ λb o hb e=>hs'.extBut b o (λh=>hb (by simp[h])) e
 done:=λs Q E st hQ=>Ue hh st.1 st.2.1 st.2.2 (by simp[hz]) λh' he'=>hQ h' s.toks λb o hb e=>he' b o (λh=>hb (by simp[h])) e
 self:=λ_ _ _ _ st hQ=>UA st.1 hQ
end
end Mi
end
noncomputable section
namespace Mi
open PySem PySem.Spec L2 PyProof.Rows
theorem Jw{α:Type}:∀(l:List α) (i:Nat) (h:i<l.length),(l[i]::l.eraseIdx i).Perm l
 |x::l,0,h=>wU _
 |x::l,i+1,h=>(List.Perm.swap _ _ _).trans (List.Perm.cons _ (Jw l i (by simpa using h)))
theorem SY{α:Type}(nx:Nat->Nat):∀(fuel k:Nat) (left:List α) (out:qd α),left.length<=fuel->(pickOrder.go nx fuel k left out).toList.Perm (out.toList++left)
 |0,k,left,out,h=>by
  cases left with
  |nil=>simp[pickOrder.go]
  |cons x l=>simp at h
 |fuel+1,k,left,out,h=>by
  unfold pickOrder.go
  cases e:left[nx k % left.length]? with
  |none=>
   cases left with
   |nil=>simp
   |cons x l=>
    rw[sS]at e
    exact absurd (Nat.mod_lt (nx k) (Nat.succ_pos l.length)) (by simpa using e)
  |some x=>
   obtain⟨lt,rfl⟩:=qF.mp e
   refine(SY nx fuel (k+1) _ _ (by rw[zQ];simp[lt];omega)).trans ?_
   rw[Array.toList_push,rz]
   exact List.Perm.append_left _ (Jw _ _ lt)
theorem Tb{α:Type}(nx:Nat->Nat)(xs:qd α):(pickOrder nx xs).toList.Perm xs.toList:=by
 have:=SY nx xs.size 0 xs.toList #[] (by simp)
 unfold pickOrder
 simpa using this
section
variable{prog:qa}{w:qq}{A:qx}{E:pW->pX->Prop}{s:pX}{a:pz}
theorem wp_choose{M:Model}{src:Source}{n:Nat}{Q:Nat->pX->Prop}(hn:n≠0)(h:∀i d,i<n->Q i {s with drawn:=d}):wpAny M A (choose src n) Q E s:=
 λ_ _ _=>⟨hn,h _ _ (Nat.mod_lt _ (xY hn))⟩
theorem PF{α:Type}:∀(n:Nat) (xs:List α) (s:pX) {Q:List α->pX->Prop},xs.length<=n->(∀ys d,ys.Perm xs->Q ys {s with drawn:=d})->wpAny (model prog w) A (drawOrder n xs) Q E s
 |0,xs,s,Q,hl,h=>by
  cases xs with
  |nil=>exact pZ (h [] s.drawn (wU _))
  |cons x l=>simp at hl
 |n+1,[],s,Q,hl,h=>pZ (h [] s.drawn (wU _))
 |n+1,x::l,s,Q,hl,h=>by
  unfold drawOrder
  refine Wp (wp_choose (by simp) λi d hi=>?_)
  have e:(x::l)[i]?=Gc (x::l)[i]:=by simp[hi]
  rw[e]
  refine Wp (PF n _ _ (by rw[zQ,qc hi];simp at hl ⊢; omega) λys d' p=>pZ (h _ d' ?_))
  exact(List.Perm.cons _ p).trans (Jw _ _ hi)
theorem N0{es:List (Int×pW)}(h:yg (intKind prog w) es):tW (es.map (·.2)) (vls es):=by
 induction es with
 |nil=>exact .nil
 |cons e l ih=>
  obtain⟨⟨k,q,_⟩,_⟩:=h.head
  obtain⟨t,hv⟩:=xl q
  obtain⟨x,v⟩:=e
  dsimp only at hv
  subst hv
  exact .cons _ _ (ih h.tail)
theorem Vb{L:List Int}{Q:pW->pX->Prop}(hS:Ki prog w s.heap a L)(h:∀(I:pz) (fp:List pz) (items:qd pW) (St:Nat->qu->Prop) (ms:List Int) (h':qu) (d':Drawn),(∀A':qx,A'.handled=none->Walks prog w A' I fp [I] items.size (λi v=>items[i]?=Gc v) St)->St 0 h'->(∀b∈fp,b<h'.objs.size)->(∀b∈fp,b=a\/s.heap.objs.size<=b)->s.heap.objs.size<=I->tW items.toList ms->ms.Perm L->(∀b o,s.heap.get? b=Gc o->h'.get? b=Gc o)->Q (.ref I) {s with heap:=h',drawn:=d'}):wpAny (model prog w) A (pyIter (.ref a)) Q E s:=by
 obtain⟨o,es,ep,t,ho,hex,hd,hel,hp,hb,hf,ht⟩:=hS
 have ty:s.TypeIs (.ref a) "set":=⟨o,ho,hex.1⟩
 have la:=qI ho
 have ps:t.place.size=es.size:=by simp only[SetTable.fits,qO,AAB]at hf;exact hf.1
 refine wpAny_pyIter_slot ty F.slot_set_iter (q9 F.slot_set_iter ty MQ ?_ (F.args_set_iter_1 _))
 unfold sQ.«frozenset.__iter__»
 refine Wp (m:=Builtin.Frozenset.slot0 "__iter__" _) (pZ ?_)
 refine Wp (m:=Builtin.Frozenset.sizeOf a) (Wp (uq ho hd hf (pZ ?_)))
 refine Wp (m:=setDrawn a) ?_
 unfold setDrawn
 refine Wp (ue ho hd hf (Wp (JC (pZ ?_))))
 show wpAny _ _ (if(!byT w && (!t.plain && decide (es.size>1)))=true then _ else _) _ _ _
 cases hbt:byT w with
 |true=>
  rw[qj (by simp)]
  refine Wp (pZ (Wp (xy ho hd hf (Wp (qr ?_)))))
  refine pZ ⟨_,rfl,"set_iterator",_,⟨_,qG _ rfl,rfl⟩,BN.lookup,?_⟩
  have pk:=Tb (w.params.setOrder a ep) es
  refine h _ [s.heap.objs.size,a] ((pickOrder (w.params.setOrder a ep) es).map (·.2)) _ (vls (pickOrder (w.params.setOrder a ep) es).toList) _ _
   (λA' hh=>Zm hh _ a (qN la) es ep t (λ_=>0) _ λs i A Q E x hi q=>Tp hbt x (by simpa[Function.comp_def]using q))
   ⟨⟨_,qG _ rfl,rfl,rfl⟩,o,pU _ ho,hex,hd,hf⟩ ?_ (λb hb=>by simp at hb;rcases hb with rfl|rfl<;>simp) (p9 _) ?_ ((pk.map iOf).trans hp) (λb o e=>pU _ e)
  .intro b hb
   rw[ql]
   simp at hb
   rcases hb with rfl|rfl
   .exact uH _
   .exact sC la
  .rw[yU]
   exact N0 (hel.perm pk)
 |false=>
  rw[hbt]at ht
  cases hpl:(!t.plain && decide (es.size>1))with
  |false=>
   rw[qj (by simp)]
   refine Wp (pZ (Wp (xy ho hd hf (Wp (qr ?_)))))
   refine pZ ⟨_,rfl,"set_iterator",_,⟨_,qG _ rfl,rfl⟩,BN.lookup,?_⟩
   refine h _ [s.heap.objs.size,a] (es.map (·.2)) _ (vls es.toList) _ _
    (λA' hh=>Zm hh _ a (qN la) es ep t (slotAt t.place) _ λs i A Q E x hi q=>SH hbt x hpl (by rw[ht.led];rfl) ?_)
    ⟨⟨_,qG _ rfl,rfl,rfl⟩,o,pU _ ho,hex,hd,hf⟩ ?_ (λb hb=>by simp at hb;rcases hb with rfl|rfl<;>simp) (p9 _) ?_ hp (λb o e=>pU _ e)
   .have hi':i<=es.size:=by simpa using hi
    rw[Ra ht.ris (by omega)]
    by_cases z:i<es.size
    .have z':i<t.place.size:=by omega
     have e1:es[i]?=Gc es[i]:=by simp[z]
     have e2:t.place[i]?=Gc t.place[i]:=by simp[z']
     rw[AAH,e1]at q
     have e3:slotAt t.place (i+1)=t.place[i]+1:=by simp[slotAt,vq,z']
     rw[e1,e2]
     simp only[Option.map_some,e3]at q
     exact q
    .have e1:es[i]?=none:=by simp;omega
     rw[AAH,e1]at q
     rw[e1]
     exact q
   .intro b hb
    rw[ql]
    simp at hb
    rcases hb with rfl|rfl
    .exact uH _
    .exact sC la
   .rw[yU]
    exact N0 hel
  |true=>
   rw[qc (by simp)]
   refine Wp (PF _ _ _ (Nat.le_of_eq tY) λks d pks=>Wp (zJ ?_ ?_))
   .refine Wp (xy (pU _ ho) hd hf (Wp (qr ?_)))
    refine pZ ⟨_,rfl,"set_iterator",_,⟨_,qG _ rfl,rfl⟩,BN.lookup,?_⟩
    have kl:ks.length=es.size:=by have:=pks.length_eq;simpa using this
    have al:(qR es.size).map (λk=>es.getD k (0,.none))=es.toList:=by
     apply vB
     .simp
     .intro i h1 h2
      simp at h1 h2
      simp[vq,h2]
    have pe:(ks.map (λk=>es.getD k (0,.none))).Perm es.toList:=by rw[<-al];exact pks.map _
    refine h _ [(s.heap.push _).objs.size,a,s.heap.objs.size] ((ks.map (λk=>es.getD k (0,.none))).map (·.2)).toArray _ (vls (ks.map (λk=>es.getD k (0,.none)))) _ _
     (λA' hh=>c8 hh _ a s.heap.objs.size (by rw[ql];exact qN (sC la)) (by rw[ql];exact qN (uH _)) es ep t ks _ (by simp) λi k e=>?_)
     ⟨⟨_,qG _ rfl,rfl,rfl⟩,⟨o,pU _ (pU _ ho),hex,hd,hf⟩,⟨_,pU _ (qG _ rfl),rfl,_,rfl⟩⟩ ?_ (λb hb=>by rw[ql]at hb;simp at hb;rcases hb with rfl|rfl|rfl<;>simp) (by rw[ql];exact xv _) ?_ ((pe.map iOf).trans hp) (λb o e=>pU _ (pU _ e))
    .have km:k<es.size:=by
      have:k∈qR es.size:=pks.mem_iff.mp (qX e)
      simpa using this
     exact⟨es[k],by simp[km],by simp[e,vq,km]⟩
    .intro b hb
     rw[ql,ql]
     rw[ql]at hb
     simp at hb
     rcases hb with rfl|rfl|rfl
     .exact uH _
     .exact sC (sC la)
     .exact sC (uH _)
    .exact N0 (hel.perm pe)
   .rw[qP,pks.length_eq,tY];exact wR hb
end
end Mi
end
noncomputable section
namespace Mi
open PySem PySem.Spec L2 PyProof.Rows
section
variable{prog:qa}{w:qq}{A:qx}{E:pW->pX->Prop}{s:pX}{a:pz}{L:List Int}
theorem Ki.typeIs(x:Ki prog w s.heap a L):s.TypeIs (.ref a) "set":=let⟨o,_,_,_,ho,e,_⟩:=x;⟨o,ho,e.1⟩
theorem W0{items acc:qd pW}(h:zc (λi v=>items[i]?=Gc v) acc items.size):acc=items:=by
 apply Array.ext
 .exact h.1
 .intro i h1 h2
  have:=h.2 i acc[i] (by simp)
  simpa[h2]using this.symm
theorem Xk{Q:qk->pX->Prop}(x:s.TypeIs (.ref a) "set")(h:Q false s):wpAny (model prog w) A (uD (.ref a)) Q E s:=by
 unfold uD
 refine Wp (yq x F.slot_set_len.lookup ?_)
 generalize hid:("set.__len__":tZ)=id0
 wp_delta
 rw[show splitId id0=Gc ("set","__len__")from by subst hid;decide+kernel]
 subst hid
 refine Wp (vd (b:=true) x sub_set_self ?_)
 rw[qj (by decide)]
 dsimp only
 rw[qc (by decide+kernel)]
 refine Wp (vF (T:="set") x ?_)
 exact pZ h
theorem Pm{Q:List pW->pX->Prop}(hh:A.handled=none)(hS:Ki prog w s.heap a L)(h:∀(vs:List pW) (ms:List Int) (h':qu) (d':Drawn) (tk:Nat),tW vs ms->ms.Perm L->(∀b o,s.heap.get? b=Gc o->h'.get? b=Gc o)->s.heap.objs.size<=h'.objs.size->Q vs {s with heap:=h',drawn:=d',toks:=tk}):wpAny (model prog w) A (collect (.ref a)) Q E s:=by
 have lb:L.length<scanBound:=by
  obtain⟨o,es,ep,t,ho,hex,hd,hel,hp,hb,hf,ht⟩:=hS
  have:=hp.length_eq
  simp at this
  lia
 unfold collect
 refine Wp (zO (tu yD ?_))
 rw[sx yE _]
 show wpAny _ A.in1 (newList [] >>= λl=>again (.builtin "list.__iadd__" ⟨[l,.ref a],[]⟩)) _ _ s
 refine Wp (wj ?_)
 refine pZ ⟨vk vY _,tu zR ?_⟩
 rw[sx vY _]
 show wpAny _ A.in1 (rX (.ref s.heap.objs.size) (.ref a) (.ref s.heap.objs.size)) _ _ {s with heap:=s.heap.push (seqObj "list" #[] 0)}
 have hS1:Ki prog w (s.heap.push (seqObj "list" #[] 0)) a L:=hS.at λo e=>pU _ e
 have la:a<s.heap.objs.size:=by obtain⟨o,es,ep,t,ho,r⟩:=hS;exact qI ho
 have me:(s.heap.push (seqObj "list" #[] 0)).get? s.heap.objs.size=Gc (seqObj "list" #[] 0):=qG _ rfl
 have h1:um (.ref s.heap.objs.size) (.ref a)=false:=by simp[um];exact vD la
 unfold rX
 refine Wp (vF (T:="set") (Ki.typeIs (s:={s with heap:=s.heap.push (seqObj "list" #[] 0)}) hS1) ?_)
 rw[qj (by rw[h1];decide)]
 refine Wp (Vb (s:={s with heap:=s.heap.push (seqObj "list" #[] 0)}) hS1 λI fp items St ms h2 d2 W st fpl fpn Ip im pm kp=>?_)
 have hS2:Ki prog w h2 a L:=hS1.at λo e=>kp a o e
 refine Wp (rB (Xk (Ki.typeIs (s:={s with heap:=h2,drawn:=d2}) hS2) ?_))
 rw[qc (by decide+kernel)]
 have Ip':s.heap.objs.size<I:=by rw[show _=s.heap.objs.size+1 from ql ..]at Ip;exact Ip
 have hSf:s.heap.objs.size∉fp:=λz=>by
  rcases fpn _ z with e|e
  .exact vD la e
  .rw[show _=s.heap.objs.size+1 from ql ..]at e;exact tH _ e
 have m2:=kp _ _ me
 have hn:items.size<=sizeLine:=by
  have e1:=im.length
  have e2:=pm.length_eq
  simp at e1
  have:=wR lb
  lia
 refine Wp (uh (Wp ?_))
 show wpAny _ A.in1 (updateSeq s.heap.objs.size (·.push .none) >>= λ_=>updateSeq s.heap.objs.size (·.pop)) _ _ _
 refine Wp (vN (s:={s with heap:=h2,drawn:=d2}) m2 rfl ?_)
 have m3:=rE (rA (·.push sL)) m2 rfl
 refine vN m3 rfl ?_
 have m4:=rE (rA (·.pop)) m3 rfl
 have oth:∀b o,b≠s.heap.objs.size->h2.get? b=Gc o->
   ((h2.update s.heap.objs.size (rA (·.push sL))).update s.heap.objs.size (rA (·.pop))).get? b=Gc o:=
  λb o hb e=>(sH _ _ (rm hb)).trans ((sH _ _ (rm hb)).trans e)
 have W1:=(W A.in1 (by simp[hh])).toS
 refine pZ ⟨vk zi _,zS W1 hn _ hSf _ items.size 0 _ _ _ rfl (rS _) ?_ m4 (ItemsOf.nil _) λs' acc' c' hm hS' hacc=>?_⟩
 .exact(W A.in1 (by simp[hh])).frame 0 _ _ st λb hb o e=>oth b o (λz=>hSf (z▸hb)) e
 .have ea:=W0 hacc
  subst ea
  obtain⟨h',g',d',tk',os'⟩:=s'
  have e1:g'=s.gens:=hm.gens
  have e2:d'=d2:=hm.drawn
  have e3:os'=s.os:=hm.os
  subst e1 e2 e3
  refine Wp (z0 hS' (pZ (h _ ms _ _ _ im pm (λb o e=>?_) (sF (qI hS')))))
  have lb:=qI e
  exact hm.heap b o (by simp;exact⟨qN lb,qN (tJ lb Ip')⟩) (oth b o (qN lb) (kp b o (pU _ e)))
end
end Mi
end
noncomputable section
namespace Mi
open PySem PySem.Spec L2 PyProof.Rows
section
variable{prog:qa}{w:qq}{A:qx}{E:pW->pX->Prop}{s:pX}{a:pz}{L:List Int}
theorem QI{Q:pW->pX->Prop}(hh:A.handled=none)(hS:Ki prog w s.heap a L)(h64:L.length<64)(h:∀(p:pz) (out:qd pW) (e:Nat) (ms:List Int) (h':qu) (d':Drawn) (tk:Nat),s.heap.objs.size<=p->h'.get? p=Gc (seqObj "list" out e)->tW out.toList ms->ms.Perm L->ms.Pairwise (· <= ·)->(∀b o,s.heap.get? b=Gc o->h'.get? b=Gc o)->Q (.ref p) {s with heap:=h',drawn:=d',toks:=tk}):wpAny (model prog w) A (call (.builtin "sorted") [.ref a]) Q E s:=by
 refine xj kind_sorted plain_sorted entry_sorted (args_sorted1 _) ?_
 unfold sQ.«sorted»
 refine Wp (m:=checkCount "sorted" 1 1 _) (pZ (Wp (Pm (by simp[hh]) hS λvs ms h' d' tk im pm kp lz=>Wp (wj ?_ ?_))))
 .have at1:(h'.push (seqObj "list" vs.toArray 0)).get? h'.objs.size=Gc (seqObj "list" vs.toArray 0):=qG _ rfl
  have vl:vs.length<64:=by rw[im.length,pm.length_eq];exact h64
  show wpAny _ _ _ _ _ {s with heap:=h'.push (seqObj "list" vs.toArray 0),drawn:=d',toks:=tk}
  refine Wp (rB (q9 slot_list_sort ⟨_,at1,rfl⟩ entry_list_sort (list_sort_tree at1 im vl λout ns' a1 a2 a3=>⟨_,rfl,pZ ⟨_,rfl,?_⟩⟩) (args_list_sort _)))
  obtain⟨e,he⟩:=sortedHeap_at (out:=out) at1
  refine h _ out e ns' _ d' tk lz he a1 (a2.trans pm) a3 λb o q=>?_
  have lb:b<h'.objs.size:=qI (kp b o q)
  rw[sortedHeap_old (qN lb) (by rw[ql];exact sC lb)]
  exact pU _ (kp b o q)
 .have:vs.length<64:=by rw[im.length,pm.length_eq];exact h64
  exact qD (sF this) (by decide)
end
theorem YC{X:Cx}{pins:List (pz×Obj)}{σ:List (pY V)}{H:Hp}{s:pX}(I:Inv X pins σ H s)(d:Drawn):Inv X pins σ H {s with drawn:=d}:=
 I.step (g':=s.gens) (d':=d) (t':=s.toks) (ch:=[]) (λ_ z=>nomatch z) (λ_ _ _ _ _ e _=>e) (λb o _ _ _ e _=>⟨o.slots,e⟩) (λ_ _ _ _ n=>n) (λb o _ e=>⟨o,e⟩) (λ_ _ e=>e) (λ_ _ _ e=>e) (λb ps e=>⟨#[],by rw[e];simp⟩) (λ_ m=>m) I.hok I.bare
noncomputable def wSS:Op1:=λw=>(asL w).bind λds=>(Kn ds).bind λns=>if ns.length<=1000/\(WD ns ns.length).length<64 then Gc (.own ((MB (WD ns ns.length)).map D.int))else none
theorem kg{X:Cx}{a:qh}{ta:TA}{p p' pos pos':Pos}(hc:X.calm=true)(hgl:Gl X "sorted")(hml:X.mg "sorted"=none)(hg:Gl X "set")(hm:X.mg "set"=none)(ha:PA X [a] ta)(hs:qb [a] X.env=[(false,eval a X.env)]:=by rfl)(hs2:qb [Expr.Call (.Name "set" p) [a] [] pos] X.env=[(false,eval (.Call (.Name "set" p) [a] [] pos) X.env)]:=by rfl):PE X (.Call (.Name "sorted" p') [.Call (.Name "set" p) [a] [] pos] [] pos') (λσ H Q=>ta σ H λvs H1=>rN X.K (o1 wSS) vs H1 Q):=by
 intro pins s σ H Q I h
 refine uM (JX I hgl hml boot_sorted ?_ (by decide) (by decide))
 refine callWith_builtin1 ?_ hs2 rfl
 rw[hs2]
 show wpAny _ _ (spliced ((false,eval (.Call (.Name "set" p) [a] [] pos) X.env)::backTo pos' [])) _ _ s
 refine vQ ?_
 refine uM (JX I hg hm PyProof.Rows.boot_set ?_ (by decide) (by decide))
 refine uA (thn (ha pos pins s σ H _ I h) λus s1 ⟨vs,H1,I1,r1,q1⟩=>?_) hs rfl
 obtain⟨M,ws,w,e,mo,sh,q⟩:=q1
 obtain⟨v,w1,rfl,rfl,sh1,e1⟩:=GA sh e
 obtain⟨ds,e2,e1⟩:=An e1
 obtain⟨ns,e3,e1⟩:=An e1
 split at e1
 .rename_i hz
  cases e1
  obtain⟨b,ys,rfl,h3,h4⟩:=sh1.l e2
  have hL:SqL X.K H1 b (ns.map V.int):=by rw[<-Lu h4 e3];exact .of h3
  obtain⟨u,rfl,ru⟩:=r1.one
  cases (show u=qz b from ru)
  obtain⟨its,rv,pl,_⟩:=I1.list hL
  have hl:its.length=ns.length:=by have:=rv.length;simpa using this.symm
  have hl2:its.toArray.size=ns.length:=by rw[qK,hl]
  refine Ux (items:=its.toArray) (ns:=ns) (I1.ok.hd hc) pl.isList (by simpa using intsAre_of rv) (by rw[hl2];unfold scanBound;lia) λh' tk hS hk=>vU ?_
  rw[hl2]at hS
  refine QI (s:={s1 with heap:=h',toks:=tk}) (I1.ok.hd hc) hS hz.2 λp out e ms h2 d2 tk2 lp hp a1 a2 a3 kp=>?_
  have hs':=SG a2 a3
  subst hs'
  have k2:∀b o,s1.heap.get? b=Gc o->h2.get? b=Gc o:=λb o z=>kp b o (hk b o z)
  have lp2:s1.heap.objs.size<=p:=by
   obtain⟨_,_,_,_,ho,_⟩:=hS
   exact qD (sF (qI ho)) lp
  have hn:H1 p=none:=I1.hok.fresh lp2
  refine⟨.ref _,_,YC (I1.laid (a:=p) (o:=.lst ((MB (WD ns ns.length)).map V.int)) (t':=tk2) k2 lp2 ?_) d2,rfl,q _ _ (.lst mo hn Jc)⟩
  refine⟨?_,out.toList,e,Hh a1,?_⟩
  .rw[qP,(ID _).length_eq]
   have:(64:Nat)<=sizeLine:=by decide
   lia
  .rw[zT];exact hp
 .cases e1
theorem kj{X:Cx}{a:qh}{o:Ev}{c:qk}{p p' pos pos':Pos}(hc:X.calm=true)(hgl:Gl X "sorted")(hml:X.mg "sorted"=none)(hg:Gl X "set")(hm:X.mg "set"=none)(ha:DEs X [a] [o])(hs:qb [a] X.env=[(false,eval a X.env)]:=by rfl)(hs2:qb [Expr.Call (.Name "set" p) [a] [] pos] X.env=[(false,eval (.Call (.Name "set" p) [a] [] pos) X.env)]:=by rfl):DE X (.Call (.Name "sorted" p') [.Call (.Name "set" p) [a] [] pos] [] pos') (Nf c (o1 wSS) [o]):=⟨
 BQ (kg hc hgl hml hg hm ha.pe hs hs2) λ_ _ _ h=>by
  obtain⟨M,E,S,d,S',e,r,st,q⟩:=h
  exact Lf e r st q⟩
end Mi
end
noncomputable section
namespace Mi
open PySem PySem.Spec L2 PyProof.Rows
section
variable{prog:qa}{w:qq}{A:qx}{E:pW->pX->Prop}{s:pX}{K:Type} [zB K] {knd:KeyKind prog w K}{d:pz}{kvs:List (K×pW)}
abbrev kC(knd:KeyKind prog w K)(kvs:List (K×pW)):Nat->pW->Prop:=λi v=>∃k x,kvs[i]?=Gc (k,x)/\knd.is k v=true
theorem Sx{Q:qk->pX->Prop}(x:s.TypeIs (.ref d) "dict")(h:Q false s):wpAny (model prog w) A (uD (.ref d)) Q E s:=by
 unfold uD
 refine Wp (yq x F.slot_dict_len.lookup ?_)
 generalize hid:("dict.__len__":tZ)=id0
 wp_delta
 rw[show splitId id0=Gc ("dict","__len__")from by subst hid;decide+kernel]
 subst hid
 refine Wp (vd (b:=true) x (by rw[zP];kernel_rfl) ?_)
 rw[qj (by decide)]
 dsimp only
 rw[qc (by decide+kernel)]
 refine Wp (vF (T:="dict") x ?_)
 exact pZ h
theorem QR{R:z8->pX->Prop}{S:pz}{res:pW}{c₀:Nat}(hh:A.handled=none)(hd:(d==sysModules)=false)(D:s.heap.DictOf knd d kvs)(hn:kvs.length<=sizeLine)(hS:s.heap.get? S=Gc {cls:=.type "list",data:=.seq #[] c₀})(hR:∀h' tk acc' c',(∀b o,b≠S->s.heap.get? b=Gc o->h'.get? b=Gc o)->h'.get? S=Gc {cls:=.type "list",dict:=none,data:=.seq acc' c',slots:= #[]}->zc (kC knd kvs) acc' kvs.length->R (.ok (.ret res)) {s with heap:=h',toks:=tk}):wpAny (model prog w) A.in1 (rX (.ref S) (.ref d) res) (λfin s'=>match fin with| .done f=>R (.ok f) s'| .again c'=>c'.quiet=true/\codeAny (model prog w) A c' R s') (λe s'=>R (.error e) s') s:=by
 obtain⟨ep,D⟩:=D.dictAt
 have ty:s.TypeIs (.ref d) "dict":=D.dictOf.typeIs
 have ld:=D.lt_size
 have lS:=qI hS
 have hSd:S≠d:=λe=>by
  subst e
  obtain⟨o,es,ho,hc,_⟩:=id D
  rw[hS]at ho;cases ho
  exact absurd hc.1 (by simp)
 have h1:um (.ref S) (.ref d)=false:=by simp[um,hSd]
 unfold rX
 refine Wp (vF (T:="dict") ty ?_)
 rw[qj (by rw[h1];decide)]
 refine Wp (wpAny_pyIter_dict hd D ?_)
 generalize hkI:({cls:=.type "dict_keyiterator",data:=.fields #[.ref d,.int 0 0,.int kvs.length 0,.int ep 0]}:Obj)=kI
 have D1:=D.push kI
 refine Wp (rB (Sx (Heap.DictOf.typeIs (s:={s with heap:=s.heap.push _}) D1.dictOf) ?_))
 rw[qc (by decide+kernel)]
 have S1:=pU kI hS
 refine Wp (uh (Wp ?_))
 show wpAny _ A.in1 (updateSeq S (·.push .none) >>= λ_=>updateSeq S (·.pop)) _ _ _
 refine Wp (vN S1 rfl ?_)
 have m3:=rE (rA (·.push sL)) S1 rfl
 refine vN (hz:=by seq_fits) m3 rfl ?_
 have m4:=rE (rA (·.pop)) m3 rfl
 have oth:∀(h2:qu) b o,b≠S->h2.get? b=Gc o->
   ((h2.update S (rA (·.push sL))).update S (rA (·.pop))).get? b=Gc o:=
  λh2 b o hb e=>(sH _ _ (rm hb)).trans ((sH _ _ (rm hb)).trans e)
 have W:=Walks.dictKeys (knd:=knd) (A:=A.in1) (by simp[hh]) s.heap.objs.size d (qN ld) kvs ep
 have hSf:S∉ [s.heap.objs.size,d]:=by simp;exact⟨qN lS,hSd⟩
 refine pZ ⟨vk zi _,zS W.toS hn _ hSf _ kvs.length 0 _ _ _ rfl (rS _) ?_ m4 (ItemsOf.nil _) λs' acc' c' hm hS' hacc=>?_⟩
 .exact W.frame 0 (s.heap.push kI) _ ⟨⟨kI,qG _ (by rw[<-hkI];rfl),by rw[<-hkI],by rw[<-hkI];rfl⟩,D1⟩ λb hb o e=>oth (s.heap.push kI) b o (λz=>hSf (z▸hb)) e
 .obtain⟨h',g',d',tk',os'⟩:=s'
  have e1:g'=s.gens:=hm.gens
  have e2:d'=s.drawn:=hm.drawn
  have e3:os'=s.os:=hm.os
  subst e1 e2 e3
  refine hR h' tk' acc' c' (λb o nb e=>?_) hS' hacc
  have lb:=qI e
  have q2:=oth (s.heap.push kI) b o nb (pU kI e)
  have q3:b∉S:: [s.heap.objs.size]:=by simp;exact⟨nb,qN lb⟩
  exact hm.heap b o q3 q2
theorem SK{Q:pW->pX->Prop}(hh:A.handled=none)(hd:(d==sysModules)=false)(D:s.heap.DictOf knd d kvs)(hn:kvs.length<=sizeLine)(hQ:∀h' tk acc' c',(∀b o,s.heap.get? b=Gc o->h'.get? b=Gc o)->h'.get? s.heap.objs.size=Gc {cls:=.type "list",dict:=none,data:=.seq acc' c',slots:= #[]}->zc (kC knd kvs) acc' kvs.length->Q (.ref s.heap.objs.size) {s with heap:=h',toks:=tk}):wpAny (model prog w) A (call (.type "list") [.ref d]) Q E s:=by
 refine callType_codes (Q₁:=λobj s₁=>obj=.ref s.heap.objs.size/\s₁={s with heap:=s.heap.push {cls:=.type "list",data:=.seq #[]}}) F.called_list (F.typeCall_list_1 _) F.entry_list_init
  (code_list_new _ ⟨rfl,rfl⟩) λobj s₁ h₁=>?_
 obtain⟨rfl,rfl⟩:=h₁
 have hS:(s.heap.push {cls:=.type "list",data:=.seq #[]}).get? s.heap.objs.size=Gc {cls:=.type "list",data:=.seq #[]}:=qG _ rfl
 refine⟨⟨_,hS,rfl⟩,F.args_list_init_2 _ _,?_⟩
 show wpAny _ _ (do let old<-yi (.ref s.heap.objs.size);Builtin.List.listUpdate (.ref s.heap.objs.size) (λ_=> #[]);letGo old.toList.reverse;rX (.ref s.heap.objs.size) (.ref d) .none) _ _ _
 refine Wp ?_
 unfold yi
 refine Wp (tV hS rfl (pZ ?_))
 show wpAny _ _ (updateSeq s.heap.objs.size (λ_=> #[]) >>= λ_=>letGo (#[]:qd pW).toList.reverse >>= λ_=>rX (.ref s.heap.objs.size) (.ref d) .none) _ _ _
 refine Wp (vN hS rfl ?_)
 have hS₂:=rE (rA (λ_=>(#[]:qd pW))) hS rfl
 have oth:∀b o,b≠s.heap.objs.size->(s.heap.push {cls:=.type "list",data:=.seq #[]}).get? b=Gc o->((s.heap.push {cls:=.type "list",data:=.seq #[]}).update s.heap.objs.size (rA (λ_=>(#[]:qd pW)))).get? b=Gc o:=
  λb o hb e=>(sH _ _ (rm hb)).trans e
 refine Wp (zI ?_)
 have ld:d<s.heap.objs.size:=by obtain⟨_,_,_,ho,_⟩:=id D;exact qI ho
 have D2:Heap.DictOf knd ((s.heap.push {cls:=.type "list",data:=.seq #[]}).update s.heap.objs.size (rA (λ_=>(#[]:qd pW)))) d kvs:=by
  obtain⟨o,es,ep,ho,r⟩:=id D
  exact⟨o,es,ep,oth d o (qN ld) (pU _ ho),r⟩
 refine QR (A:=A.in1) hh hd D2 hn hS₂ λh' tk acc' c' hk hS' hacc=>⟨rfl,hQ h' tk acc' c' (λb o e=>?_) hS' hacc⟩
 have nb:=qN (qI e)
 exact hk b o nb (oth b o nb (pU _ e))
end
end Mi
end
noncomputable section
namespace Mi
open PySem PySem.Spec L2 PyProof.Rows
noncomputable def Rb:List (Key×D)->pY (List Int)
 | []=>Gc []
 |(.inl n,_)::r=>(Rb r).map (n:: ·)
 |(.inr _,_)::_=>none
theorem PM{K:pV}{M:Ms}{H:Hp}:∀{kvs:List (Key×V)} {es:List (Key×D)} {ns:List Int},BZ K M H kvs es->Rb es=Gc ns->kvs.map (·.1)=ns.map vb
 |_,_,ns,.nil,e=>by cases e;rfl
 |_,_,ns,.cons (k:=k) h t,e=>by
  cases k with
  |inl n=>
   obtain⟨ms,e1,e⟩:=JO e
   cases e
   rw[qS,qS,PM t e1]
  |inr x=>cases e
theorem NH:∀{l:List pW} {vs:List (Key×pW)} {ns:List Int},l.length=vs.length->(∀(j:Nat) v,l[j]?=Gc v->∃k x,vs[j]?=Gc (k,x)/\QW k v=true)->vs.map (·.1)=ns.map vb->tW l ns
 | [],[],ns,_,_,e=>by cases ns with
   |nil=>exact .nil
   |cons n ns=>cases e
 |v::l,(k,x)::vs,[],_,_,e=>by cases e
 |v::l,(k,x)::vs,n::ns,hl,h,e=>by
  rw[qS,qS]at e
  injection e with e1 e2
  obtain⟨k',x',q,z⟩:=h 0 v rfl
  cases q
  dsimp only at e1
  subst e1
  rcases B9 z with⟨i,t,e3,rfl⟩|⟨y,t,e3,rfl⟩
  .cases e3
   exact .cons _ _ (NH (by simpa using hl) (λj v q=>h (j+1) v (by simpa using q)) e2)
  .cases e3
 | [],(k,x)::vs,ns,hl,_,e=>by simp at hl
 |v::l,[],ns,hl,_,e=>by simp at hl
theorem VO{X:Cx}{acc:qd pW}{vs:List (Key×pW)}{kvs:List (Key×V)}{ns:List Int}(h:zc (kC (CO X.prog X.w) vs) acc vs.length)(r:KV kvs vs)(e:kvs.map (·.1)=ns.map vb):tW acc.toList ns:=
 NH (by simpa using h.1) (λj v q=>h.2 j v (by simpa using q)) (by rw[<-r.keys];exact e)
theorem Xn{X:Cx}(hc:X.calm=true):Ds X (.type "list") (λxs H Q=>∃(a:pz) (kvs:List (Key×V)) (ns:List Int),xs=[.ref a]/\H a=Gc (.dK kvs)/\kvs.map (·.1)=ns.map vb/\∀q,H q=none->Q (.ref q) (upd H q (.lst (ns.map V.int)))):=by
 intro pins s σ H xs us Q I r h
 obtain⟨a,kvs,ns,rfl,ha,hk,q⟩:=h
 obtain⟨u,rfl,ru⟩:=r.one
 cases (show u=qz a from ru)
 obtain⟨z,hd,vs,rel,dd⟩:=VQ I.hok ha
 refine SK (I.ok.hd hc) hd dd (by rw[<-rel.length];exact z) λh' tk acc' c' k at' hacc=>?_
 have hi:=VO hacc rel hk
 refine⟨.ref _,_,I.laid (a:=s.heap.objs.size) (o:=.lst (ns.map V.int)) (t':=tk) k (p9 _) ?_,rfl,q _ (I.hok.fresh (p9 _))⟩
 refine⟨?_,acc'.toList,c',Hh hi,?_⟩
 .rw[qP,<-hi.length,rY,hacc.1,<-rel.length];exact z
 .rw[zT];exact at'
noncomputable def eLK(c:qk)(f:Ev):Ev:=λE S=>(f E S).bind λa=>(ML a.2 a.1).bind λes=>(Rb es).bind λns=>fin c (.own (ns.map D.int)) a.2
theorem cU{o:Ev}{E:En}{S S1:Sto}{w:D}(e1:o E S=Gc (w,S1)):evs [o] E S=Gc ([w],S1):=by
 show(o E S).bind (λr=>(evs [] E r.2).map λq=>(r.1::q.1,q.2))=_
 rw[e1];rfl
theorem eZ{X:Cx}{a:qh}{o:Ev}{c:qk}{p pos:Pos}(hc:X.calm=true)(hg:Gl X "list")(hm:X.mg "list"=none)(ha:DEs X [a] [o])(hs:qb [a] X.env=[(false,eval a X.env)]:=by rfl):DE X (.Call (.Name "list" p) [a] [] pos) (eLK c o):=⟨
 BQ (O4 (Xn hc) hg hm xJ ha.pe (by decide) (by decide) hs rfl) λσ H Q z=>by
  obtain⟨M,E,S,d,S',e,r,st,q⟩:=z
  obtain⟨⟨w,S1⟩,e1,e⟩:=An e
  obtain⟨es,ed,e⟩:=An e
  obtain⟨ns,en,e⟩:=An e
  refine IQ (cU e1) r st λvs H1 M1 g1 st1 r1=>?_
  cases r1 with
  |cons r1 rn=>
   cases rn
   obtain⟨a,kvs,rfl,h,rk⟩:=Q8 st1 r1 ed
   refine⟨a,kvs,ns,rfl,h,PM rk en,λp hp=>?_⟩
   obtain⟨M2,g2,st2,d2⟩:=(Nw.lst st1.mo hp Jc).fin st1 e
   exact q _ _ M2 (g1.trans g2) st2 d2⟩
end Mi
end
noncomputable section
namespace Mi
open PySem PySem.Spec L2 PyProof.Rows
abbrev eIx(a b:Ev):Ev:=eOp (o2 wIx) [a,b]
abbrev eI(n:Int):Ev:=eC (.int n)
theorem scM{N P:List Str}{sc:tT}(a:sc.kind=.function:=by rfl)(b:sc.isCoroutine=false:=by rfl)(c:sc.isGenerator=false:=by rfl)(d:N.Nodup:=by decide+kernel)(e:N.take P.length=P:=by rfl)(f:∀x∈P,sc.names.lookup x=Gc .local\/sc.names.lookup x=Gc .cell:=by decide+kernel)(g:∀y∈sc.names,y.2≠.free:=by decide+kernel):AX N P sc:=⟨a,b,c,d,e,f,g⟩
theorem csM{N:List Str}{osc:tT}{N':List Str}{ix:List (pY Nat)}{scope:tT}(a:scope.kind=.function:=by rfl)(b:∀y∈scope.names,y.2=.cell->scope.names.lookup y.1=Gc .cell:=by decide+kernel)(c:∀y∈scope.names,y.2=.local->scope.names.lookup y.1=Gc .local:=by decide+kernel)(d:∀y∈scope.names,y.2=.free->(osc.names.lookup y.1=Gc .cell\/osc.names.lookup y.1=Gc .free):=by decide+kernel)(e:RP N osc scope N' ix=true:=by decide+kernel):AS N osc N' ix scope:=⟨a,b,c,d,e⟩
theorem Og{α:Type}{us:List α}(h:us.length=1):∃a,us=[a]:=by
 match us,h with
 | [a],_=>exact⟨a,rfl⟩
theorem kh{α:Type}{us:List α}(h:us.length=2):∃a b,us=[a,b]:=by
 match us,h with
 | [a,b],_=>exact⟨a,b,rfl⟩
theorem iw{α:Type}{us:List α}(h:us.length=3):∃a b c,us=[a,b,c]:=by
 match us,h with
 | [a,b,c],_=>exact⟨a,b,c,rfl⟩
theorem my{α:Type}{us:List α}(h:us.length=6):∃a b c d e f,us=[a,b,c,d,e,f]:=by
 match us,h with
 | [a,b,c,d,e,f],_=>exact⟨a,b,c,d,e,f,rfl⟩
theorem nW{us:List pW}{n:Nat}(h:us.length=n):∃f:Nat->pW,us=(qR n).map f:=by
 refine⟨λi=>us.getD i .none,?_⟩
 subst h
 apply vB
 .simp
 .intro i h1 h2
  rw[List.getElem_map,List.getElem_range,qJ,pf h1];rfl
def BnR(x:Str)(st:rO)(ps:List Str):Prop:=∀(kV doc pm:pW) (an:pY pz) (cdv ct:pW) (f:Nat->pW),bindArgs (vE x x (Jz st) (Em st) (AK st) .none kV doc pm an cdv ct) ⟨(qR ps.length).map f,[]⟩=pure (ps.zip ((qR ps.length).map f))
theorem bnR{K:pV}{x:Str}{st:rO}{ps:List Str}{f:pz}{fd:tU}(F:Fun K x x st f fd)(h:BnR x st ps):Binds K fd ps []:=F.binds λa b c d e g us hl=>by
 obtain⟨k,rfl⟩:=nW hl
 exact h a b c d e g k
section
variable{P:qa}{w:qq}{K:pV}{mg:Str->pY pW}{base:qu}
theorem dfM{x:Str}{st:rO}{N ps:List Str}(k:Nat){np:Nat}{b:Ex}(S:St.Src K mg x st)(sc:AX N ps (AK st))(hb:∀{f:pz} {cdv:pW} {A:qx} {outer:List PySem.Env} {s:pX} {H:Hp} {E:XK},MM k (A.deeper (vg x (AK st) s.heap.objs.size f cdv))->(A.deeper (vg x (AK st) s.heap.objs.size f cdv)).units+100<cLine->DSs (Xb CX0 P w K mg base N x (AK st) f cdv A outer s H E).nox (Em st) b)(hp:ps.length=np:=by rfl)(hbi:BnR x st ps:=by exact λ_ _ _ _ _ _ _=>rfl):St.Dfn P w K mg base x (k+1) ps (spD K np (BE (BH N.length b))):=fL S sc hp (λ_ _ F=>bnR F hbi) λ_ _ _ _ _ _ _ hr=>hb hr (Uk hr)
end
theorem deM{X:Cx}{k k' np:Nat}{x:Str}{ps:List Str}{f:Fn}{e:qh}{es:List qh}{fs:List Ev}{p pos:Pos}(d:St.Dfn X.prog X.w X.K X.mg X.base x k ps (spD X.K np f))(hr:MM k' X.A)(ha:DEs X (e::es) fs)(hk:k<=k':=by first|decide|omega)(hg:Gl X x:=by exact rfl)(hn:fs.length=np:=by rfl)(hdb:(x==("__debug__":Str))=false:=by decide)(he:qb (e::es) X.env=(false,eval e X.env)::qb es X.env:=by rfl)(hpl:(backTo pos (qb es X.env)).any (·.1)=false:=by rfl):DE X (.Call (.Name x p) (e::es) [] pos) (AJ f fs):=cZ d (hr.mono hk) hg ha hn hdb he hpl
end Mi
end
noncomputable section
namespace Mi
open PySem PySem.Spec L2 PyProof.Rows
open PySem.W (KasT kas_asc kas_desc kas_rev kas_tail3 kas_descPart kas_count kas_place kas_bin kas_sort kas_ask kas_item)
section
variable{cmp:Nat->Nat->(qk->pX->Prop)->pX->Prop}{key:Nat->Int}{n:Nat}{s:pX}{p:qd Nat}
def Tru(cmp:Nat->Nat->(qk->pX->Prop)->pX->Prop)(key:Nat->Int)(n:Nat)(s:pX):Prop:=
 ∀i j (C:qk->pX->Prop),i<n->j<n->i≠j->C (decide (key i<key j)) s->cmp i j C s
abbrev kp(key:Nat->Int)(p:qd Nat)(i:Nat):Int:=key (p.getD i 0)
structure PI(key:Nat->Int)(n:Nat)(p:qd Nat):Prop where
 pm:p.toList.Perm (qR n)
 inj:∀i j,i<n->j<n->key i=key j->i=j
theorem PI.sz(h:PI key n p):p.size=n:=by simpa using h.pm.length_eq
theorem PI.lt(h:PI key n p){i:Nat}(hi:i<n):p.getD i 0<n:=by
 have:p.getD i 0∈p.toList:=by simp[vq,h.sz,hi]
 simpa using h.pm.mem_iff.mp this
theorem PI.ni(h:PI key n p){i j:Nat}(hi:i<n)(hj:j<n)(ne:i≠j):p.getD i 0≠p.getD j 0:=λe=>by
 have nd:p.toList.Nodup:=h.pm.nodup_iff.mpr List.nodup_range
 have hi':i<p.size:=by rw[h.sz];exact hi
 have hj':j<p.size:=by rw[h.sz];exact hj
 have e':p.toList[i]'(by simpa using hi')=p.toList[j]'(by simpa using hj'):=by simpa[vq,hi',hj']using e
 exact ne ((uv nd).mp e')
theorem PI.nk(h:PI key n p){i j:Nat}(hi:i<n)(hj:j<n)(ne:i≠j):kp key p i≠kp key p j:=
 λe=>h.ni hi hj ne (h.inj _ _ (h.lt hi) (h.lt hj) e)
theorem PI.perm(h:PI key n p){q:qd Nat}(e:q.Perm p):PI key n q:=⟨(Array.perm_iff_toList_perm.mp e).trans h.pm,h.inj⟩
theorem Ot(T:Tru cmp key n s)(I:PI key n p){i j:Nat}(hi:i<n)(hj:j<n)(ne:i≠j){C:qk->pX->Prop}(h1:kp key p i<kp key p j->C true s)(h2:kp key p j<kp key p i->C false s):cmp (p.getD i 0) (p.getD j 0) C s:=by
 refine T _ _ _ (I.lt hi) (I.lt hj) (I.ni hi hj ne) ?_
 by_cases h:key (p.getD i 0)<key (p.getD j 0)
 .rw[sX h];exact h1 h
 .rw[tP h]
  have:=I.nk hi hj ne
  exact h2 (by simp only[kp]at *; lia)
def Srt(key:Nat->Int)(p:qd Nat)(m:Nat):Prop:=∀i j,i<j->j<m->kp key p i<kp key p j
def Dsc(key:Nat->Int)(p:qd Nat)(m:Nat):Prop:=∀i j,i<j->j<m->kp key p j<kp key p i
theorem Srt.more{m:Nat}(h:Srt key p m)(h1:1<=m)(e:kp key p (m-1)<kp key p m):Srt key p (m+1):=λi j ij jm=>by
 by_cases q:j<m
 .exact h i j ij q
 .have:j=m:=by lia
  subst this
  by_cases r:i=j-1
  .subst r;exact e
  .exact tK (h i (j-1) (by lia) (by lia)) e
theorem Dsc.more{m:Nat}(h:Dsc key p m)(h1:1<=m)(e:kp key p m<kp key p (m-1)):Dsc key p (m+1):=λi j ij jm=>by
 by_cases q:j<m
 .exact h i j ij q
 .have:j=m:=by lia
  subst this
  by_cases r:i=j-1
  .subst r;exact e
  .exact tK e (h i (j-1) (by lia) (by lia))
theorem TQ(T:Tru cmp key n s)(I:PI key n p){G:Nat->pX->Prop}:∀(f a:Nat),1<=a->a+f=n->Srt key p a->(∀m,a<=m->m<=n->Srt key p m->(m=n\/kp key p m<kp key p (m-1))->G m s)->(kas_asc p f a).kasWp cmp G s
 |0,a,h1,e,hs,h=>h a (p9 _) (by lia) hs (.inl (by lia))
 |f+1,a,h1,e,hs,h=>by
  show cmp (p.getD a 0) (p.getD (a-1) 0) (λc s'=>(if c=true then KasT.ret a else kas_asc p f (a+1)).kasWp cmp G s') s
  refine Ot T I (by lia) (by lia) (by lia) (λq=>?_) (λq=>?_)
  .rw[qc rfl];exact h a (p9 _) (by lia) hs (.inr q)
  .rw[qj (by decide)];exact TQ T I f (a+1) (by lia) (by lia) (hs.more h1 q) λm hm=>h m (by lia)
theorem T9(T:Tru cmp key n s)(I:PI key n p){G:qd Nat×Nat×Nat->pX->Prop}:∀(f a:Nat),1<=a->a+f=n->Dsc key p a->(∀m,a<=m->m<=n->Dsc key p m->G (p,m,0) s)->(kas_desc f p a 0).kasWp cmp G s
 |0,a,h1,e,hs,h=>h a (p9 _) (by lia) hs
 |f+1,a,h1,e,hs,h=>by
  show cmp (p.getD a 0) (p.getD (a-1) 0) (λc s'=>(if c=true then(if 0>0 then kas_desc f (ze p (a-(0+1)) a) (a+1) 0 else kas_desc f p (a+1) 0)
   else KasT.ask (p.getD (a-1) 0) (p.getD a 0) λd=>if d=true then .ret (p,a,0)else kas_desc f p (a+1) (0+1)).kasWp cmp G s') s
  refine Ot T I (by lia) (by lia) (by lia) (λq=>?_) (λq=>?_)
  .rw[qc rfl,qj (by decide)];exact T9 T I f (a+1) (by lia) (by lia) (hs.more h1 q) λm hm=>h m (by lia)
  .rw[qj (by decide)]
   show cmp (p.getD (a-1) 0) (p.getD a 0) (λd s'=>(if d=true then KasT.ret (p,a,0)else kas_desc f p (a+1) (0+1)).kasWp cmp G s') s
   refine Ot T I (by lia) (by lia) (by lia) (λq'=>?_) (λq'=>?_)
   .rw[qc rfl];exact h a (p9 _) (by lia) hs
   .exact absurd (tK q q') (by simp)
theorem getD_eq{q:qd Nat}{i:Nat}:q.getD i 0=(q[i]?).getD 0:=by simp
theorem aa(T:Tru cmp key n s)(I:PI key n p){m:Nat}{G:Nat×qd Nat->pX->Prop}(h1:1<=m)(hm:m<=n)(hs:Dsc key p m)(h:∀a q,1<=a->a<=n->PI key n q->Srt key q a->G (a,q) s):(kas_tail3 m n p).kasWp cmp G s:=by
 have I':PI key n (ze p 0 m):=I.perm (mirror_perm _ _ _ _)
 unfold kas_tail3
 rw[vm]
 refine TQ T I' (n-m) m h1 (by lia) (λi j ij jm=>?_) λa h2 h3 h4 _=>h a _ (by lia) h3 I' h4
 have hj:m<=p.size:=by rw[I.sz];exact hm
 show key ((ze p 0 m).getD i 0)<key ((ze p 0 m).getD j 0)
 rw[getD_eq,getD_eq]
 unfold ze
 rw[zj hj,zj hj,qc (by lia),qc (by lia),<-getD_eq,<-getD_eq]
 exact hs _ _ (by lia) (by lia)
theorem Xp(T:Tru cmp key n s)(I:PI key n p){G:Nat×qd Nat->pX->Prop}(h1:1<=n)(h:∀a q,1<=a->a<=n->PI key n q->Srt key q a->G (a,q) s):(kas_count n p).kasWp cmp G s:=by
 unfold kas_count
 rw[vm]
 refine TQ T I (n-1) 1 (p9 _) (by lia) (λi j ij jm=>by lia) λm h2 h3 h4 h5=>?_
 by_cases e:m=n
 .rw[qc (by simpa using e)];exact h m p h2 h3 I h4
 .rw[qj (by simpa using e)]
  by_cases e2:m>1
  .rw[qc e2]
   show cmp (p.getD 0 0) (p.getD (m-1) 0) (λc s'=>(if c=true then KasT.ret (m,p)else kas_descPart m n (ze p 0 m)).kasWp cmp G s') s
   refine Ot T I (by lia) (by lia) (by lia) (λq=>?_) (λq=>?_)
   .rw[qc rfl];exact h m p h2 h3 I h4
   .exact absurd (tK q (h4 0 (m-1) (by lia) (by lia))) (by simp)
  .rw[qj e2]
   have:m=1:=by lia
   subst this
   have q:=h5.resolve_left e
   unfold kas_descPart
   rw[vm]
   refine T9 T I (n-(1+1)) (1+1) (by lia) (by lia) (Dsc.more (m:=1) (λi j ij jm=>by lia) (by lia) q) λa h6 h7 h8=>?_
   show(if(0:Nat)>0 then kas_tail3 a n (ze p (a-(0+1)) a)else kas_tail3 a n p).kasWp cmp G s
   rw[qj (by decide)]
   exact aa T I (by lia) h7 h8 h
theorem LK(T:Tru cmp key n s)(I:PI key n p){k:Nat}(hk:k<n)(hs:Srt key p k){G:Nat->pX->Prop}:∀(f l r:Nat),l<=r->r<=k->r-l<=f->(∀i,i<l->kp key p i<kp key p k)->(∀i,r<=i->i<k->kp key p k<kp key p i)->(∀l,l<=k->(∀i,i<l->kp key p i<kp key p k)->(∀i,l<=i->i<k->kp key p k<kp key p i)->G l s)->(kas_place p k f l r).kasWp cmp G s
 |0,l,r,lr,rk,hf,h1,h2,h=>by
  have:l=r:=by lia
  subst this
  exact h l rk h1 h2
 |f+1,l,r,lr,rk,hf,h1,h2,h=>by
  unfold kas_place
  by_cases e:l≥r
  .rw[qc e]
   have:l=r:=by lia
   subst this
   exact h l rk h1 h2
  .rw[qj e]
   show cmp (p.getD k 0) (p.getD ((l+r) / 2) 0) (λc s'=>(if c=true then kas_place p k f l ((l+r) / 2)else kas_place p k f ((l+r) / 2+1) r).kasWp cmp G s') s
   refine Ot T I hk (by lia) (by lia) (λq=>?_) (λq=>?_)
   .rw[qc rfl]
    refine LK T I hk hs f l ((l+r) / 2) (by lia) (by lia) (by lia) h1 (λi hi ik=>?_) h
    by_cases z:i=(l+r) / 2
    .subst z;exact q
    .exact tK q (hs _ _ (by lia) ik)
   .rw[qj (by decide)]
    refine LK T I hk hs f ((l+r) / 2+1) r (by lia) (by lia) (by lia) (λi hi=>?_) h2 h
    by_cases z:i=(l+r) / 2
    .subst z;exact q
    .exact tK (hs i ((l+r) / 2) (by lia) (by lia)) q
theorem ZD(T:Tru cmp key n s){G:qd Nat->pX->Prop}(h:∀q,PI key n q->Srt key q n->G q s):∀(f k:Nat) (p:qd Nat),PI key n p->k+f=n->Srt key p k->(kas_bin f p k).kasWp cmp G s
 |0,k,p,I,e,hs=>h p I (by have:k=n:=by lia
                          subst this;exact hs)
 |f+1,k,p,I,e,hs=>by
  unfold kas_bin
  rw[vm]
  refine LK T I (by lia) hs k 0 k (rS _) (p9 _) (by lia) (λi hi=>by lia) (λi h1 h2=>by lia) λl hl h1 h2=>?_
  refine ZD T h f (k+1) _ (I.perm (bubble_perm _ _ _)) (by lia) λi j ij jk=>?_
  have hks:k<p.size:=by rw[I.sz];lia
  show key ((bubble p k (k-l)).getD i 0)<key ((bubble p k (k-l)).getD j 0)
  rw[getD_eq,getD_eq,getElem?_bubble hks _ (by lia),getElem?_bubble hks _ (by lia),show k-(k-l)=l by lia]
  repeat' split
  all_goals first
   |(exfalso;lia)
   |(rw[<-getD_eq,<-getD_eq];first|exact h1 _ (by lia)|exact h2 _ (by lia) (by lia)|exact hs _ _ (by lia) (by lia))
theorem Xe(T:Tru cmp key n s)(inj:∀i j,i<n->j<n->key i=key j->i=j)(h1:1<=n){G:qd Nat->pX->Prop}(h:∀q,PI key n q->Srt key q n->G q s):(kas_sort n).kasWp cmp G s:=by
 unfold kas_sort
 rw[vm]
 refine Xp T ⟨by simp,inj⟩ h1 λa q h2 h3 I hs=>?_
 by_cases e:a<n
 .show(if a<n then kas_bin (n-max a 1) q (max a 1)else .ret q).kasWp cmp G s
  rw[qc e]
  have:max a 1=a:=by lia
  rw[this]
  exact ZD T h _ _ _ I (by lia) hs
 .show(if a<n then kas_bin (n-max a 1) q (max a 1)else .ret q).kasWp cmp G s
  rw[qj e]
  have:a=n:=by lia
  subst this
  exact h q I hs
end
end Mi
end
noncomputable section
namespace Mi
open PySem PySem.Spec L2 PyProof.Rows
def IG(h:qu):List pW->List Int->Prop
 | [],[]=>yu
 |v::vs,k::ks=>(∃a o xs n t,v=.ref a/\h.get? a=Gc o/\o.cls=.type "tuple" /\o.data=.seq xs n/\xs[0]?=Gc (.int k t))/\IG h vs ks
 |_,_=>ur
theorem IG.kat{h:qu}:∀{vs:List pW} {ks:List Int},IG h vs ks->∃fs:List pW,fs.length=vs.length/\PySem.W.KatTups h vs fs/\∀v∈fs,∃k t,v=.int k t
 | [],[],_=>⟨[],rfl,trivial,λ_ z=>nomatch z⟩
 | [],_::_,z=>z.elim
 |_::_,[],z=>z.elim
 |v::vs,k::ks,⟨⟨a,o,xs,n,t,e,ho,hc,hd,hx⟩,r⟩=>by
  obtain⟨fs,h1,h2,h3⟩:=IG.kat r
  refine⟨.int k t::fs,by simp[h1],⟨⟨a,o,xs,n,e,ho,hc,hd,hx⟩,h2⟩,λx hx=>?_⟩
  rcases qA.mp hx with rfl|hx
  .exact⟨k,t,rfl⟩
  .exact h3 x hx
theorem IG.keep{h h':qu}(kp:∀a o,h.get? a=Gc o->o.cls=.type "tuple"->h'.get? a=Gc o):∀{vs:List pW} {ks:List Int},IG h vs ks->IG h' vs ks
 | [],[],_=>trivial
 | [],_::_,z=>z.elim
 |_::_,[],z=>z.elim
 |v::vs,k::ks,⟨⟨a,o,xs,n,t,e,ho,hc,hd,hx⟩,r⟩=>⟨⟨a,o,xs,n,t,e,kp a o ho hc,hc,hd,hx⟩,r.keep kp⟩
theorem IG.length{h:qu}:∀{vs:List pW} {ks:List Int},IG h vs ks->vs.length=ks.length
 | [],[],_=>rfl
 | [],_::_,z=>z.elim
 |_::_,[],z=>z.elim
 |v::vs,k::ks,⟨_,r⟩=>by simp[r.length]
theorem IG.at{h:qu}:∀{vs:List pW} {ks:List Int} {i:Nat},IG h vs ks->i<vs.length->∃a o xs n t,vs.getD i .none=.ref a/\h.get? a=Gc o/\o.data=.seq xs n/\xs[0]?=Gc (.int (ks.getD i 0) t)
 | [],_,_,_,hi=>by simp at hi
 |_::_,[],_,z,_=>z.elim
 |v::vs,k::ks,0,⟨⟨a,o,xs,n,t,e,ho,hc,hd,hx⟩,r⟩,_=>⟨a,o,xs,n,t,by simp[e],ho,hd,by simp[hx]⟩
 |v::vs,k::ks,i+1,⟨_,r⟩,hi=>by
  obtain⟨a,o,xs,n,t,h1,h2,h3,h4⟩:=r.at (i:=i) (by simpa using hi)
  exact⟨a,o,xs,n,t,by simpa using h1,h2,h3,by simpa using h4⟩
section
variable{prog:qa}{w:qq}{A:qx}{E:pW->pX->Prop}{s:pX}{vs:List pW}{ks:List Int}
theorem aJ{x y:pW}{a b:pz}{o u:Obj}{xs ys:qd pW}{n m:Nat}{k l:Int}{t r:Tok}{Q:qk->pX->Prop}(hx:x=.ref a)(hy:y=.ref b)(ho:s.heap.get? a=Gc o)(hu:s.heap.get? b=Gc u)(d1:o.data=.seq xs n)(d2:u.data=.seq ys m)(e1:xs[0]?=Gc (.int k t))(e2:ys[0]?=Gc (.int l r))(ne:k≠l)(q:Q (decide (k<l)) s):wpAny (model prog w) A (keyLt' (tuples' true) x y) Q E s:=by
 subst hx hy
 refine PySem.W.kat_lt ho d1 hu d2 ?_
 have z1:∃r1,xs.toList=.int k t::r1:=by
  cases h:xs.toList with
  |nil=>simp[<-uU,h]at e1
  |cons x r=>simp only[<-uU,h,yV,Option.some.injEq]at e1;exact⟨r,by rw[e1]⟩
 have z2:∃r1,ys.toList=.int l r::r1:=by
  cases h:ys.toList with
  |nil=>simp[<-uU,h]at e2
  |cons x r=>simp only[<-uU,h,yV,Option.some.injEq]at e2;exact⟨r,by rw[e2]⟩
 obtain⟨r1,z1⟩:=z1
 obtain⟨r2,z2⟩:=z2
 rw[z1,z2,xZ]
 refine PySem.W.kat_cons (wpAny_eqBool_int ?_)
 rw[show(k==l)=false by simpa using ne]
 exact PySem.W.kat_no (oneLt_int q)
theorem YL(h:IG s.heap vs ks)(nd:ks.Nodup):Tru (PySem.W.kas_ask prog w A (tuples' true) vs) (λi=>ks.getD i 0) vs.length s:=by
 intro i j C hi hj ne q
 obtain⟨a,o,xs,n,t,h1,h2,h3,h4⟩:=h.at hi
 obtain⟨b,u,ys,m,r,k1,k2,k3,k4⟩:=h.at hj
 refine aJ h1 k1 h2 k2 h3 k3 h4 k4 (λe=>ne ?_) q
 have li:i<ks.length:=by rw[<-h.length];exact hi
 have lj:j<ks.length:=by rw[<-h.length];exact hj
 have e':ks[i]=ks[j]:=by simpa[li,lj]using e
 exact(uv nd).mp e'
structure Plc(ks:List Int)(p:List Nat):Prop where
 pm:p.Perm (qR ks.length)
 so:(p.map λi=>ks.getD i 0).Pairwise (· < ·)
theorem Md{a:pz}{n:Nat}{P:PySem.Fin->pX->Prop}(ho:s.heap.get? a=Gc (seqObj "list" vs.toArray n))(hk:IG s.heap vs ks)(nd:ks.Nodup)(h64:vs.length<64)(h:∀p:List Nat,Plc ks p->P (.done (.ret .none)) {s with heap:=sortedHeap s.heap a vs (p.map λi=>vs.getD i .none).toArray}):wpAny (model prog w) A (sQ.«list.sort» ⟨[.ref a],[]⟩) P E s:=by
 rw[list_sort_plain]
 have ha:a<s.heap.objs.size:=qI ho
 have kl:=hk.length
 refine Wp (listItems_at ho rfl ?_)
 refine Wp (zu ho rfl ?_ (by rw[qK,vt];lia) (rS _))
 obtain⟨e1,ho1⟩:∃e1,(s.heap.update a (rA λ_=> #[])).get? a=Gc (seqObj "list" #[] e1):=⟨_,get?_update_seq ho (λ_=> #[])⟩
 refine Wp (seqEpoch_at ho1 rfl ?_)
 refine Wp (zJ ?_ (by show vs.length<=_;rw[vt];lia))
 refine Wp (wj ?_ (rS _))
 refine rB ?_
 have old:∀b o,b≠a->s.heap.get? b=Gc o->(((s.heap.update a (rA λ_=> #[])).push (seqObj "tuple" vs.toArray 0)).push (seqObj "list" #[] 0)).get? b=Gc o:=λb o nb e=>
  pU _ (pU _ ((sH _ _ (rm nb)).trans e))
 have ho6:(((s.heap.update a (rA λ_=> #[])).push (seqObj "tuple" vs.toArray 0)).push (seqObj "list" #[] 0)).get? a=Gc (seqObj "list" #[] e1):=pU _ (pU _ ho1)
 show wpAny (model prog w) A _ P E {s with heap:=((s.heap.update a (rA λ_=> #[])).push (seqObj "tuple" vs.toArray 0)).push (seqObj "list" #[] 0)}
 dsimp only
 have hsz:vs.toArray.size=vs.length:=by simp
 by_cases h2:vs.toArray.size<2
 .rw[qc h2,qc h2]
  refine Wp (pZ ?_)
  rw[StateT.run_pure]
  refine Wp (pZ ?_)
  dsimp only
  refine Wp (seqEpoch_at ho6 rfl ?_)
  refine Wp (zu ho6 rfl ?_ (by simp) (by rw[Array.size_map];show(pairsOf vs).size<=_;rw[pairsOf_size,vt];lia))
  simp only[wV,sg,ux]
  have hp:Plc ks (qR ks.length):=⟨wU _,by
   have:ks.length<2:=by lia
   match ks,this with
   | [],_=>simp
   | [x],_=>simp⟩
  have e:=h _ hp
  have e2:(qR ks.length).map (λi=>vs.getD i sL)=vs:=by
   apply vB
   .simp[kl]
   .intro i i1 i2;simp[i2]
  rw[e2]at e
  refine pZ ?_
  have e3:(arrOf (SortSt.mk' general' (vs.toArray.zip vs.toArray) #[] 7 none)).map (·.2)=vs.toArray:=by
   show(vs.toArray.zip vs.toArray).map (·.2)=_
   apply Array.toList_inj.mp
   rw[yU,Array.toList_zip]
   exact List.map_snd_zip (p9 _)
  have e4:P (.done (.ret .none)) {s with heap:=sortedHeap s.heap a vs ((arrOf (SortSt.mk' general' (vs.toArray.zip vs.toArray) #[] 7 none)).map (·.2))}:=by rw[e3];exact e
  exact e4
 .rw[qj h2,qj h2]
  have hn2:2<=vs.length:=by lia
  obtain⟨fs,f1,f2,f3⟩:=(hk.keep (h':=((s.heap.update a (rA λ_=> #[])).push (seqObj "tuple" vs.toArray 0)).push (seqObj "list" #[] 0)) λb o e c=>old b o (λz=>by subst z;rw[ho]at e;cases e;exact absurd c (by simp[seqObj])) e).kat
  have hk':=hk.keep (h':=((s.heap.update a (rA λ_=> #[])).push (seqObj "tuple" vs.toArray 0)).push (seqObj "list" #[] 0)) λb o e c=>old b o (λz=>by subst z;rw[ho]at e;cases e;exact absurd c (by simp[seqObj])) e
  refine Wp (PySem.W.kat_kind (s:={s with heap:=((s.heap.update a (rA λ_=> #[])).push (seqObj "tuple" vs.toArray 0)).push (seqObj "list" #[] 0)}) (T:=.type "int") f2 (by lia) (λv hv=>?_) rfl ?_)
  .obtain⟨k,t,rfl⟩:=f3 v hv
   exact PySem.W.Looks.now
  rw[show tuples' (vn "int" !=vn "tuple")=tuples' true from rfl]
  refine Wp (wZ (PySem.W.kat_run (s:={s with heap:=((s.heap.update a (rA λ_=> #[])).push (seqObj "tuple" vs.toArray 0)).push (seqObj "list" #[] 0)})
   (Q:=λst' s'=>s'={s with heap:=((s.heap.update a (rA λ_=> #[])).push (seqObj "tuple" vs.toArray 0)).push (seqObj "list" #[] 0)}/\∃q:qd Nat,PI (λi=>ks.getD i 0) vs.length q/\Srt (λi=>ks.getD i 0) q vs.length/\arrOf st'=q.map (PySem.W.kas_item (vs.toArray.zip vs.toArray))/\failedOf st'=none)
   (G:=λq s'=>s'={s with heap:=((s.heap.update a (rA λ_=> #[])).push (seqObj "tuple" vs.toArray 0)).push (seqObj "list" #[] 0)}/\PI (λi=>ks.getD i 0) vs.length q/\Srt (λi=>ks.getD i 0) q vs.length)
   rfl hn2 h64 (λq st' s' _ a1 a2 ⟨a3,a4,a5⟩=>⟨a3,q,a4,a5,a1,a2⟩) ?_) ?_ λ_ _ e=>e)
  .refine Xe (YL (s:={s with heap:=((s.heap.update a (rA λ_=> #[])).push (seqObj "tuple" vs.toArray 0)).push (seqObj "list" #[] 0)}) hk' nd) (λi j hi hj e=>?_) (by lia) λq a1 a2=>⟨rfl,a1,a2⟩
   have li:i<ks.length:=by rw[<-kl];exact hi
   have lj:j<ks.length:=by rw[<-kl];exact hj
   have e':ks[i]=ks[j]:=by simpa[li,lj]using e
   exact(uv nd).mp e'
  .rintro ⟨⟨⟩,st'⟩ s' ⟨rfl,q,a1,a2,a3,a4⟩
   dsimp only
   have e3:=PySem.W.kat_snds (ks:=vs) (vs:=vs) rfl a3
   refine Wp (seqEpoch_at ho6 rfl ?_)
   refine Wp (zu ho6 rfl ?_ (by simp) (by rw[e3,qK,qP,rY,a1.sz,vt];lia))
   rw[a4]
   simp only[wV,sg,ux]
   refine pZ ?_
   rw[e3]
   refine h q.toList ⟨by rw[<-kl];exact a1.pm,?_⟩
   rw[xi]
   intro i j hi hj ij
   simp only[qP,rY]at hi hj
   have:=a2 i j ij (by rw[<-a1.sz];exact hj)
   simpa[kp,vq,hi,hj]using this
theorem MF{Pv:List pW->Prop}{r:pW}{Q:pW->pX->Prop}(hh:A.handled=none)(hc:∀(A':qx) (Q':List pW->pX->Prop) (E':pW->pX->Prop),A'.handled=none->(∀h' tk vs,(∀b o,s.heap.get? b=Gc o->h'.get? b=Gc o)->s.heap.objs.size<=h'.objs.size->Pv vs->IG h' vs ks->Q' vs {s with heap:=h',toks:=tk})->wpAny (model prog w) A' (collect r) Q' E' s)(nd:ks.Nodup)(h64:ks.length<64)(h:∀(a:pz) (e:Nat) (h':qu) (tk:Nat) (vs:List pW) (p:List Nat),s.heap.objs.size<=a->Plc ks p->Pv vs->(∀b o,s.heap.get? b=Gc o->h'.get? b=Gc o)->h'.get? a=Gc (seqObj "list" (p.map λi=>vs.getD i .none).toArray e)->Q (.ref a) {s with heap:=h',toks:=tk}):wpAny (model prog w) A (call (.builtin "sorted") [r]) Q E s:=by
 refine xj kind_sorted plain_sorted entry_sorted (args_sorted1 _) ?_
 unfold sQ.«sorted»
 refine Wp (m:=checkCount "sorted" 1 1 _) (pZ (Wp (hc _ _ _ (by simp[hh]) λh1 tk vs kp lz pv kt=>Wp (wj ?_ ?_))))
 .have at1:(h1.push (seqObj "list" vs.toArray 0)).get? h1.objs.size=Gc (seqObj "list" vs.toArray 0):=qG _ rfl
  have vl:vs.length<64:=by rw[kt.length];exact h64
  show wpAny _ _ _ _ _ {s with heap:=h1.push (seqObj "list" vs.toArray 0),toks:=tk}
  have kt1:IG (h1.push (seqObj "list" vs.toArray 0)) vs ks:=kt.keep λb o e _=>pU _ e
  refine Wp (rB (q9 slot_list_sort ⟨_,at1,rfl⟩ entry_list_sort (Md (s:={s with heap:=h1.push (seqObj "list" vs.toArray 0),toks:=tk}) at1 kt1 nd vl λp pl=>⟨_,rfl,pZ ⟨_,rfl,?_⟩⟩) (args_list_sort _)))
  obtain⟨e,he⟩:=sortedHeap_at (out:=(p.map λi=>vs.getD i .none).toArray) at1
  have k2:∀b o,h1.get? b=Gc o->(sortedHeap (h1.push (seqObj "list" vs.toArray 0)) h1.objs.size vs (p.map λi=>vs.getD i .none).toArray).get? b=Gc o:=λb o q=>by
   have lb:=qI q
   rw[sortedHeap_old (qN lb) (by rw[ql];exact sC lb)]
   exact pU _ q
  exact h _ e _ tk vs p lz pl pv (λb o q=>k2 b o (kp b o q)) he
 .rw[kt.length]
  exact qD (sF h64) (by decide)
end
end Mi
end
noncomputable section
namespace Mi
open PySem PySem.Spec L2 PyProof.Rows
structure Lo(X:Cx)(pins:List (pz×Obj))(lo:pz):Prop where
 s0:X.s₀.heap.objs.size<=lo
 loc:X.env.locals<lo
 cel:∀x c,X.env.cells.lookup x=Gc c->c<lo
 pin:∀p∈X.pn++pins,p.1<lo
section
variable{X:Cx}{pins:List (pz×Obj)}{σ:List (pY V)}{H:Hp}{s:pX}
end
noncomputable def cJ:D->pY Int
 | .tup (.int k::_)=>Gc k
 |_=>none
noncomputable def MW:List D->pY (List Int)
 | []=>Gc []
 |d::ds=>(cJ d).bind λk=>(MW ds).map (k:: ·)
noncomputable def P8(ks:List Int)(ds:List D):List D:=((ks.zip ds).mergeSort λa b=>decide (a.1<=b.1)).map (·.2)
theorem bK{ks:List Int}{ds:List D}(nd:ks.Nodup){a b:Int×D}(ha:a∈ks.zip ds)(hb:b∈ks.zip ds)(e:a.1=b.1):a=b:=by
 obtain⟨i,hi,rfl⟩:=vZ.mp ha
 obtain⟨j,hj,rfl⟩:=vZ.mp hb
 have:i=j:=by
  simp only[List.getElem_zip]at e
  exact(uv nd).mp e
 subst this;rfl
theorem ND{ks:List Int}{ds:List D}(nd:ks.Nodup){l:List (Int×D)}(p:l.Perm (ks.zip ds))(s:l.Pairwise λa b=>a.1<b.1):P8 ks ds=l.map (·.2):=by
 unfold P8
 congr 1
 have h1:=xE (ks.zip ds) λa b=>decide (a.1<=b.1)
 have h2:=v3 (le:=λ(a b:Int×D)=>decide (a.1<=b.1)) (λa b c h1 h2=>by simp at *; lia) (λa b=>by simp;lia) (ks.zip ds)
 refine yF (le:=λa b=>a.1<=b.1) (λa b ha hb e1 e2=>?_) (h2.imp λh=>qM h) (s.imp λh=>Int.le_of_lt h) (h1.trans p.symm)
 exact bK nd (h1.mem_iff.mp ha) (p.mem_iff.mp hb) (Int.le_antisymm e1 e2)
theorem Ql{ks:List Int}{ds:List D}{p:List Nat}(h:Plc ks p)(nd:ks.Nodup)(hl:ds.length=ks.length):P8 ks ds=p.map λi=>ds.getD i .non:=by
 rw[ND (l:=p.map λi=>(ks.getD i 0,ds.getD i .non)) nd ?_ ?_,sR]
 .rfl
 .have:ks.zip ds=(qR ks.length).map λi=>(ks.getD i 0,ds.getD i .non):=by
   apply vB
   .simp[hl]
   .intro i i1 i2
    have:i<ks.length:=by simp at i2;exact i2
    simp[this,hl]
  rw[this]
  exact h.pm.map _
 .have:=h.so
  rw[tL]at this⊢
  exact this
theorem Ao.pl{K:pV}{M:Ms}{H:Hp}{vs:List V}{ds:List D}(r:Ao K M H vs ds):∀{p:List Nat},(∀i∈p,i<ds.length)->Ao K M H (p.map λi=>vs.getD i .non) (p.map λi=>ds.getD i .non)
 | [],_=>.nil
 |i::p,h=>by
  rw[qS,qS]
  refine .cons ?_ (Ao.pl r λj hj=>h j (qC _ hj))
  have hi:=h i qH
  obtain⟨x,h1,h2⟩:=r.get (pf hi)
  simp only[qJ,h1,pf hi,Option.getD_some]
  exact h2
theorem Vals.pl{vs:List V}{us:List pW}(r:Vals vs us):∀{p:List Nat},Vals (p.map λi=>vs.getD i .non) (p.map λi=>us.getD i .none)
 | []=>.nil
 |i::p=>by
  rw[qS,qS]
  refine .cons ?_ (Vals.pl r)
  cases e:vs[i]? with
  |none=>
   have:us[i]?=none:=by rw[sS]at e ⊢; rw[<-r.length];exact e
   simp only[qJ,e,this]
   rfl
  |some x=>
   obtain⟨u,h1,h2⟩:=r.get e
   simp only[qJ,e,h1]
   exact h2
theorem bE{X:Cx}{pins:List (pz×Obj)}{σ:List (pY V)}{H:Hp}{s:pX}{M:Ms}(I:Inv X pins σ H s):∀{vs:List V} {ds:List D} {ks:List Int} {us:List pW},Ao X.K M H vs ds->MW ds=Gc ks->Vals vs us->IG s.heap us ks
 |_,_,ks,us,.nil,e,v=>by cases e;cases v;trivial
 |_,_,ks,us,.cons (d:=d) h t,e,v=>by
  obtain⟨k,e1,e⟩:=An e
  obtain⟨ks',e2,e⟩:=JO e
  cases e
  cases v with
  |cons r1 r2=>
   refine⟨?_,bE I t e2 r2⟩
   unfold cJ at e1
   split at e1
   .cases e1
    cases h with
    |tup sq rr=>
     cases (show _=qz _ from r1)
     cases rr with
     |cons rk rr=>
      cases rk
      obtain⟨its,rv,⟨o,ho,hc,n,hd⟩,_⟩:=I.tuple sq
      cases rv with
      |cons q1 q2=>
       obtain⟨t,rfl⟩:=(show∃t,_=vc _ t from q1)
       exact⟨_,o,_,n,t,rfl,ho,hc,hd,by simp⟩
   .cases e1
theorem JK:∀{ds:List D} {ks:List Int},MW ds=Gc ks->ks.length=ds.length
 | [],ks,e=>by cases e;rfl
 |d::ds,ks,e=>by
  obtain⟨k,e1,e⟩:=An e
  obtain⟨ks',e2,e⟩:=JO e
  cases e
  simp[JK e2]
noncomputable def Qn:Op1:=λw=>(asL w).bind λds=>(MW ds).bind λks=>if ks.length<64/\ks.Nodup then Gc (.own (P8 ks ds))else none
theorem Rt{X:Cx}(hc:X.calm=true):Ds X (.builtin "sorted") (rN X.K (o1 Qn)):=by
 intro pins s σ H xs us Q I r h
 obtain⟨M,ws,w,e,mo,sh,q⟩:=h
 obtain⟨v,w1,rfl,rfl,s1,e1⟩:=GA sh e
 obtain⟨ds,e2,e1⟩:=An e1
 obtain⟨ks,e3,e1⟩:=An e1
 split at e1
 .rename_i hz
  cases e1
  obtain⟨a,ys,rfl,h3,h4⟩:=s1.l e2
  obtain⟨u,rfl,ru⟩:=r.one
  cases (show u=qz a from ru)
  obtain⟨its,rv,pl,hl⟩:=I.list (X:=X) (.of h3)
  have kl:=JK e3
  have i64:its.length<64:=by rw[<-rv.length,h4.length,<-kl];exact hz.1
  have kp1:∀b o,s.heap.get? b=Gc o->((s.heap.push (seqObj "list" #[] 0)).update s.heap.objs.size (rA λx=>x++its.toArray)).get? b=Gc o:=λb o e=>by
   have lb:=qI e
   rw[Heap.get?_update_ne _ _ _ _ (qN lb)]
   exact pU _ e
  refine MF (ks:=ks) (Pv:=λvs=>vs=its) (I.ok.hd hc) (λA' Q' E' _ hq=>collect_list pl.isList (hq _ s.toks its kp1 ?_ rfl ((bE I h4 e3 rv).keep λb o e _=>kp1 b o e)) (qD (sF i64) (by decide))) hz.2 hz.1 λa e h' tk vs p la pl' ev kp he=>?_
  .rw[Heap.size_update,size_push'];exact xv _
  .subst ev
   have hn:H a=none:=I.hok.fresh la
   have pb:∀i∈p,i<ds.length:=λi hi=>by
    have:=pl'.pm.mem_iff.mp hi
    rw[<-kl];simpa using this
   refine⟨.ref _,_,I.laid (a:=a) (o:=.lst (p.map λi=>ys.getD i .non)) (t':=tk) kp la ?_,rfl,?_⟩
   .refine⟨?_,_,e,Vals.pl rv,he⟩
    rw[qP,pl'.pm.length_eq,tY]
    have:(64:Nat)<=sizeLine:=by decide
    lia
   .refine q _ _ ?_
    rw[Ql pl' hz.2 kl.symm]
    exact .lst mo hn (h4.pl pb)
 .cases e1
end Mi
end
noncomputable section
namespace Mi
open PySem PySem.Spec L2 PyProof.Rows
structure M0(X:Cx)(o:qh)(m:Str)(apos cpos:Pos):Prop where
 base:attributeBase o m X.env (eval o X.env)=eval o X.env
 line:(apos.endLine==cpos.line)=true
end Mi
end
noncomputable section
namespace Mi
open PySem PySem.Spec L2 PyProof.Rows
structure DL(X:Cx)(st:List rO)(f:Ex):Prop where
 pe:PSs X st (λDn σ H=>Dn.ct=Dn.nx/\tX X.K f Dn σ H)
section
variable{X:Cx}
theorem jo{st:List rO}{f:Ex}(h:DSs X st f):DL X st f:=⟨JG h.pe λ_ _ _ z=>z.2⟩
theorem bD{st:rO}{rest:List rO}{f g:Ex}(h1:DS X st f)(h2:DL X rest g):DL X (st::rest) (AU f g):=⟨JG (Nx h1.pe h2.pe) λDn σ H z=>by
 obtain⟨ec,M,E,S,fl,E',S',e,r,st,q⟩:=z
 obtain⟨⟨f1,E1,S1⟩,e1,e⟩:=An e
 dsimp only at e
 split at e
 .exact⟨M,E,S,.nx,E1,S1,e1,r,st,λσ1 H1 M1 g1 r1 st1=>⟨ec,M1,E1,S1,fl,E',S',e,r1,st1,q.later g1⟩⟩
 .cases e
  exact⟨M,E,S,.ret _,_,_,e1,r,st,q⟩⟩
theorem aM{c:qh}{rest:List rO}{k:Ev}{g:Ex}{p pos:Pos}(hc:DT X c k)(h2:DL X rest g):DL X (.If c [.Continue p] [] pos::rest) (xIf k CZ g):=⟨JG (Nx (eE hc.pe (Tt QN) UN) h2.pe) λDn σ H z=>by
 obtain⟨ec,M,E,S,fl,E',S',e,r,st,q⟩:=z
 obtain⟨⟨w1,S1⟩,e1,e⟩:=An e
 dsimp only at e
 split at e
 .cases e
  refine⟨M,E,S,_,_,e1,r,st,λH1 M1 g1 st1=>?_⟩
  refine Yp ?_
  show Dn.ct σ H1
  rw[ec]
  exact q _ _ M1 g1 (r.step g1.st) st1
 .refine⟨M,E,S,_,S1,e1,r,st,λH1 M1 g1 st1=>?_⟩
  refine Zk ?_
  exact⟨ec,M1,E,S1,fl,E',S',e,r.step g1.st,st1,q.later g1⟩
 .cases e⟩
theorem cA{X:Cx}{tg iter:qh}{body:List rO}{s:Sr}{t:Tf}{b:Ex}{pos:Pos}(hp:zZ (model X.prog X.w) X.A X.env X.xe)(hc:X.calm=true)(hi:DI X tg iter s)(hg:DG X tg t)(hb:DL X body b)(hs:∀x,foldedSetIterable iter X.env x=pure x:=by intro _;rfl):DS X (.For tg iter body [] pos) (IF s t b):=⟨Ek (Zt hp hc hi.pe hg.pe hb.pe hs) λDn σ H z=>by
 obtain⟨M,E,S,fl,E',S',e,r,st,q⟩:=z
 obtain⟨⟨⟨ds,gs⟩,S1⟩,e1,e⟩:=An e
 dsimp only at e
 refine⟨M,E,S,ds,gs,S1,e1,r,st,λJ H1 M1 g1 st1 it=>?_⟩
 refine⟨λi m σ' H'=>m=ds.length-i/\∃E2 S2 M2,IV gs t b (ds.drop i) E2 S2=Gc (fl,E',S')/\Gr M1 H1 M2 H'/\EnR X.K M2 E2 σ' H'/\StR X.K M2 S2 H',⟨_,rfl,E,S1,M1,e,.refl st1.mo,r.step g1.st,st1⟩,λi m σ2 H2 hW=>?_⟩
 obtain⟨rfl,E2,S2,M2,e2,g2,r2,st2⟩:=hW
 cases ed:ds.drop i with
 |nil=>
  rw[ed]at e2
  unfold IV at e2
  split at e2
  .rename_i ok
   cases e2
   left
   exact⟨it.stop i H2 M2 _ g2.st st2 ok (vX.mp ed),q _ _ M2 (g1.trans g2) r2 st2⟩
  .cases e2
 |cons d rest=>
  obtain⟨d1,d2,d3⟩:=JZ ed
  rw[ed]at e2
  unfold IV at e2
  split at e2
  .rename_i ok
   obtain⟨E3,e3,e2⟩:=An e2
   obtain⟨⟨f4,E4,S4⟩,e4,e2⟩:=An e2
   dsimp only at e2
   right
   refine⟨it.go i H2 M2 S2 g2.st st2 ok d3,λσ' H'=>∃m',m'<ds.length-i/\(m'=ds.length-(i+1)/\∃E2 S2 M2,IV gs t b (ds.drop (i+1)) E2 S2=Gc (fl,E',S')/\Gr M1 H1 M2 H'/\EnR X.K M2 E2 σ' H'/\StR X.K M2 S2 H'),λσ' H' z=>z,λx H3 hy=>?_⟩
   obtain⟨k3,rx⟩:=it.yld i H2 M2 S2 x H3 d g2.st st2 ok d1 hy
   have g3:Gr M2 H2 M2 H3:=.grow st2.mo k3
   refine⟨M2,d,E2,E3,S2,e3,r2.step g3.st,st2.grow k3,rx,λσ4 r4=>?_⟩
   refine⟨rfl,M2,E3,S2,f4,E4,S4,e4,r4,st2.grow k3,?_⟩
   split at e2
   .exact λσ6 H6 M6 g6 r6 st6=>⟨_,by lia,rfl,E4,S4,M6,by rw[d2];exact e2,(g2.trans g3).trans g6,r6,st6⟩
   .cases e2
    exact λv H6 M6 g6 st6 r6=>q _ _ M6 (((g1.trans g2).trans g3).trans g6) st6 r6
  .cases e2⟩
noncomputable def GW(fd fk:Ev):Ev:=λE S=>(fd E S).bind λa=>(ML a.2 a.1).bind λ_=>(fk E a.2).bind λb=>(ML b.2 a.1).bind λes=>(SW b.1).map λk=>((U9 es k).getD .non,b.2)
theorem J0{o e:qh}{fd fk:Ev}{apos cpos:Pos}(hu:X.A.units+100<cLine)(ho:DE X o fd)(hk:DE X e fk)(m:M1 X o "get" apos e cpos):DE X (.Call (.Attribute o "get" apos) [e] [] cpos) (GW fd fk):=⟨
 BQ (W4 (by lia) ho.pe hk.pe m) λσ H Q z=>by
  obtain⟨M,E,S,d,S',e,r,st,q⟩:=z
  obtain⟨⟨a,S1⟩,e1,e⟩:=An e
  obtain⟨es1,ed,e⟩:=An e
  obtain⟨⟨b,S2⟩,e2,e⟩:=An e
  obtain⟨es,ed3,e⟩:=An e
  obtain⟨k,ek,e⟩:=JO e
  cases e
  refine⟨M,E,S,a,S1,e1,r,st,λv H1 M1 g1 st1 d1=>?_⟩
  obtain⟨p,kvs,rfl,hp,_⟩:=Q8 st1 d1 ed
  refine⟨p,rfl,.inl ⟨kvs,.inl hp⟩,M1,E,S1,b,S2,e2,r.step g1.st,st1,λv2 H2 M2 g2 st2 d2=>?_⟩
  obtain⟨p',kvs3,e4,hp3,rk⟩:=Q8 st2 (d1.step g2.st) ed3
  cases e4
  rw[Q4 d2 ek]
  refine⟨_,.k hp3,?_⟩
  rcases rk.val k with⟨h1,h2⟩|⟨v,d,h1,h2,h3⟩
  .rw[h1];rw[h2]at q;exact q _ _ M2 (g1.trans g2) st2 .non
  .rw[h1];rw[h2]at q;exact q _ _ M2 (g1.trans g2) st2 h3⟩
end
theorem QB {prog : qa} {w : qq} {A : qx} {E : pW -> pX -> Prop} {s : pX} {T : tZ} {r d : pz} {n : Nat} {P : Nat -> pW -> Prop} {OK : qu -> Prop} {Q : List pW -> pX -> Prop} (C : PySem.W.KdlSrc prog w T r d n P OK) (hh : A.handled = none) (hok : OK s.heap) (hn : n ≤ sizeLine) (h : ∀ h' tk acc', (∀ b o, s.heap.get? b = Gc o -> h'.get? b = Gc o) -> s.heap.objs.size ≤ h'.objs.size -> zc P acc' n -> Q acc'.toList { s with heap := h', toks := tk }) : wpAny (model prog w) A (collect (.ref r)) Q E s := by
  unfold collect
  refine Wp (zO (tu yD ?_))
  rw [sx yE _]
  show wpAny _ A.in1 (newList [] >>= fun l => again (.builtin "list.__iadd__" ⟨[l, .ref r], []⟩)) _ _ s
  refine Wp (wj ?_)
  refine pZ ⟨vk vY _, tu zR ?_⟩
  rw [sx vY _]
  show wpAny _ A.in1 (rX (.ref s.heap.objs.size) (.ref r) (.ref s.heap.objs.size)) _ _ { s with heap := s.heap.push (seqObj "list" #[] 0) }
  have me : (s.heap.push (seqObj "list" #[] 0)).get? s.heap.objs.size = Gc { cls := .type "list", data := .seq #[] 0 } := qG _ rfl
  have tr := C.there _ hok
  have ok2 : OK (s.heap.push (seqObj "list" #[] 0)) := C.keep _ _ hok fun b _ o e => pU _ e
  have Z := PySem.W.kdl_extend (A := A) (R := fun r s' => ∃ h' tk acc' c', r = .ok (.ret (.ref s.heap.objs.size)) /\ s' = { s with heap := h', toks := tk } /\ (∀ b o, s.heap.get? b = Gc o -> h'.get? b = Gc o) /\ h'.get? s.heap.objs.size = Gc { cls := .type "list", dict := none, data := .seq acc' c', slots := #[] } /\ zc P acc' n) (s := { s with heap := s.heap.push (seqObj "list" #[] 0) }) C hh ok2 s.heap.objs.size (vD tr.1) (vD tr.2) (.ref s.heap.objs.size) 0 me (fun h' tk acc' c' hk hS' hacc => ⟨h', tk, acc', c', rfl, rfl, fun b o e => hk b o (qN (qI e)) (pU _ e), hS', hacc⟩) hn
  have fn : ∀ (r : z8) (s' : pX), (∃ h' tk acc' c', r = Except.ok (Flow.ret (.ref s.heap.objs.size)) /\ s' = { s with heap := h', toks := tk } /\ (∀ b o, s.heap.get? b = Gc o -> h'.get? b = Gc o) /\ h'.get? s.heap.objs.size = Gc { cls := .type "list", dict := none, data := .seq acc' c', slots := #[] } /\ zc P acc' n) -> r = .ok (.ret (.ref s.heap.objs.size)) /\ wpAny (model prog w) A (do
      let o ← load s.heap.objs.size
      match o.data with
      | .seq xs _ => pure xs.toList
      | _ => unsupported "internal:collect") Q E s' := by
    rintro r s' ⟨h', tk, acc', c', rfl, rfl, kp, hS', hacc⟩
    exact ⟨rfl, Wp (z0 hS' (pZ (h h' tk acc' kp (sF (qI hS')) hacc)))⟩
  refine wZ Z (fun f s' y => ?_) (fun e s' y => ?_)
  · cases f with
    | done f =>
      obtain ⟨e, q⟩ := fn _ _ y
      cases e
      exact q
    | again c' =>
      refine ⟨y.1, wG y.2 fun r s' y => ?_⟩
      obtain ⟨e, q⟩ := fn _ _ y
      cases e
      exact q
  · obtain ⟨e, q⟩ := fn _ _ y
    cases e
end Mi
end
noncomputable section
namespace Mi
open PySem PySem.Spec L2 PyProof.Rows
theorem R4{vs:List (Key×pW)}:∀{l:List pW},l.length=vs.length->(∀(j:Nat) v,l[j]?=Gc v->∃k:Key,vs[j]?=Gc (k,v))->l=vs.map (·.2):=λ{l} hl h=>by
 apply vB
 .simp[hl]
 .intro i h1 h2
  obtain⟨k,e⟩:=h i l[i] (pf h1)
  have hi:i<vs.length:=by simpa using h2
  rw[pf hi]at e
  rw[List.getElem_map,rG e]
theorem Vh:∀{kvs:List (Key×V)} {vs:List (Key×pW)},KV kvs vs->Vals (kvs.map (·.2)) (vs.map (·.2))
 |_,_,.nil=>.nil
 |_,_,.cons h t=>.cons h.2 (Vh t)
theorem OE{K:pV}{M:Ms}{H:Hp}:∀{kvs:List (Key×V)} {es:List (Key×D)},BZ K M H kvs es->Ao K M H (kvs.map (·.2)) (es.map (·.2))
 |_,_,.nil=>.nil
 |_,_,.cons h t=>.cons h (OE t)
theorem lK{X:Cx}{o:qh}{td:TE}{p pos apos cpos:Pos}(hc:X.calm=true)(hgl:Gl X "sorted")(hml:X.mg "sorted"=none)(ho:PE X o td)(m:M0 X o "values" apos cpos)(hs2:qb [Expr.Call (.Attribute o "values" apos) [] [] cpos] X.env=[(false,eval (.Call (.Attribute o "values" apos) [] [] cpos) X.env)]:=by rfl):PE X (.Call (.Name "sorted" p) [.Call (.Attribute o "values" apos) [] [] cpos] [] pos) (λσ H Q=>td σ H λx H1=>∃(a:pz) (kvs:List (Key×V)) (M:Ms) (ds:List D) (ks:List Int),x=.ref a/\H1 a=Gc (.dK kvs)/\Ao X.K M H1 (kvs.map (·.2)) ds/\MW ds=Gc ks/\ks.Nodup/\ks.length<64/\∀q p,Plc ks p->H1 q=none->Q (.ref q) (upd H1 q (.lst (p.map λi=>(kvs.map (·.2)).getD i .non)))):=by
 intro pins s σ H Q I h
 refine uM (JX I hgl hml boot_sorted ?_ (by decide) (by decide))
 refine wc ?_ hs2 rfl
 rw[hs2]
 show wpAny _ _ (spliced ((false,eval (.Call (.Attribute o "values" apos) [] [] cpos) X.env)::backTo pos [])) _ _ s
 refine vQ ?_
 refine wpAny_Call_method (T:="dict") (id:="dict.values") m.base rfl m.line yR yG PySem.F.type_dict_values (thn (ho pins s σ H _ I h) λu s1 ⟨x,H1,I1,rx,a,kvs,M,ds,ks,ex,ha,rd,hk,nd,l64,q⟩=>?_)
 subst ex
 obtain rfl:u=qz a:=rx
 obtain⟨t1,t2,t3⟩:=Zp I1 (.inl ⟨kvs,.inl ha⟩)
 refine⟨t1,t2,?_⟩
 obtain⟨z,hd,vs,rel,dd⟩:=VQ I1.hok ha
 show wpAny _ _ (callWith cpos (.builtin "dict.values") [.ref a] [] []) _ _ s1
 refine PySem.method_meetsIn yG PySem.F.entry_dict_values rfl (PyProof.Rows.evalArgs_none ⟨rfl,dd.typeIs,PySem.F.args_dict_values_1 _,_,meets_dict_values (CO X.prog X.w) a hd,⟨vs,dd⟩,?_⟩)
 refine vU ?_
 obtain⟨ep,da⟩:=dd.dictAt
 generalize hvw:({cls:=.type "dict_values",data:=.fields #[.ref a]}:Obj)=vw
 have hv:(s1.heap.push vw).IsValuesView s1.heap.objs.size a:=⟨vw,qG _ (by subst hvw;rfl),by subst hvw;rfl,by subst hvw;rfl⟩
 have hn:vs.length<=sizeLine:=by rw[<-rel.length];exact z
 have kl:=JK hk
 have rv:=Vh rel
 have k1:∀b o,s1.heap.get? b=Gc o->(s1.heap.push vw).get? b=Gc o:=λb o e=>pU _ e
 refine MF (s:={s1 with heap:=s1.heap.push vw}) (ks:=ks) (Pv:=λl=>l=vs.map (·.2)) (I1.ok.hd hc) (λA' Q' E' hA hq=>?_) nd l64 λb e h' tk l p la pl' ev kp he=>?_
 .refine QB (PySem.W.kdl_values (knd:=CO X.prog X.w) (r:=s1.heap.objs.size) (d:=a) (kvs:=vs) (ep:=ep)) hA ⟨hv,da.push vw⟩ hn λh' tk acc' kp' lz hacc=>?_
  have ev:=R4 (l:=acc'.toList) (vs:=vs) (by simpa using hacc.1) (λj v q=>hacc.2 j v (by simpa using q))
  refine hq h' tk acc'.toList kp' lz ev ?_
  rw[ev]
  exact(bE I1 rd hk rv).keep λb o e _=>kp' b o (k1 b o e)
 .subst ev
  have la':s1.heap.objs.size<=b:=qD (by rw[ql];exact xv _) la
  have hnb:H1 b=none:=I1.hok.fresh la'
  refine⟨.ref _,_,I1.laid (a:=b) (o:=.lst (p.map λi=>(kvs.map (·.2)).getD i .non)) (t':=tk) (λc o e=>kp c o (k1 c o e)) la' ?_,rfl,q b p pl' hnb⟩
  refine⟨?_,_,e,Vals.pl rv,he⟩
  rw[qP,pl'.pm.length_eq,tY]
  have:(64:Nat)<=sizeLine:=by decide
  lia
noncomputable def eSV(c:qk)(f:Ev):Ev:=λE S=>(f E S).bind λa=>(ML a.2 a.1).bind λes=>(MW (es.map (·.2))).bind λks=>if ks.length<64/\ks.Nodup then fin c (.own (P8 ks (es.map (·.2)))) a.2 else none
theorem kK{X:Cx}{o:qh}{f:Ev}{c:qk}{p pos apos cpos:Pos}(hc:X.calm=true)(hgl:Gl X "sorted")(hml:X.mg "sorted"=none)(ho:DE X o f)(m:M0 X o "values" apos cpos)(hs2:qb [Expr.Call (.Attribute o "values" apos) [] [] cpos] X.env=[(false,eval (.Call (.Attribute o "values" apos) [] [] cpos) X.env)]:=by rfl):DE X (.Call (.Name "sorted" p) [.Call (.Attribute o "values" apos) [] [] cpos] [] pos) (eSV c f):=⟨
 BQ (lK hc hgl hml ho.pe m hs2) λσ H Q z=>by
  obtain⟨M,E,S,d,S',e,r,st,q⟩:=z
  obtain⟨⟨w,S1⟩,e1,e⟩:=An e
  obtain⟨es,ed,e⟩:=An e
  obtain⟨ks,ek,e⟩:=An e
  split at e
  .rename_i hz
   refine⟨M,E,S,w,S1,e1,r,st,λv H1 M1 g1 st1 d1=>?_⟩
   obtain⟨a,kvs,rfl,h,rk⟩:=Q8 st1 d1 ed
   refine⟨a,kvs,M1,es.map (·.2),ks,rfl,h,OE rk,ek,hz.2,hz.1,λq' p pl hq=>?_⟩
   have kl:=JK ek
   rw[Ql pl hz.2 kl.symm]at e
   have pb:∀i∈p,i<(es.map (·.2)).length:=λi hi=>by
    have:=pl.pm.mem_iff.mp hi
    rw[<-kl];simpa using this
   obtain⟨M2,g2,st2,d2⟩:=(Nw.lst st1.mo hq ((OE rk).pl pb)).fin st1 e
   exact q _ _ M2 (g1.trans g2) st2 d2
  .cases e⟩
end Mi
end
noncomputable section
namespace L2
open PySem PySem.Spec PyProof.Rows
def Y7(ix:List (pY Nat))(g:TG)(tc:TT)(tk tv:TE)(J:It)(σ:St)(H:Hp)(Q:VK):Prop:=
 ∀D,H D=none->∃W:Nat->Nat->St->Hp->List (Key×V)->Prop,(∃m,W 0 m (sig ix σ) (upd H D (.dK [])) [])/\∀i m σ H ys,W i m σ H ys->H D=Gc (.dK ys)/\
  ((J.stop i H/\Q (.ref D) H)\/(J.go i H/\ys.length<sizeLine/\∀x H',J.yld i H x H'->g x σ H' λσ2 H2=>tc σ2 H2 λb H3=>
    if b=true then tk σ2 H3 λk H4=>tv σ2 H4 λy H5=>∃kk,k=kV kk/\H5 D=Gc (.dK ys)/\∃m',m'<m/\W (i+1) m' σ2 (upd H5 D (.dK (putK ys kk y))) (putK ys kk y)else∃m',m'<m/\W (i+1) m' σ2 H3 ys))
noncomputable def Zn(ix:List (pY Nat))(wi:TI)(g:TG)(tc:TT)(tk tv:TE):TE:=λσ H Q=>wi σ H λJ H1=>Y7 ix g tc tk tv J σ H1 Q
section
variable{X:Cx}{pins:List (pz×Obj)}{σ:St}{s₂:pX}{N':List Str}{ix:List (pY Nat)}{scope:tT}{kx vx tg iter:qh}{ifs:List qh}{pos:Pos}{g:TG}{tc:TT}{tk tv:TE}
def ZL(X:Cx)(N':List Str)(scope:tT)(tg:qh)(ifs:List qh)(kx vx:qh)(g:TG)(tc:TT)(tk tv:TE):Prop:=
 ∀(s:pX) (H:Hp) (fp:List pz),PG (Cp X N' scope s H fp) tg g/\PTs (Cp X N' scope s H fp) ifs tc/\PE (Cp X N' scope s H fp) kx tk/\PE (Cp X N' scope s H fp) vx tv
theorem SF {X' : Cx} {it : pz} {fp : List pz} {tn : Nat -> qu -> Prop} {J : It} {D : pz} {Q : VK} {R : z8 -> pX -> Prop} {W : Nat -> Nat -> St -> Hp -> List (Key × V) -> Prop} {s : pX} {e : Env} {n : Nat} (he : X'.env = e) (hx : X'.xe = fun _ _ => ur) (hcm : X'.calm = true) (T : Turn X'.prog X'.w X'.K tg J fp it tn) (hfp : ∀ H : Hp, (∀ b ∈ fp, H b = none) -> ∀ b ∈ fp, Mz X' [] H b) (hg : PG X' tg g) (ht : PTs X' ifs tc) (hk : PE X' kx tk) (hv : PE X' vx tv) (turn : ∀ i m σ H ys, W i m σ H ys -> H D = Gc (.dK ys) /\ ((J.stop i H /\ Q (.ref D) H) ∨ (J.go i H /\ ys.length < sizeLine /\ ∀ x H', J.yld i H x H' -> g x σ H' fun σ2 H2 => tc σ2 H2 fun b H3 =>
        if b = true then tk σ2 H3 fun k H4 => tv σ2 H4 fun y H5 => ∃ kk, k = kV kk /\ H5 D = Gc (.dK ys) /\ ∃ m', m' < m /\ W (i + 1) m' σ2 (upd H5 D (.dK (putK ys kk y))) (putK ys kk y) else ∃ m', m' < m /\ W (i + 1) m' σ2 H3 ys)))
    (hR : ∀ s' σ' H', Inv X' [] σ' H' s' -> Q (.ref D) H' -> R (.ok .next) s')
    (h0 : ∃ i σ' H' ys, Inv X' [] σ' H' s /\ tn i s.heap /\ (∀ b ∈ fp, H' b = none) /\ W i n σ' H' ys) :
    codeAny (model X'.prog X'.w) X'.A (.compLoop (.DictComp kx vx [⟨tg, iter, ifs, 0⟩] scope pos) 0 (.ref it) (.ref D) e) R s := by
  subst he
  refine codeAny_loop rfl (fun n s => ∃ i σ' H' ys, Inv X' [] σ' H' s /\ tn i s.heap /\ (∀ b ∈ fp, H' b = none) /\ W i n σ' H' ys) (fun n s3 hI => ?_) n h0
  show wpAny _ X'.A ((compTurn (.DictComp kx vx [⟨tg, iter, ifs, 0⟩] scope pos) 0 (.ref it) (.ref D) X'.env).onRaise (fun x => do noteFrame x X'.env; theTreesLotGoes x)) _ _ s3
  refine wpAny_noted (RX ?_)
  rw [compTurn_dict]
  obtain ⟨i, σ3, H3, ys, I3, st3, fr3, w3⟩ := hI
  obtain ⟨hD, alt⟩ := turn i n σ3 H3 ys w3
  rcases alt with ⟨stop, q⟩ | ⟨go, hlen, step⟩
  · refine Wp (uE (Wp (thn (T.done X' rfl rfl rfl hcm i [] s3 σ3 H3 _ I3 (hfp H3 fr3) st3 stop) fun r s4 ⟨hr, I4⟩ => ?_)))
    subst hr
    exact pZ (hR s4 σ3 H3 I4 q)
  · refine Wp (uE (Wp (thn (T.item X' rfl rfl rfl hcm i [] s3 σ3 H3 _ I3 (hfp H3 fr3) st3 go) fun r s4 ⟨u, hr, h4⟩ => ?_)))
    subst hr
    refine Wp (thn h4 fun _ s5 ⟨x, H5, I5, r5, y5, st5, fr5⟩ => ?_)
    have I5' := I5.pinned (hfp H5 fr5) (T.obj _ _ st5)
    have hg' := hg _ s5 σ3 H5 x u _ I5' r5 (step x H5 y5)
    rw [hx] at hg'
    refine Wp (thn hg' fun _ s6 ⟨σ6, H6, I6, q6⟩ => ?_)
    have ht' := ht _ s6 σ6 H6 _ I6 q6
    rw [hx] at ht'
    refine Wp (thn ht' fun ok s7 ⟨H7, I7, q7⟩ => ?_)
    have again : ∀ {s8 : pX} {H8 : Hp} {zs : List (Key × V)} {m' : Nat}, Inv X' ([] ++ NV fp s5.heap) σ6 H8 s8 -> m' < n -> W (i + 1) m' σ6 H8 zs -> ∃ m, m < n /\ ∃ i σ' H' ys, Inv X' [] σ' H' s8 /\ tn i s8.heap /\ (∀ b ∈ fp, H' b = none) /\ W i m σ' H' ys := fun {s8 H8 zs m'} I8 hm w8 => by
      refine ⟨m', hm, i + 1, σ6, H8, zs, I8.JF, T.keep _ _ _ st5 fun b hb o e => (I8.pin (b, o) (qm _ (qm _ (FG hb e)))).1, fun b hb => ?_, w8⟩
      obtain ⟨o, e, d⟩ := T.obj _ _ st5 b hb
      exact (I8.pin (b, o) (qm _ (qm _ (FG hb e)))).2.1
    cases ok with
    | false =>
      rw [qj (by decide)] at q7
      obtain ⟨m', hm, w7⟩ := q7
      exact pZ ⟨rfl, again I7 hm w7⟩
    | true =>
      rw [qc rfl] at q7
      have hk' := hk _ s7 σ6 H7 _ I7 q7
      rw [hx] at hk'
      refine Wp (Wp (thn hk' fun kv s8 ⟨k, H8, I8, r8, q8⟩ => ?_))
      have hv' := hv _ s8 σ6 H8 _ I8 q8
      rw [hx] at hv'
      refine Wp (rB (thn hv' fun vv s9 ⟨y, H9, I9, r9, kk, ek, hD9, m', hm, w9⟩ => Wp (uE (rB ?_))))
      subst ek
      obtain ⟨z, hsy, vs, rel, dd⟩ := VQ I9.hok hD9
      have hz : vs.length ≤ sizeLine := by rw [← rel.length]; exact z
      have hl : (putK ys kk y).length ≤ sizeLine := by have := G3 ys kk y; lia
      refine wpAny_dictSet_pairs (hsz := hz) (Uq r8) dd fun h' dd' hs => pZ ?_
      have he : ∃ q, h'.get? D = Gc q := let ⟨q, _, _, hq, _⟩ := dd'; ⟨q, hq⟩
      exact ⟨rfl, again (Ni I9 (by rw [hD9]; exact uL) hs he (Ut hl hsy (rel.put kk r9) dd')) hm w9⟩
theorem Ul(hc:X.calm=true)(S:AS X.N X.env.scope N' ix scope)(hb:ZL X N' scope tg ifs kx vx g tc tk tv){it:pz}{fp:List pz}{tn:Nat->qu->Prop}{J:It}{H₂:Hp}{Q:VK}{E:pW->pX->Prop}{RR:pW->pz->z8->pX->Prop}(I2:Inv X pins σ H₂ s₂)(T:Turn X.prog X.w X.K tg J fp it tn)(st2:tn 0 s₂.heap)(f2:∀b∈fp,Mz X pins H₂ b)(hW:Y7 ix g tc tk tv J σ H₂ Q)(hRR:∀D C H' s',Inv X pins σ H' s'->(∃m,s'.heap.Ns C m)->Mz X pins H' C->Q (.ref D) H'->RR (.ref D) C (.ok .next) s'):wpAny (model X.prog X.w) X.A newDict (λacc s₃=>wpAny (model X.prog X.w) X.A (newFunctionEnv scope X.env.globals (GC X.env.cells scope.names []) [] X.env.qual none .none (Gc X.env)) (λcenv s₄=>
  codeAny (model X.prog X.w) X.A (.compStart (.DictComp kx vx [⟨tg,iter,ifs,0⟩] scope pos) 0 (.ref it) acc {cenv with scope:=relabel scope X.env}) (RR acc cenv.locals) s₄) E s₃) E s₂:=by
 have hD0:H₂ s₂.heap.objs.size=none:=I2.hok.fresh (p9 _)
 have hlt2:∀b∈fp,b<s₂.heap.objs.size:=λb hb=>by
  obtain⟨o,e,_⟩:=T.obj _ _ st2 b hb
  exact qI e
 refine qr (GI (λh₁ hns₁ hsb₁ hcl₁=>?_))
 have I3:Inv X pins σ (upd H₂ s₂.heap.objs.size (.dK [])) {s₂ with heap:=s₂.heap.push {cls:=.type "dict",dict:=none,data:=.dict #[]}}:=
  I2.laid (t':=s₂.toks) (λb u e=>pU _ e) (p9 _) ⟨rS _,uo.mpr (rm (qN I2.big)),[],.nil,Heap.DictOf.new s₂.heap⟩
 have f3:∀b∈fp,Mz X pins (upd H₂ s₂.heap.objs.size (.dK [])) b:=λb hb=>⟨by rw[Aa (qN (hlt2 b hb))];exact(f2 b hb).1,(f2 b hb).2⟩
 have k3:∀b o,s₂.heap.get? b=Gc o->(s₂.heap.push {cls:=.type "dict",dict:=none,data:=.dict #[]}).get? b=Gc o:=λb o e=>pU _ e
 dsimp only at hns₁ hsb₁ hcl₁⊢
 generalize hs3:({s₂ with heap:=s₂.heap.push {cls:=.type "dict",dict:=none,data:=.dict #[]}}:pX)=s₃ at I3
 have eh:s₂.heap.push {cls:=.type "dict",dict:=none,data:=.dict #[]}=s₃.heap:=by rw[<-hs3]
 have et:s₂.toks=s₃.toks:=by rw[<-hs3]
 have es:∀(h:qu) (t:Nat),({s₂ with heap:=h,toks:=t}:pX)={s₃ with heap:=h,toks:=t}:=λh t=>by rw[<-hs3]
 rw[eh]at hns₁ hsb₁ hcl₁ k3⊢
 have hlt3:∀b∈fp,b<s₃.heap.objs.size:=λb hb=>by
  obtain⟨o,e,_⟩:=T.obj _ _ st2 b hb
  exact qI (k3 b o e)
 have k4:∀b o,s₃.heap.get? b=Gc o->h₁.get? b=Gc o:=hsb₁
 obtain⟨W,⟨m0,w0⟩,turn⟩:=hW _ hD0
 have I4:∀tk,Inv (Cp X N' scope s₃ (upd H₂ s₂.heap.objs.size (.dK [])) fp) [] (sig ix σ) (upd H₂ s₂.heap.objs.size (.dK [])) {s₃ with heap:=h₁,toks:=tk}:=λtk=>Qu S hc I3 f3 hlt3 hns₁ k4 hcl₁
 have st4:tn 0 h₁:=T.keep _ _ _ st2 λb hb o e=>k4 b o (k3 b o e)
 obtain⟨bg,bt,bk,bv⟩:=hb s₃ (upd H₂ s₂.heap.objs.size (.dK [])) fp
 have noX:∀(H:Hp),(∀b∈fp,H b=none)->∀b∈fp,Mz (Cp X N' scope s₃ (upd H₂ s₂.heap.objs.size (.dK [])) fp) [] H b:=λH hn b hb=>by
  obtain⟨_,h2,h3⟩:=f3 b hb
  refine⟨hn b hb,qN (hlt3 b hb),λhs=>(I4 0).ok.bP b hb hs,.inl hb,λx c h=>?_,λp hp=>absurd (show p∈([]:List (pz×Obj))from hp) (by simp)⟩
  exact((I4 0).ok.exf b hb).2 x c h
 have fin:∀(s':pX) (σ':St) (H':Hp),Inv (Cp X N' scope s₃ (upd H₂ s₂.heap.objs.size (.dK [])) fp) [] σ' H' s'->Q (.ref s₂.heap.objs.size) H'->RR (.ref s₂.heap.objs.size) s₃.heap.objs.size (.ok .next) s':=λs' σ' H' I' q=>by
  refine hRR _ _ H' s' ?_ (let⟨m,hn,_⟩:=I'.loc;⟨m,hn⟩) (I3.ZU (p9 _) I'.free) q
  exact I3.eM I'.os I'.base I'.hok I'.bare λb hb=>⟨(f3 b hb).2.2.2.1,(f3 b hb).2.1,(f3 b hb).2.2.2.2.1,(f3 b hb).2.2.2.2.2⟩
 have loop:∀tk,codeAny (model X.prog X.w) X.A (.compLoop (.DictComp kx vx [⟨tg,iter,ifs,0⟩] scope pos) 0 (.ref it) (.ref s₂.heap.objs.size) (compEnvC scope (cellsFrom (s₃.heap.objs.size+1) scope.names (GC X.env.cells scope.names [])) s₃.heap.objs.size X.env)) (RR (.ref s₂.heap.objs.size) s₃.heap.objs.size) {s₃ with heap:=h₁,toks:=tk}:=λtk=>
  SF (X':=Cp X N' scope s₃ (upd H₂ s₂.heap.objs.size (.dK [])) fp) (D:=s₂.heap.objs.size) (Q:=Q) (W:=W) rfl rfl rfl T noX bg bt bk bv turn fin ⟨0,_,_,_,I4 tk,st4,λb hb=>(f3 b hb).1,w0⟩
 rw[es]
 exact codeAny_compStart_dict (loop _) (T.self _ 0 _ _ _ st4 (loop _))
theorem YK{wi:TI}(hc:X.calm=true)(S:AS X.N X.env.scope N' ix scope)(hi:PI X tg iter wi)(hb:ZL X N' scope tg ifs kx vx g tc tk tv)(hs:∀x,foldedSetIterable iter X.env x=pure x:=by intro _;rfl):PE X (.DictComp kx vx [⟨tg,iter,ifs,0⟩] scope pos) (Zn ix wi g tc tk tv):=by
 intro pins s σ H Q I h
 rw[arm_eval_DictComp]
 refine vi (use:=none) rfl hs (N2 (I.cellsOf S)) S.kind S.names (thn (hi pins s σ H _ I h) λv s1 h1=>thn h1 λitv s2 h2=>?_)
 obtain⟨it,fp,tn,J,H2,e,I2,T,st2,f2,hW⟩:=h2
 subst e
 refine Ul (RR:=λacc C=>compPost (model X.prog X.w) X.A X.xe none (EP X pins σ Q) acc C) hc S hb I2 T st2 f2 hW ?_
 intro D C H' s' I' hm hC q
 obtain⟨m,hm⟩:=hm
 refine⟨m,hm,λh' hs'=>⟨.ref D,H',I'.turned (it:=C) (t':=s'.toks) (λb o hb e=>hs'.extBut b o hb e) hC.1 hC.2.1 hC.2.2.2.1 hC.2.2.2.2.1 hC.2.2.2.2.2,rfl,q⟩⟩
end
end L2
end
noncomputable section
namespace Mi
open PySem PySem.Spec L2
open Classical in
def HN(gs:Gd)(t:Tf)(c fk fv:Ev):List D->List (Key×D)->En->Sto->pY (List (Key×D)×Sto)
 | [],acc,_,S=>if gOk gs S then Gc (acc,S)else none
 |d::ds,acc,E,S=>if gOk gs S then(if acc.length<sizeLine then(t d E S).bind λE1=>(c E1 S).bind λr=>match r.1 with
   | .bl true=>(fk E1 r.2).bind λp=>(fv E1 p.2).bind λq=>(SW p.1).bind λk=>HN gs t c fk fv ds (putD acc k q.1) E1 q.2
   | .bl false=>HN gs t c fk fv ds acc E1 r.2
   |_=>none
  else none)else none
def Oj(cf:qk)(cap:List Nat)(m:Nat)(s:Sr)(t:Tf)(c fk fv:Ev):Ev:=λE S=>(s E S).bind λr=>(HN r.1.2 t c fk fv r.1.1 [] (Qf cap m E) r.2).map λq=>Rv cf q.1 q.2
section
variable{K:pV}{M M' M2:Ms}{H H' H2:Hp}{S:Sto}
theorem StR.X0(r:StR K M S H){a:pz}{ys:List (Key×V)}(ha:a∈M.tmp):StR K M S (upd H a (.dK ys))/\Sp1 M H M (upd H a (.dK ys)):=by
 have s1:Sp1 M H M (upd H a (.dK ys)):=⟨r.mo,rL,λb z=>.inl z,λb o eb nb=>by rw[Aa (λz=>nb (by rw[z];exact .inr ha))];exact eb⟩
 refine⟨⟨λb z=>?_,r.nd,r.nt,r.len,λn b c h1 h2=>?_⟩,s1⟩
 .by_cases h:b=a
  .subst h;exact .inr (.inl ⟨ys,Aw⟩)
  .rw[Aa h];exact r.mo b z
 .have hb:b≠a:=λz=>r.nt a ha (by rw[<-z];exact qX h1)
  have q:=r.cell n b c h1 h2
  cases c with
  |lst ds=>obtain⟨xs,e,rr⟩:=q;exact⟨xs,by rw[Aa hb];exact e,rr.step s1⟩
  |dct ds=>obtain⟨xs,e,rr⟩:=q;exact⟨xs,by rw[Aa hb];exact e,rr.step s1⟩
  |tab ds=>obtain⟨xs,e,rr⟩:=q;exact⟨xs,by rw[Aa hb];exact e,rr.step s1⟩
end
theorem YX{K:pV}{cf:qk}{cap:List Nat}{m:Nat}{s:Sr}{t:Tf}{c fk fv:Ev}{σ:Sg}{H:Hp}{Q:VK}(h:tD K (Oj cf cap m s t c fk fv) σ H Q):Zn (ixC cap m) (tI K s) (tG K t) (tDT K c) (tD K fk) (tD K fv) σ H Q:=by
 obtain⟨M,E,S,d,S',e,r,st,q⟩:=h
 obtain⟨⟨⟨ds,gs⟩,S1⟩,e1,e⟩:=An e
 obtain⟨⟨accf,Sf⟩,e3,e⟩:=JO e
 dsimp only at e e3
 refine⟨M,E,S,ds,gs,S1,e1,r,st,λJ H1 M1 g1 st1 it A0 hD=>?_⟩
 obtain⟨st0,s0⟩:=st1.dn hD
 have gx0:GrX M1 H1 ⟨M1.cel,A0::M1.tmp⟩ (upd H1 A0 (.dK [])):=⟨rL,λa z=>.inl z,λa o eo _=>F6 hD a o eo,λa ea=>by
  by_cases h:a=A0
  .subst h;rw[Aw];intro z;cases z
  .rw[Aa h];exact ea⟩
 have nt:A0∉M1.tmp:=λz=>st1.mo.some (.inr z) hD
 refine⟨λi mm σ' H' ys=>mm=ds.length-i/\∃Ei Si Mi acc,HN gs t c fk fv (ds.drop i) acc Ei Si=Gc (accf,Sf)/\GrX M1 H1 Mi H'/\Mi.tmp=A0::M1.tmp/\EnR K Mi Ei σ' H'/\StR K Mi Si H'/\H' A0=Gc (.dK ys)/\BZ K Mi H' ys acc,
  ⟨_,rfl,_,S1,_,[],e3,gx0,rfl,((r.step g1.st).step s0).cap cap m,st0,Aw,.nil⟩,λi mm σ2 H2 ys hW=>?_⟩
 obtain⟨rfl,Ei,Si,Mi,acc,ec,gx,ht,r2,st2,hy,ry⟩:=hW
 have sp:Sp1 M1 H1 Mi H2:=⟨st1.mo,gx.pre,λa z=>by
  rcases z with z|z
  .exact(gx.fresh a z).imp .inl id
  .rw[ht]at z
   rcases qA.mp z with z|z
   .subst z;exact .inr hD
   .exact .inl (.inr z),λa o eo no=>gx.keep a o eo λz=>no (.inl z)⟩
 refine⟨hy,?_⟩
 cases ed:ds.drop i with
 |nil=>
  rw[ed]at ec
  unfold HN at ec
  split at ec
  .rename_i ok
   cases ec
   left
   obtain⟨ci,ti⟩:=Mi
   have ht':ti=A0::M1.tmp:=ht
   subst ht'
   obtain⟨c',st',rd',pr',sub'⟩:=st2.mQ cf nt ry
   rw[e]at st' rd'
   have eH:upd H2 A0 (.dK ys)=H2:=by
    funext b
    by_cases h:b=A0
    .rw[h,Aw,hy]
    .rw[Aa h]
   rw[eH]at st' rd'
   refine⟨it.stop i H2 _ _ sp st2 ok (vX.mp ed),q _ _ ⟨c',M1.tmp⟩ (g1.trans ⟨st1.mo,gx.pre.trans pr',rfl,λa z=>?_,gx.keep,gx.some⟩) st' rd'⟩
   rcases sub' a z with z|z
   .exact gx.fresh a z
   .subst z;exact .inr hD
  .cases ec
 |cons d rest=>
  obtain⟨d1,d2,d3⟩:=JZ ed
  rw[ed]at ec
  unfold HN at ec
  split at ec
  .rename_i ok
   split at ec
   .rename_i hz
    obtain⟨E3,e4,ec⟩:=An ec
    obtain⟨⟨w5,S5⟩,e5,ec⟩:=An ec
    right
    refine⟨it.go i H2 Mi Si sp st2 ok d3,by rw[ry.length];exact hz,λx H3 hyl=>?_⟩
    obtain⟨k3,rx⟩:=it.yld i H2 Mi Si x H3 d sp st2 ok d1 hyl
    have g3:Gr Mi H2 Mi H3:=.grow st2.mo k3
    have st3:=st2.grow k3
    refine⟨Mi,d,Ei,E3,Si,e4,r2.step g3.st,st3,rx,λσ4 r4=>?_⟩
    have hA:A0∈Mi.tmp:=by rw[ht];exact qH
    have hy3:H3 A0=Gc (.dK ys):=k3 _ _ hy
    have ry3:BZ K Mi H3 ys acc:=ry.step g3.st
    have fin:∀{E6:En} {S6:Sto} {M6:Ms} {H6:Hp} {zs:List (Key×V)} {acc6:List (Key×D)},HN gs t c fk fv rest acc6 E6 S6=Gc (accf,Sf)->GrX M1 H1 M6 H6->M6.tmp=A0::M1.tmp->EnR K M6 E6 σ4 H6->StR K M6 S6 H6->H6 A0=Gc (.dK zs)->BZ K M6 H6 zs acc6->
      ∃m',m'<ds.length-i/\(m'=ds.length-(i+1)/\∃Ei Si Mi acc,HN gs t c fk fv (ds.drop (i+1)) acc Ei Si=Gc (accf,Sf)/\GrX M1 H1 Mi H6/\Mi.tmp=A0::M1.tmp/\EnR K Mi Ei σ4 H6/\StR K Mi Si H6/\H6 A0=Gc (.dK zs)/\BZ K Mi H6 zs acc):=
     λ{E6 S6 M6 H6 zs acc6} ec g6 t6 r6 st6 h6 y6=>⟨_,by lia,rfl,E6,S6,M6,acc6,by rw[d2];exact ec,g6,t6,r6,st6,h6,y6⟩
    dsimp only at ec
    split at ec
    .obtain⟨⟨w7,S7⟩,e7,ec⟩:=An ec
     obtain⟨⟨w9,S9⟩,e9,ec⟩:=An ec
     obtain⟨kk,ek,ec⟩:=An ec
     refine⟨Mi,E3,Si,true,S5,e5,r4,st3,λH5 M5 g5 st5=>?_⟩
     refine Yp ?_
     refine⟨M5,E3,S5,w7,S7,e7,r4.step g5.st,st5,λy H7 M7 g7 st7 d7=>?_⟩
     refine⟨M7,E3,S7,w9,S9,e9,(r4.step g5.st).step g7.st,st7,λy9 H9 M9 g9 st9 d9=>?_⟩
     have nA:∀{M6:Ms} {H6:Hp} {S6:Sto},StR K M6 S6 H6->A0∈M6.tmp->A0∉M6.cel:=λr6 h6=>r6.nt A0 h6
     have hA5:A0∈M5.tmp:=by rw[g5.tmp];exact hA
     have hA7:A0∈M7.tmp:=by rw[g7.tmp];exact hA5
     have hA9:A0∈M9.tmp:=by rw[g9.tmp];exact hA7
     have hy5:H5 A0=Gc (.dK ys):=g5.keep _ _ hy3 (nA st3 hA)
     have hy7:H7 A0=Gc (.dK ys):=g7.keep _ _ hy5 (nA st5 hA5)
     have hy9:H9 A0=Gc (.dK ys):=g9.keep _ _ hy7 (nA st7 hA7)
     have ry9:BZ K M9 H9 ys acc:=((ry3.step g5.st).step g7.st).step g9.st
     refine⟨kk,Q4 d7 ek,hy9,?_⟩
     obtain⟨st8,s8⟩:=st9.X0 (ys:=putK ys kk y9) hA9
     have gx7:GrX M1 H1 M9 H9:=(((gx.trans g3.x).trans g5.x).trans g7.x).trans g9.x
     have gx8:GrX M1 H1 M9 (upd H9 A0 (.dK (putK ys kk y9))):=⟨gx7.pre,gx7.fresh,λa o eo no=>by
      rw[Aa (λz=>by subst z;rw[hD]at eo;cases eo)]
      exact gx7.keep a o eo no,λa ea=>by
      by_cases h:a=A0
      .subst h;rw[Aw];intro z;cases z
      .rw[Aa h];exact gx7.some a ea⟩
     exact fin ec gx8 (by rw[g9.tmp,g7.tmp,g5.tmp];exact ht) ((((r4.step g5.st).step g7.st).step g9.st).step s8) st8 Aw ((ry9.put d9).step s8)
    .refine⟨Mi,E3,Si,false,S5,e5,r4,st3,λH5 M5 g5 st5=>?_⟩
     refine Zk ?_
     exact fin ec ((gx.trans g3.x).trans g5.x) (by rw[g5.tmp];exact ht) (r4.step g5.st) st5 (g5.keep _ _ hy3 (st3.nt A0 hA)) (ry3.step g5.st)
    .cases ec
   .cases ec
  .cases ec
noncomputable def nT:rO->List tT
 | .Assign _ (.DictComp _ _ gs s _) _=>s::gs.flatMap λg=>scE 29 g.iter
 |st=>scS 20 st
noncomputable def Wf(st:rO)(k:Nat):tT:=((Em st).flatMap nT).getD k (AK st)
section
variable{X:Cx}{N':List Str}{cf:qk}{scope:tT}{kx vx tg iter:qh}{ifs:List qh}{pos:Pos}{s:Sr}{t:Tf}{c fk fv:Ev}
theorem Qs(cap:List Nat)(m:Nat)(N':List Str)(hc:X.calm=true)(S:AS X.N X.env.scope N' (ixC cap m) scope)(hi:DI X tg iter s)(hb:∀(s:pX) (H:Hp) (fp:List pz),DG (Cp X N' scope s H fp) tg t/\DTs (Cp X N' scope s H fp) ifs c/\DE (Cp X N' scope s H fp) kx fk/\DE (Cp X N' scope s H fp) vx fv)(hs:∀x,foldedSetIterable iter X.env x=pure x:=by intro _;rfl):DE X (.DictComp kx vx [⟨tg,iter,ifs,0⟩] scope pos) (Oj cf cap m s t c fk fv):=⟨
 BQ (YK hc S hi.pe (λs H fp=>⟨(hb s H fp).1.pe,(hb s H fp).2.1.pe,(hb s H fp).2.2.1.pe,(hb s H fp).2.2.2.pe⟩) hs) λσ H Q z=>YX z⟩
end
end Mi
end
noncomputable section
namespace Mi
open PySem PySem.Spec L2 PyProof.Rows
section
variable{X:Cx}
theorem T8:∀(l:List qk),(qR l.length).any (λi=>l.getD i true)=l.any id
 | []=>rfl
 |b::l=>by
  rw[qg,wM,sV,List.any_map,sV,<-T8 l]
  rfl
theorem Ss(hc:X.calm=true):Ds X (.builtin "any") (λxs H Q=>∃(p:pz) (bs:List qk),xs=[.ref p]/\SqL X.K H p (bs.map V.bl)/\Q (.bl (bs.any id)) H):=by
 intro pins s σ H xs us Q I r h
 obtain⟨p,bs,rfl,hp,q⟩:=h
 obtain⟨u,rfl,ru⟩:=r.one
 cases (show u=qz p from ru)
 obtain⟨its,rv,pl,hz⟩:=I.list hp
 have hd:X.A.in1.handled=none:=I.ok.hd hc
 refine call_any_walk (sM pl.isList ?_)
 have hlen:bs.length=its.length:=by have:=rv.length;simpa using this
 have hpl:=pl.isList
 have hne:p≠s.heap.objs.size:=by
  obtain⟨o,ho,_⟩:=hpl
  exact qN (qI ho)
 refine⟨s.heap.objs.size,_,_,its.length,_,_,λi=>bs.getD i true,rfl,St.Jr (vs:=its) hd hne,⟨⟨_,qG _ rfl,rfl,rfl⟩,?_⟩,?_,?_⟩
 .obtain⟨o,ho,r⟩:=hpl
  exact⟨o,pU _ ho,r⟩
 .intro i v s' Q' E' hv hq
  have hi:i<its.length:=(qF.mp hv).1
  have hb:(bs.map V.bl)[i]?=Gc (.bl (bs.getD i true)):=by
   rw[qf,pf (by lia)]
   simp[qJ,pf (show i<bs.length by lia)]
  obtain⟨u,hu,ru⟩:=rv.get hb
  rw[hv]at hu
  cases hu
  cases (show v=xM _ from ru)
  exact ua hq
 .intro h' tk hk
  rw[<-hlen,T8]
  exact⟨.bl _,H,I.kept (t':=tk) λb o eb=>hk b o (by simp;exact qN (qI eb)) (pU _ eb),rfl,q⟩
noncomputable def gu:Op1:=λw=>(asL w).bind λds=>(bls ds).map λbs=>.val (.bl (bs.any id))
theorem Um(hc:X.calm=true):Ds X (.builtin "any") (rN X.K (o1 gu)):=by
 intro pins s σ H xs us Q I r h
 obtain⟨M,ws,w,e,mo,sh,q⟩:=h
 obtain⟨v,w1,rfl,rfl,s1,e1⟩:=GA sh e
 unfold gu at e1
 cases e2:asL w1 with
 |none=>rw[e2]at e1;cases e1
 |some ds=>
  rw[e2]at e1
  simp only[uy]at e1
  cases e3:bls ds with
  |none=>rw[e3]at e1;cases e1
  |some bs=>
   rw[e3]at e1
   cases e1
   obtain⟨a,ys,rfl,h3,h4⟩:=s1.l e2
   exact Ss hc pins s σ H _ us Q I r ⟨a,bs,rfl,by rw[<-P4 h4 e3];exact .of h3,q _ _ (.same mo (.bl _))⟩
end
end Mi
end
noncomputable section
namespace L2
open PySem PySem.Spec PyProof.Rows PySem.SeqAt
open AutoSeq1 (wpAny_loadPart')
open MeetsSeq
theorem OI(l:pz)(dt:xU)(dd:pY pz)(sl:qd (pY pW)):Meets (sQ.«dict.__eq__» ⟨[.ref l,.none],[]⟩) (λ_ R s=>s.heap.get? l=Gc (MR dt dd sl)/\R (.ok (.ret .notImplemented)) s):=
 .of_wp λprog w A R s h=>by obtain⟨hp,g,d,tk,os⟩:=s;obtain⟨hl,h⟩:=h;have f1:=F.sub_NoneType_dict;wp_walk using wpAny_loadPart' hl;exact⟨_,rfl,h⟩
section
variable{A:qx}{s:pX}{l:pz}{es:qd DictEntry}{ep:Nat}{dd:pY pz}{sl:qd (pY pW)}
theorem QE(b:Int)(u:Tok)(ho:s.heap.get? l=Gc (MR (.dict es ep) dd sl))(hu:A.units<cLine):RcAt A s (.int b u) (.ref l) false:=λprog w E Q h=>
 yW (k:=false) (vW s b u) ⟨_,ho,rfl⟩ (by decide) F.sub_dict_int F.slot_int_eq t7
  (λ_ hq=>uO F.slot_int_eq (vW s b u) F.entry_int_eq (F.args_int_eq_2 _ _) (O3 b u l _ dd sl) ⟨ho,⟨_,_,rfl⟩,hq⟩)
  (λ_ hq=>uO t7 ⟨_,ho,rfl⟩ yt (yX _ _) (Pk l _ dd sl b u) ⟨ho,hq⟩)
  (λ_ hq=>xw (rfl:isSame (.int b u) (.ref l)=pure false) hq) (.inr hu) h
theorem Ox(ho:s.heap.get? l=Gc (MR (.dict es ep) dd sl))(hu:A.units<cLine):RcAt A s .none (.ref l) false:=λprog w E Q h=>
 yW (k:=false) rfl ⟨_,ho,rfl⟩ (by decide) F.sub_dict_NoneType AAI t7
  (λ_ hq=>call_gives AAI rfl F.entry_NoneType_eq (F.args_NoneType_eq_2 _ _) (NoneType___eq___none_ref_0 l) hq)
  (λ_ hq=>uO t7 ⟨_,ho,rfl⟩ yt (yX _ _) (OI l _ dd sl) ⟨ho,hq⟩)
  (λ_ hq=>xw (rfl:isSame .none (.ref l)=pure false) hq) (.inr hu) h
theorem OQ{b:pz}{items:qd pW}(ho:s.heap.get? l=Gc (MR (.dict es ep) dd sl))(hb:s.heap.IsTuple b items)(hu:A.units<cLine):RcAt A s (.ref b) (.ref l) false:=λprog w E Q h=>by
 obtain⟨⟨cls,dd2,data,sl2⟩,ho2,hc,n,hd⟩:=id hb
 simp only at hc hd
 subst hc hd
 have hne:b≠l:=λe=>by subst e;rw[ho]at ho2;exact absurd (congrArg Obj.cls (rG ho2)) (by simp[MR])
 exact yW (k:=false) ⟨_,ho2,rfl⟩ ⟨_,ho,rfl⟩ (by decide) F.sub_dict_tuple F.slot_tuple_eq t7
  (λ_ hq=>uO F.slot_tuple_eq ⟨_,ho2,rfl⟩ F.entry_tuple_eq (F.args_tuple_eq_2 _ _) (MT b l items n dd2 sl2 _ dd sl) ⟨ho2,ho,hq⟩)
  (λ_ hq=>uO t7 ⟨_,ho,rfl⟩ yt (yX _ _) (Pe "tuple" l b _ dd sl _ rfl F.sub_tuple_dict) ⟨ho,ho2,hq⟩)
  (λ_ hq=>wpAny_isSame_ref_other' hne ho2 ho (by simp) hq) (.inr hu) h
end
end L2
namespace Mi
open PySem PySem.Spec L2
section
variable{X:Cx}
noncomputable def Qa:St.Kd->St.Kd->qk
 | .int,.lst=>true| .int,.tup=>true| .int,.dct=>true| .non,.lst=>true| .non,.tup=>true| .non,.dct=>true| .tup,.lst=>true| .tup,.dct=>true
 |_,_=>false
noncomputable def UE:Op2:=λa b=>if Dq (fz a) (fz b)=true then Gc (.val (.bl (deq (fz a) (fz b))))else(kdW a).bind λk=>(kdW b).bind λj=>if Qa k j=true then Gc (.val (.bl false))else none
theorem Yy(hu:X.A.units+100<cLine):OpR X (compareOp .Eq) (rOp X.K UE):=by
 intro pins s σ H x y v u Q I rx ry h
 obtain⟨M,w1,w2,r,e,mo,s1,s2,q⟩:=h
 unfold UE at e
 split at e
 .rename_i hk
  exact BU hu pins s σ H x y v u Q I rx ry ⟨M,w1,w2,r,by unfold wEq;rw[qc hk];exact e,mo,s1,s2,q⟩
 .obtain⟨k,e1,e⟩:=An e
  obtain⟨j,e2,e⟩:=An e
  split at e
  .rename_i hk
   cases e
   have fin:EP X pins σ Q (.bool false) s:=⟨.bl false,H,I,rfl,q _ _ (.same mo (.bl _))⟩
   have L:∀{w:Wv} {x:V} {v:pW},Sh X.K M H x w->RelV x v->kdW w=Gc .lst->∃a items,v=.ref a/\s.heap.IsList a items:=λ{w} {x} {v} s1 rx e1=>by
    cases w with
    |own ds=>
     obtain⟨a,ys,rfl,h1,_⟩:=s1
     cases (show v=qz a from rx)
     obtain⟨its,_,o,n,h2,h3,h4⟩:=Gp I (.inl h1)
     exact⟨a,_,rfl,o,h2,h3,n,h4⟩
    |val d=>
     have s1':C5 X.K M H x d:=s1
     cases s1' with
     |lst h n rr=>
      rename_i a ys ds
      cases (show v=qz a from rx)
      obtain⟨its,_,o,n,h2,h3,h4⟩:=Gp I (.inl h)
      exact⟨a,_,rfl,o,h2,h3,n,h4⟩
     |_=>cases e1
   have T:∀{w:Wv} {x:V} {v:pW},Sh X.K M H x w->RelV x v->kdW w=Gc .tup->∃a items,v=.ref a/\s.heap.IsTuple a items:=λ{w} {x} {v} s1 rx e1=>by
    cases w with
    |own ds=>cases e1
    |val d=>
     have s1':C5 X.K M H x d:=s1
     cases s1' with
     |tup h rr=>
      rename_i a ys ds
      cases (show v=qz a from rx)
      obtain⟨its,_,h1,_⟩:=I.tuple h
      exact⟨a,_,rfl,h1⟩
     |_=>cases e1
   have J:∀{w:Wv} {x:V} {v:pW},Sh X.K M H x w->RelV x v->kdW w=Gc .int->∃i t,v=.int i t:=λ{w} {x} {v} s1 rx e1=>by
    cases w with
    |own ds=>cases e1
    |val d=>
     have s1':C5 X.K M H x d:=s1
     cases s1' with
     |int i=>obtain⟨t,q⟩:=(show∃t,v=vc i t from rx);exact⟨i,t,q⟩
     |_=>cases e1
   have D:∀{w:Wv} {x:V} {v:pW},Sh X.K M H x w->RelV x v->kdW w=Gc .dct->∃a es ep dd sl,v=.ref a/\s.heap.get? a=Gc (MR (.dict es ep) dd sl):=λ{w} {x} {v} s1 rx e1=>by
    cases w with
    |own ds=>cases e1
    |val d=>
     have s1':C5 X.K M H x d:=s1
     cases s1' with
     |dct h n rr=>
      rename_i a kvs es
      cases (show v=qz a from rx)
      obtain⟨_,_,vs,_,p⟩:=(show D3 X.prog X.w H s.heap a (.dK kvs)from I.hok a _ h)
      obtain⟨⟨oc,od,odt,osl⟩,es,ep,h1,⟨h2,_⟩,h3,_⟩:=p
      simp only at h2 h3
      subst h2 h3
      exact⟨a,es,ep,od,osl,rfl,h1⟩
     |_=>cases e1
   have N:∀{w:Wv} {x:V} {v:pW},Sh X.K M H x w->RelV x v->kdW w=Gc .non->v=.none:=λ{w} {x} {v} s1 rx e1=>by
    cases w with
    |own ds=>cases e1
    |val d=>
     have s1':C5 X.K M H x d:=s1
     cases s1' with
     |non=>exact rx
     |_=>cases e1
   have hu':X.A.units<cLine:=by lia
   unfold Qa at hk
   split at hk
   .obtain⟨i,t,rfl⟩:=J s1 rx e1
    obtain⟨a,it,rfl,ha⟩:=L s2 ry e2
    exact SeqAt.RcAt.int_list i t ha hu' X.prog X.w _ _ fin
   .obtain⟨i,t,rfl⟩:=J s1 rx e1
    obtain⟨a,it,rfl,ha⟩:=T s2 ry e2
    exact SeqAt.RcAt.int_tuple i t ha hu' X.prog X.w _ _ fin
   .obtain⟨i,t,rfl⟩:=J s1 rx e1
    obtain⟨a,es,ep,dd,sl,rfl,ha⟩:=D s2 ry e2
    exact QE i t ha hu' X.prog X.w _ _ fin
   .obtain rfl:=N s1 rx e1
    obtain⟨a,it,rfl,ha⟩:=L s2 ry e2
    exact SeqAt.RcAt.none_list ha hu' X.prog X.w _ _ fin
   .obtain rfl:=N s1 rx e1
    obtain⟨a,it,rfl,ha⟩:=T s2 ry e2
    exact SeqAt.RcAt.none_tuple ha hu' X.prog X.w _ _ fin
   .obtain rfl:=N s1 rx e1
    obtain⟨a,es,ep,dd,sl,rfl,ha⟩:=D s2 ry e2
    exact Ox ha hu' X.prog X.w _ _ fin
   .obtain⟨a,it,rfl,ha⟩:=T s1 rx e1
    obtain⟨b,it2,rfl,hb⟩:=L s2 ry e2
    exact SeqAt.RcAt.tuple_list ha hb hu' X.prog X.w _ _ fin
   .obtain⟨b,it,rfl,hb⟩:=T s1 rx e1
    obtain⟨a,es,ep,dd,sl,rfl,ha⟩:=D s2 ry e2
    exact OQ ha hb hu' X.prog X.w _ _ fin
   .cases hk
  .cases e
end
section
open PyProof.Rows (boot_isinstance boot_int boot_bool boot_tuple boot_str boot_list boot_abs boot_all boot_any boot_sum boot_max boot_min boot_range boot_enumerate boot_zip boot_sorted boot_set boot_divmod)
def J2:Ex:=(BR (GG (eOp (o2 Jj) [eV 0,eC (.ty "int")]) (ZQ (eOp (o2 Jj) [eV 0,eC (.ty "bool")]))))
def F3:Fn:=BE (BH 1 J2)
def IM:Ex:=(BR (GG (eOp (o2 wLt) [eV 1,eOp (o1 HP) [eV 0]]) (eOp (o2 wGe) [eIx (eIx (eV 0) (eV 1)) (eI 1),eV 2])))
def CA:Fn:=BE (BH 3 IM)
def KA:Ex:=(BR (GG (AJ CA [eV 0,eV 1,eI 1]) (GG (AJ CA [eV 0,eV 2,eI 1]) (eOp (o2 wEq) [eIx (eIx (eV 0) (eV 1)) (eI 0),eIx (eIx (eV 0) (eV 2)) (eI 0)]))))
def Fz:Fn:=BE (BH 3 KA)
def KJ:Ex:=(BR (GG (AJ CA [eV 0,eV 1,eV 2]) (eOp (o2 wNe) [eIx (eIx (eV 0) (eV 1)) (eI 0),eV 3])))
def EX:Fn:=BE (BH 4 KJ)
def Dh:Ex:=(AU (A4 3 (eIx (eV 2) (eI 0)))
    (AU (xIf (eOp (o2 wEq) [eV 3,eC (.str "pool")]) (BR (AJ Fz [eV 0,eIx (eV 2) (eI 1),eIx (eV 2) (eI 2)])) CZ)
    (AU (xIf (eOp (o2 wEq) [eV 3,eC (.str "swap")]) (BR (AJ EX [eV 0,eIx (eV 2) (eI 1),eIx (eV 2) (eI 2),eIx (eV 2) (eI 3)])) CZ)
    (AU (xIf (eOp (o2 wEq) [eV 3,eC (.str "trade")]) (AU (A4 4 (Cc [] 1 (Fp (eV 1)) (tNm 0) (eOp (o2 wEq) [eIx (eV 0) (eI 0),eC (.str "trade")]) (eIx (eV 0) (eI 1))))
    (BR (GG (eOp (o2 (wIn true)) [eIx (eV 2) (eI 1),eV 4]) (AJ EX [eV 0,eIx (eV 2) (eI 2),eIx (eV 2) (eI 3),eIx (eV 2) (eI 4)])))) CZ)
    (AU (xIf (eOp (o2 (wIn false)) [eV 3,BL [eC (.str "spoil"),eC (.str "throw")]]) (BR (AJ CA [eV 0,eIx (eV 2) (eI 1),eIx (eV 2) (eI 2)])) CZ)
    (BR (eC (.bl true))))))))
def CF:Fn:=BE (BH 5 Dh)
def HG:Ex:=(AU (Nz (tTp [tNm 3,tNm 4]) (eIx (eV 0) (eV 1)))
    (BR (eOp (o2 Be) [eOp (o2 Be) [eOp (Gm false true) [eV 0,eV 1],GH [BL [eV 3,eOp (o2 MK) [eV 4,eV 2]]]],eOp (Gm true false) [eV 0,eOp (o2 Be) [eV 1,eI 1]]])))
def Bd:Fn:=BE (BH 5 HG)
def BX:Ex:=(AU (A4 2 (eIx (eV 1) (eI 0)))
    (AU (xIf (eOp (o2 wEq) [eV 2,eC (.str "bring")]) (BR (eOp (o2 Be) [eV 0,GH [BL [eIx (eV 1) (eI 2),eIx (eV 1) (eI 3)]]])) CZ)
    (AU (xIf (eOp (o2 wEq) [eV 2,eC (.str "pool")]) (AU (Nz (tTp [tNm 3,tNm 4]) (eIx (eV 0) (eIx (eV 1) (eI 1))))
    (AU (A4 5 (eIx (eIx (eV 0) (eIx (eV 1) (eI 2))) (eI 1)))
    (BR (eOp (o2 Be) [AJ Bd [AJ Bd [eV 0,eIx (eV 1) (eI 1),eV 4],eIx (eV 1) (eI 2),eV 5],GH [BL [eV 3,eOp (o2 Be) [eV 4,eV 5]]]])))) CZ)
    (AU (xIf (eOp (o2 (wIn false)) [eV 2,BL [eC (.str "swap"),eC (.str "trade")]]) (AU (Nz (tTp [tNm 6,tNm 7,tNm 3,tNm 8]) (eOp (Gm true false) [eV 1,eOp (o1 Oe) [eI 4]]))
    (BR (eOp (o2 Be) [AJ Bd [eV 0,eV 6,eV 7],GH [BL [eV 3,eV 8]]]))) CZ)
    (AU (xIf (eOp (o2 (wIn false)) [eV 2,BL [eC (.str "spoil"),eC (.str "throw")]]) (BR (AJ Bd [eV 0,eIx (eV 1) (eI 1),eIx (eV 1) (eI 2)])) CZ)
    (BR (eV 0)))))))
def Au:Fn:=BE (BH 9 BX)
def Gi:Ex:=(BR (Cc [] 1 (Fp (eIx (eV 0) (eI 1))) (tNm 0) By (BL [eIx (eV 0) (eI 0),eIx (eV 0) (eI 1)])))
def CK:Fn:=BE (BH 1 Gi)
def Hq:Ex:=(AU (A4 1 (AJ CK [eV 0]))
    (AU (A4 2 (eIx (eV 0) (eI 2)))
    (AU (IF (Zx (eV 2)) (tTp [tNm 3,tNm 4]) (AU (xIf (ZQ (AJ CF [eV 1,eOp (Gm false true) [eV 2,eV 3],eV 4])) (BR (eV 3)) CZ)
    (A4 1 (AJ Au [eV 1,eV 4]))))
    (BR (eC .non)))))
def Dz:Fn:=BE (BH 5 Hq)
def GN:Ex:=(AU (A4 1 (AJ Dz [eV 0]))
    (xIf (eOp (o2 (Of true)) [eV 1,eC .non]) ZX CZ))
def CU:Fn:=BE (BH 2 GN)
def HC:Ex:=(AU (xIf (eOp (o2 wLt) [eV 1,eOp (o1 HP) [eV 0]]) (BR (eIx (eV 0) (eV 1))) CZ)
    (BR (eI 0)))
def C2:Fn:=BE (BH 2 HC)
def O1:Ex:=(BR (HQ [eV 0,eOp (o1 YO) [eOp (o2 wGe) [eV 0,eOp (o2 aU) [eI 10,eI 18]]],eI 0,eOp (o2 P2) [eV 0,eI 1000000007]]))
def Hv:Fn:=BE (BH 1 O1)
def IC:Ex:=(AU (xIf (GG (eOp (o2 wEq) [eIx (eV 0) (eI 1),eI 1]) (eOp (o2 wGt) [eIx (eV 0) (eI 0),eI 0])) (AU (A4 2 (eOp (o2 P2) [eIx (eV 0) (eI 0),eV 1]))
    (AU (Od (eOp (o2 QC) [eIx (eV 0) (eI 0),eV 1]) (eV 0) (eI 0))
    (BR (eV 2)))) CZ)
    (AU (Od (eOp (o2 Be) [eIx (eV 0) (eI 2),eI 1]) (eV 0) (eI 2))
    (AU (A4 3 (eOp (o2 P2) [eOp (o2 HB) [eOp (o2 Be) [eIx (eV 0) (eI 3),eI 17],eOp (o2 Be) [eI 69621,eOp (o2 HB) [eI 2,eIx (eV 0) (eI 2)]]],eI 2147483647]))
    (AU (A4 3 (eOp (o2 P2) [eOp (o2 Be) [eOp (o2 Be) [eOp (o2 HB) [eV 3,eV 3],eOp (o2 HB) [eI 40503,eIx (eV 0) (eI 2)]],eI 5],eI 2147483629]))
    (BR (eOp (o2 P2) [eOp (o2 QC) [eOp (o2 P2) [eOp (o2 HB) [eV 3,eI 48271],eI 2147483647],eI 32],eV 1]))))))
def AH:Fn:=BE (BH 4 IC)
def J3:Ex:=(AU (Vc (bA 1) (eOp (o2 wGt) [eV 1,eI 0]) (Rg 0 1 (eV 1) (eOp (o2 P2) [eV 0,eV 1])))
    (BR (eV 0)))
def Fx:Fn:=BE (BH 2 J3)
def Mw:Ex:=(AU (A4 2 (AJ Fx [eOp (o1 jT) [eV 0],eV 1]))
    (BR (BL [eOp (o2 QC) [eV 0,eV 2],eOp (o2 QC) [eV 1,eV 2]])))
def Bm:Fn:=BE (BH 3 Mw)
def My:Ex:=(BR (AJ Bm [eOp (o2 Be) [eOp (o2 HB) [eIx (eV 0) (eI 0),eIx (eV 1) (eI 1)],eOp (o2 HB) [eIx (eV 1) (eI 0),eIx (eV 0) (eI 1)]],eOp (o2 HB) [eIx (eV 0) (eI 1),eIx (eV 1) (eI 1)]]))
def CN:Fn:=BE (BH 2 My)
def LV:Ex:=(BR (AJ Bm [eOp (o2 HB) [eIx (eV 0) (eI 0),eIx (eV 1) (eI 0)],eOp (o2 HB) [eIx (eV 0) (eI 1),eIx (eV 1) (eI 1)]]))
def A1:Fn:=BE (BH 2 LV)
def M8:Ex:=(BR (AJ CN [eV 0,BL [eOp (o2 MK) [eI 0,eIx (eV 1) (eI 0)],eIx (eV 1) (eI 1)]]))
def Dp:Fn:=BE (BH 2 M8)
def Ib:Ex:=(AU (A4 2 (Yr [0] 1 (K8 [eV 1]) (tNm 1) By (eIx (GH [eI 0,eI 1,AJ AH [eV 0,eI 4],AJ AH [eV 0,eI 9]]) (AJ AH [eV 0,eI 4]))))
    (AU (xIf (eOp (o2 wEq) [eOp (o1 ZY) [eV 2],eI 0]) (Od (eI 1) (eV 2) (AJ AH [eV 0,eV 1])) CZ)
    (BR (eOp (o1 Cj) [Cc [2] 1 (Fp (eV 2)) (tNm 1) By (AJ Bm [eV 1,eOp (o1 ZY) [eV 0]])]))))
def De:Fn:=BE (BH 3 Ib)
def HX:Ex:=(AU (A4 1 (eOp (o2 Be) [eOp (o2 aU) [eI 10,eI 30],AJ AH [eV 0,eI 99]]))
    (BR (eIx (GH [eOp (o2 Be) [eI 1,AJ AH [eV 0,eI 4]],eOp (o2 Be) [eI 1,AJ AH [eV 0,eI 40]],eOp (o2 Be) [eI 1,AJ AH [eV 0,eI 999]],eV 1]) (eOp (o2 QC) [AJ AH [eV 0,eI 7],eI 2]))))
def BF:Fn:=BE (BH 2 HX)
def LZ:Ex:=(AU (Rg 1 2 (eOp (o2 Be) [eI 1,AJ AH [eV 0,eI 4]]) (eOp (o2 Be) [eI 1,AJ AH [eV 0,eI 5]]))
    (AU (A4 3 (eIx (GH [eOp (o2 Be) [eI 1,AJ AH [eV 0,eI 3]],eOp (o2 Be) [eI 1,AJ AH [eV 0,eI 20]]]) (AJ AH [eV 0,eI 2])))
    (BR (BL [eV 1,eV 2,eV 3,AJ De [eV 0,eV 1],AJ AH [eV 0,eI 10],AJ AH [eV 0,eI 10]]))))
def Gv:Fn:=BE (BH 4 LZ)
def LU:Ex:=(AU (A4 2 (HQ []))
    (AU (IF (K8 [eIx (GH [eI 0,eI 1,AJ AH [eV 0,eI 5]]) (AJ AH [eV 0,eI 3])]) (tNm 3) (Cb (Jv Ka (eV 2) [BL [AJ AH [eV 0,eIx (eV 1) (eI 1)],AJ BF [eV 0],AJ De [eV 0,eIx (eV 1) (eI 0)]]])))
    (BR (eOp (o1 Cj) [eV 2]))))
def G6:Fn:=BE (BH 4 LU)
def Lh:Ex:=(AU (A4 1 (eOp (o2 Be) [eI 1,AJ AH [eV 0,eI 12]]))
    (BR (AJ Bm [eOp (o2 Be) [eI 1,AJ AH [eV 0,eV 1]],eV 1])))
def FW:Fn:=BE (BH 2 Lh)
def KD:Ex:=(BR (eOp (o1 Cj) [Cc [0] 1 (K8 [eV 1]) (tNm 1) By (eOp (o2 Be) [eI 1,eIx (GH [AJ AH [eV 0,eI 3],AJ AH [eV 0,eI 99]]) (AJ AH [eV 0,eI 2])])]))
def Dl:Fn:=BE (BH 2 KD)
def LH:Ex:=(BR (HQ [Yr [] 1 (Fp (eIx (eV 0) (eI 1))) (tNm 0) By (cn (o1 Jq) [eV 0]),eOp (o1 Cj) [eIx (eIx (eV 0) (eI 0)) (eI 3)],HQ []]))
def Cv:Fn:=BE (BH 1 LH)
def KU:Ex:=(AU (A4 2 (HQ []))
    (AU (IF (cx (eIx (eV 0) (eI 2)) (eIx (eV 1) (eI 2))) (tTp [tNm 3,tNm 4]) (AU (A4 5 (AJ CN [AJ A1 [BL [eIx (eV 0) (eI 1),eI 1],eV 3],AJ A1 [BL [eIx (eV 1) (eI 1),eI 1],eV 4]]))
    (Cb (Jv Ka (eV 2) [AJ A1 [eV 5,AJ Bm [eI 1,eOp (o2 Be) [eIx (eV 0) (eI 1),eIx (eV 1) (eI 1)]]]]))))
    (BR (eOp (o1 Cj) [eV 2]))))
def F1:Fn:=BE (BH 6 KU)
def Mp:Ex:=(AU (A4 3 (eIx (eV 2) (eI 3)))
    (AU (A4 4 (eOp (o2 Be) [eOp (o1 ZY) [Cc [3] 3 (Fp (eV 1)) (tTp [tNm 1,tNm 2,tNm 3]) By (eOp (o2 HB) [eV 2,eIx (eV 0) (eV 1)])],eOp (o2 HB) [eIx (eV 0) (eI 2),eIx (eV 3) (eOp (o1 Oe) [eI 1])]]))
    (BR (AJ Bm [eOp (o2 HB) [eIx (eV 2) (eI 2),eIx (eV 3) (eIx (eIx (eV 1) (eIx (eV 2) (eI 1))) (eI 0))],eV 4]))))
def Hz:Fn:=BE (BH 5 Mp)
def Lp:Ex:=(AU (A4 3 (HQ []))
    (AU (IF (cx (eV 0) (eV 2)) (tTp [tNm 4,tNm 5]) (Cb (Jv Ka (eV 3) [AJ CN [AJ A1 [eV 4,AJ Dp [BL [eI 1,eI 1],eV 1]],AJ A1 [eV 5,eV 1]]])))
    (BR (eOp (o1 Cj) [eV 3]))))
def EA:Fn:=BE (BH 6 Lp)
def NM:Ex:=(AU (A4 2 (cn (o1 Jq) [eV 0]))
    (AU (A4 3 (AJ A1 [eIx (eV 2) (eIx (eV 1) (eI 1)),eIx (eV 1) (eI 3)]))
    (AU (Od (AJ Dp [eIx (eV 2) (eIx (eV 1) (eI 1)),eV 3]) (eV 2) (eIx (eV 1) (eI 1)))
    (AU (Od (AJ CN [eIx (eV 2) (eIx (eV 1) (eI 2)),eV 3]) (eV 2) (eIx (eV 1) (eI 2)))
    (BR (eOp (o1 Cj) [eV 2]))))))
def FD:Fn:=BE (BH 4 NM)
def Jx:Ex:=(AU (Nz (tTp [tNm 3,tNm 4,tNm 5]) (eV 1))
    (xIf (eOp (o2 wEq) [eIx (eV 2) (eI 0),eC (.str "throw")]) (AU (Rg 6 7 (AJ Hz [eV 0,eV 3,eV 2]) (eIx (eIx (eV 3) (eIx (eV 2) (eI 1))) (eI 2)))
    (AU (Od (eOp (o2 MK) [eIx (eIx (eV 3) (eIx (eV 2) (eI 1))) (eI 1),eIx (eV 2) (eI 2)]) (eIx (eV 3) (eIx (eV 2) (eI 1))) (eI 1))
    (AU (IF (Fp (eV 3)) (tNm 8) (Od (AJ EA [eIx (eV 8) (eI 2),eV 6,eV 7]) (eV 8) (eI 2)))
    (Od (AJ EA [eV 4,eV 6,eV 7]) (eV 1) (eI 1))))) (AU (IF (Fp (eV 3)) (tNm 8) (Od (AJ FD [eIx (eV 8) (eI 2),eV 2]) (eV 8) (eI 2)))
    (Od (AJ FD [eV 4,eV 2]) (eV 1) (eI 1)))))
def FF:Fn:=BE (BH 9 Jx)
def Fs:Ex:=(AU (Nz (tTp [tNm 3,tNm 4,tNm 5]) (eV 1))
    (AU (A4 6 (eIx (eV 2) (eI 0)))
    (xIf (eOp (o2 wEq) [eV 6,eC (.str "bring")]) (Cb (Jv Ka (eV 3) [HQ [eIx (eV 2) (eI 2),eIx (eV 2) (eI 3),eOp (o1 Cj) [Cc [2] 1 (K8 [eIx (eV 0) (eI 0)]) (tNm 1) By (BL [eOp (o1 YO) [eOp (o2 wEq) [eV 1,eIx (eV 0) (eI 1)]],eI 1])]]])) (xIf (eOp (o2 wEq) [eV 6,eC (.str "pool")]) (AU (Rg 7 8 (eIx (eV 3) (eIx (eV 2) (eI 1))) (eIx (eV 3) (eIx (eV 2) (eI 2))))
    (AU (Cb (Jv Ka (eV 3) [HQ [eIx (eV 7) (eI 0),eOp (o2 Be) [eIx (eV 7) (eI 1),eIx (eV 8) (eI 1)],AJ F1 [eV 7,eV 8]]]))
    (AU (Od (eI 0) (eV 7) (eI 1))
    (Od (eI 0) (eV 8) (eI 1))))) (xIf (eOp (o2 (wIn false)) [eV 6,BL [eC (.str "swap"),eC (.str "trade")]]) (AU (Nz (tTp [tNm 9,tNm 10,tNm 11,tNm 12]) (eOp (Gm true false) [eV 2,eOp (o1 Oe) [eI 4]]))
    (AU (Od (eOp (o2 MK) [eIx (eIx (eV 3) (eV 9)) (eI 1),eV 10]) (eIx (eV 3) (eV 9)) (eI 1))
    (AU (Cb (Jv Ka (eV 3) [HQ [eV 11,eV 12,eIx (eIx (eV 3) (eV 9)) (eI 2)]]))
    (Cb (Jv ie (eV 5) [eOp (o2 HB) [eOp (Gm true true) [eV 2,eI 1,eI 2],eOp (o1 YO) [eOp (o2 wEq) [eV 6,eC (.str "trade")]]]]))))) (xIf (eOp (o2 wEq) [eV 6,eC (.str "spoil")]) (Od (eOp (o2 MK) [eIx (eIx (eV 3) (eIx (eV 2) (eI 1))) (eI 1),eIx (eV 2) (eI 2)]) (eIx (eV 3) (eIx (eV 2) (eI 1))) (eI 1)) (Cb (AJ FF [eV 0,eV 1,eV 2]))))))))
def A5:Fn:=BE (BH 13 Fs)
def NR:Ex:=(AU (Nz (tTp [tNm 3,tNm 4,tNm 5]) (eV 2))
    (AU (A4 6 (Cc [] 2 (Zx (eV 3)) (tTp [tNm 0,tNm 1]) (eOp (o2 wGt) [eIx (eV 1) (eI 1),eI 0]) (eV 0)))
    (AU (A4 7 (AJ AH [eV 0,eI 12]))
    (AU (xIf (eOr (eOp (o2 wLt) [eV 7,eI 2]) (eOp (o2 wEq) [eV 6,GH []])) (BR (BL [eC (.str "bring"),AJ AH [eV 0,eIx (eV 1) (eI 0)],AJ AH [eV 0,eIx (eV 1) (eI 1)],AJ BF [eV 0]])) CZ)
    (AU (A4 8 (eIx (eV 6) (AJ AH [eV 0,eOp (o1 HP) [eV 6]])))
    (AU (A4 9 (eOp (o2 Be) [eI 1,AJ AH [eV 0,eOp (o2 Y6) [eIx (eIx (eV 3) (eV 8)) (eI 1),eI 2000]]]))
    (AU (xIf (eOp (o2 wLt) [eV 7,eI 5]) (AU (A4 10 (Cc [3,8] 1 (Fp (eV 6)) (tNm 2) (GG (eOp (o2 wNe) [eV 2,eV 1]) (eOp (o2 wEq) [eIx (eIx (eV 0) (eV 2)) (eI 0),eIx (eIx (eV 0) (eV 1)) (eI 0)])) (eV 2)))
    (xIf (eOp (o2 wNe) [eV 10,GH []]) (BR (BL [eC (.str "pool"),eV 8,eIx (eV 10) (AJ AH [eV 0,eOp (o1 HP) [eV 10]])])) CZ)) CZ)
    (AU (xIf (GG (eOp (o2 wLt) [eV 7,eI 8]) (eOp (o2 wGt) [eIx (eV 1) (eI 1),eI 1])) (AU (A4 11 (eOp (o2 P2) [eOp (o2 Be) [eOp (o2 Be) [eIx (eIx (eV 3) (eV 8)) (eI 0),eI 1],AJ AH [eV 0,eOp (o2 MK) [eIx (eV 1) (eI 1),eI 1]]],eIx (eV 1) (eI 1)]))
    (AU (A4 12 (Cc [5] 1 (K8 [eI 10]) (tNm 1) (eOp (o2 (wIn true)) [eV 1,eV 0]) (eV 1)))
    (AU (xIf (GG (eOp (o2 wEq) [eV 7,eI 7]) (eOp (o2 wNe) [eV 12,GH []])) (BR (BL [eC (.str "trade"),eIx (eV 12) (AJ AH [eV 0,eOp (o1 HP) [eV 12]]),eV 8,eV 9,eV 11,AJ BF [eV 0]])) CZ)
    (BR (BL [eC (.str "swap"),eV 8,eV 9,eV 11,AJ BF [eV 0]]))))) CZ)
    (AU (xIf (eOp (o2 wEq) [eV 7,eI 8]) (BR (BL [eC (.str "spoil"),eV 8,eV 9])) CZ)
    (AU (xIf (GG (eOp (o2 wEq) [eV 7,eI 9]) (eOp (o2 wGt) [eIx (eV 1) (eI 0),eI 1])) (AU (A4 13 (AJ AH [eV 0,eIx (eV 1) (eI 0)]))
    (BR (BL [eC (.str "sell"),eV 13,eOp (o2 P2) [eOp (o2 Be) [eOp (o2 Be) [eV 13,eI 1],AJ AH [eV 0,eOp (o2 MK) [eIx (eV 1) (eI 0),eI 1]]],eIx (eV 1) (eI 0)],AJ FW [eV 0]]))) CZ)
    (BR (BL [eC (.str "throw"),eV 8,eV 9,AJ Dl [eV 0,eOp (o2 Be) [eIx (eV 1) (eI 1),eI 1]]]))))))))))))
def EH:Fn:=BE (BH 14 NR)
def Mh:Ex:=(AU (A4 2 (AJ Gv [eV 0]))
    (AU (A4 3 (AJ G6 [eV 0,eV 2]))
    (AU (Rg 4 5 (AJ Cv [BL [eV 2,eV 3,BL []]]) (HQ []))
    (AU (IF (K8 [AJ AH [eV 0,eOp (o2 Be) [eV 1,eI 1]]]) (tNm 6) (AU (A4 7 (AJ EH [eV 0,eV 2,eV 4]))
    (xIf (eOr (eOp (o2 wNe) [eIx (eV 7) (eI 0),eC (.str "throw")]) (eOp (o2 wLt) [eOp (o1 HP) [Cc [] 1 (Fp (eV 5)) (tNm 0) (eOp (o2 wEq) [eIx (eV 0) (eI 0),eC (.str "throw")]) (eV 0)],eI 3])) (AU (Cb (AJ A5 [eV 2,eV 4,eV 7]))
    (Cb (Jv Ka (eV 5) [eV 7]))) CZ)))
    (BR (BL [eV 2,eV 3,eOp (o1 Cj) [eV 5]]))))))
def C3:Fn:=BE (BH 8 Mh)
def J1:Ex:=(AU (A4 1 (AJ Cv [eV 0]))
    (AU (A4 2 (HQ [BL [Cc [] 1 (Fp (eIx (eV 1) (eI 0))) (tNm 0) By (eOp (o1 Cj) [eV 0]),eOp (o1 Cj) [eIx (eV 1) (eI 1)]]]))
    (AU (IF (Fp (eIx (eV 0) (eI 2))) (tNm 3) (AU (Cb (AJ A5 [eIx (eV 0) (eI 0),eV 1,eV 3]))
    (Cb (Jv Ka (eV 2) [BL [Cc [] 1 (Fp (eIx (eV 1) (eI 0))) (tNm 0) By (eOp (o1 Cj) [eV 0]),eOp (o1 Cj) [eIx (eV 1) (eI 1)]]]))))
    (BR (eV 2)))))
def EV:Fn:=BE (BH 4 J1)
def GP:Ex:=(AU (A4 2 (HQ []))
    (AU (IF (K8 [eI 10]) (tNm 3) (AU (Rg 4 5 (GW (eV 0) (eV 3)) (GW (eV 1) (eV 3))) (xIf (GG (eOp (o2 (Of false)) [eV 4,eC .non]) (eOp (o2 (Of false)) [eV 5,eC .non])) CZ (xIf (eOr (eOp (o2 (Of false)) [eV 4,eC .non]) (eOr (eOp (o2 (Of false)) [eV 5,eC .non]) (eOp (o2 wNe) [eOp (Gm true false) [eV 4,eI 1],eOp (o2 Be) [eOp (Gm true false) [eV 5,eI 3],eOp (Gm true true) [eV 5,eI 1,eI 3]]]))) (Cb (Jv Ka (eV 2) [BL [eV 3,eV 4,eV 5]])) CZ))))
    (BR (eV 2))))
def CV:Fn:=BE (BH 6 GP)
def KG:Ex:=(AU (A4 1 (eIx (eIx (AJ EV [eV 0]) (eOp (o1 Oe) [eI 1])) (eI 0)))
    (AU (A4 2 (Zs []))
    (AU (IF (Fp (eIx (eV 0) (eI 2))) (tNm 3) (xIf (eOp (o2 wEq) [eIx (eV 3) (eI 0),eC (.str "trade")]) (XB (BL [eIx (eV 3) (eI 1),eIx (eIx (eV 1) (eIx (eV 3) (eI 2))) (eI 0),eIx (eV 3) (eI 3),eIx (eV 3) (eI 4),eIx (eV 3) (eI 5)]) (eV 2) (eIx (eV 3) (eI 1))) CZ))
    (BR (eV 2)))))
def Bl:Fn:=BE (BH 4 KG)
def IW:Ex:=(AU (A4 2 (eIx (eIx (eV 1) (eI 0)) (eI 1)))
    (AU (A4 3 (BL [eI 1,eV 2,eI 1,BL [BL [eI 1,eI 1]],eI 0,eI 0]))
    (AU (A4 4 (HQ []))
    (AU (A4 5 (eSV false (AJ Bl [eV 1])))
    (AU (A4 6 (eOp (o2 MK) [eOp (o1 HP) [eV 5],eOp (o1 YO) [eOp (o2 wEq) [AJ AH [eV 0,eI 4],eI 0]]]))
    (AU (IF (Fp (eOp (Gm false true) [eV 5,eV 6])) (tTp [tNm 7,tNm 8,tNm 9,tNm 10,tNm 11]) (AU (Rg 12 13 (eV 11) (eV 9))
    (AU (xIf (eOp (o2 wEq) [AJ AH [eV 0,eI 6],eI 0]) (A4 12 (eOp (o2 Be) [eV 11,eI 1])) CZ)
    (AU (xIf (eOp (o2 wEq) [AJ AH [eV 0,eI 6],eI 0]) (A4 13 (eOp (o2 Be) [eV 9,eI 1])) CZ)
    (AU (Cb (Jv Ka (eV 4) [BL [eC (.str "bring"),eI 0,eV 10,eV 12]]))
    (Cb (Jv Ka (eV 4) [BL [eC (.str "trade"),eV 7,eOp (o2 MK) [eOp (o1 HP) [eV 4],eI 1],eV 12,eV 8,eV 13]])))))))
    (BR (BL [eV 3,BL [],eOp (o1 Cj) [eOp (Gm false true) [eV 4,eI 20]]]))))))))
def DA:Fn:=BE (BH 14 IW)
def JN:Ex:=(AU (A4 3 (AJ C3 [eV 0,eV 1]))
    (AU (IF (K8 [eI 5]) (tNm 4) (AU (xIf (eOp (o2 wNe) [Cc [2] 1 (Fp (eIx (eV 3) (eI 2))) (tNm 1) (eOp (o2 wEq) [eIx (eV 1) (eI 0),eV 0]) (eV 1),GH []]) (BR (eV 3)) CZ)
    (A4 3 (AJ C3 [eV 0,eV 1]))))
    (BR (eV 3))))
def C0:Fn:=BE (BH 5 JN)
def JI:Ex:=(AU (A4 1 (AJ C0 [eV 0,eI 12,eC (.str "trade")]))
    (AU (Nz (tTp [tNm 2,tNm 3,tNm 4]) (eV 1))
    (AU (xIf (eOp (o2 wEq) [eIx (eV 2) (eI 1),eI 1]) (AU (A4 2 (eOp (o2 Be) [BL [eIx (eV 2) (eI 0),eI 2],eOp (Gm true false) [eV 2,eI 2]]))
    (Nz (tTp [tNm 3,tNm 4]) (BL [BL [],BL []]))) CZ)
    (AU (A4 5 (AJ Cv [BL [eV 2,eV 3,BL []]]))
    (AU (IF (Fp (eV 4)) (tNm 6) (Cb (AJ A5 [eV 2,eV 5,eV 6])))
    (AU (IF (K8 [AJ AH [eV 0,eI 5]]) (tNm 7) (AU (A4 8 (Cc [5] 1 (K8 [eI 6]) (tNm 1) (eOp (o2 (wIn true)) [eV 1,eIx (eV 0) (eI 2)]) (eV 1)))
    (AU (A4 9 (Cc [] 2 (Zx (eIx (eV 5) (eI 0))) (tTp [tNm 0,tNm 1]) (eOp (o2 wGt) [eIx (eV 1) (eI 1),eI 0]) (eV 0)))
    (AU (A4 6 (BL [eC (.str "bring"),eI 0,AJ AH [eV 0,eIx (eV 2) (eI 1)],eOp (o2 Be) [eI 5,AJ AH [eV 0,eI 9]]]))
    (AU (xIf (GG (eOp (o2 wNe) [eV 9,GH []]) (eOp (o2 wNe) [eV 8,GH []])) (AU (A4 10 (eIx (eV 9) (AJ AH [eV 0,eOp (o1 HP) [eV 9]])))
    (AU (A4 11 (eOp (o2 P2) [eOp (o2 Be) [eOp (o2 Be) [eIx (eIx (eIx (eV 5) (eI 0)) (eV 10)) (eI 0),eI 1],AJ AH [eV 0,eOp (o2 MK) [eIx (eV 2) (eI 1),eI 1]]],eIx (eV 2) (eI 1)]))
    (AU (A4 12 (eIx (eV 8) (AJ AH [eV 0,eOp (o1 HP) [eV 8]])))
    (AU (A4 13 (eOp (o2 Be) [eI 1,AJ AH [eV 0,eOp (o2 Y6) [eI 4,eIx (eIx (eIx (eV 5) (eI 0)) (eV 10)) (eI 1)]]]))
    (A4 6 (BL [eC (.str "trade"),eV 12,eV 10,eV 13,eV 11,eOp (o2 Be) [eI 1,AJ AH [eV 0,eI 4]]])))))) CZ)
    (AU (Cb (AJ A5 [eV 2,eV 5,eV 6]))
    (A4 4 (eOp (o2 Be) [eV 4,BL [eV 6]]))))))))
    (BR (BL [eV 2,eV 3,eV 4]))))))))
def B2:Fn:=BE (BH 14 JI)
def Df:Ex:=(AU (xIf (eOp (o2 (Of false)) [eV 0,eC .non]) (BR (eC .non)) CZ)
    (AU (Nz (tTp [tNm 1,tNm 2,tNm 3,tNm 4,tNm 5]) (eV 0))
    (BR (BL [eV 1,eV 4,eV 5,eV 2,eV 3]))))
def BC:Fn:=BE (BH 6 Df)
def L5:Ex:=(AU (A4 2 (AJ CK [eV 0]))
    (AU (IF (Fp (eOp (Gm false true) [eIx (eV 0) (eI 2),eV 1])) (tNm 3) (A4 2 (AJ Au [eV 2,eV 3])))
    (BR (eV 2))))
def Fi:Fn:=BE (BH 4 L5)
def Hb:Ex:=(AU (A4 1 (AJ Fi [eV 0,eOp (o1 HP) [eIx (eV 0) (eI 2)]]))
    (AU (A4 2 (HQ []))
    (AU (IF (Fp (eIx (eV 0) (eI 2))) (tNm 3) (xIf (eOp (o2 wEq) [eIx (eV 3) (eI 0),eC (.str "trade")]) (AU (Nz (tTp [tNm 4,tNm 5,tNm 6,tNm 7,tNm 8]) (eOp (Gm true false) [eV 3,eI 1]))
    (Cb (Jv Ka (eV 2) [BL [eV 4,eIx (eIx (eV 1) (eV 5)) (eI 0),eV 6,eV 7,eV 8]]))) CZ))
    (BR (cn (o1 Qn) [eV 2])))))
def Bv:Fn:=BE (BH 9 Hb)
def HJ:Ex:=(AU (A4 2 (Oj false [] 1 (Fp (AJ Bv [eV 0])) (tNm 0) By (eIx (eV 0) (eI 0)) (eV 0)))
    (AU (A4 3 (Oj false [] 1 (Fp (AJ Bv [eV 1])) (tNm 0) By (eIx (eV 0) (eI 0)) (eV 0)))
    (AU (A4 4 (eOp (o1 wSS) [eOp (o2 Be) [eLK false (eV 2),eLK false (eV 3)]]))
    (AU (A4 5 (Cc [2,3] 1 (Fp (eV 4)) (tNm 2) By (BL [eV 2,GW (eV 0) (eV 2),GW (eV 1) (eV 2)])))
    (BR (Cc [] 1 (Fp (eV 5)) (tNm 0) (eOp (o2 wNe) [eIx (eV 0) (eI 1),AJ BC [eIx (eV 0) (eI 2)]]) (eV 0)))))))
def DX:Fn:=BE (BH 6 HJ)
def FE(rec:Fn):Ex:=(AU (xIf (GG (eOp (o2 Jj) [eV 0,eC (.ty "tuple")]) (eOp (o2 Jj) [eV 1,eC (.ty "tuple")])) (BR (GG (eOp (o2 UE) [eOp (o1 HP) [eV 0],eOp (o1 HP) [eV 1]]) (eOp (o1 fI) [Cc [] 2 (cx (eV 0) (eV 1)) (tTp [tNm 0,tNm 1]) By (AJ rec [eV 0,eV 1])]))) CZ)
    (AU (xIf (eOp (o2 wNe) [eOp (o2 Jj) [eV 0,eC (.ty "bool")],eOp (o2 Jj) [eV 1,eC (.ty "bool")]]) (BR (eC (.bl false))) CZ)
    (BR (eOp (o2 UE) [eV 0,eV 1]))))
def C6:Nat->Fn
 |0=>λ_ _=>none
 |n+1=>BE (BH 2 (FE (C6 n)))
def F5(rec_p_is_same:Fn):Ex:=(BR (GG (eOp (o2 wEq) [eOp (o1 HP) [eV 0],eOp (o1 HP) [eV 1]]) (eOp (o1 fI) [Cc [1] 2 (Zx (eV 0)) (tTp [tNm 1,tNm 2]) By (AJ rec_p_is_same [eV 2,eIx (eV 0) (eV 1)])])))
def Dc(rec_p_are_same:Fn):Ex:=(AU (xIf (eOp (o2 Jj) [eV 1,eC (.ty "tuple")]) (BR (GG (eOp (o2 Jj) [eV 0,eC (.ty "tuple")]) (AJ rec_p_are_same [eV 0,eV 1]))) CZ)
    (AU (xIf (eOp (o2 Jj) [eV 1,eC (.ty "list")]) (BR (GG (eOp (o2 Jj) [eV 0,eC (.ty "list")]) (AJ rec_p_are_same [eV 0,eV 1]))) CZ)
    (AU (xIf (eOp (o2 (Of false)) [eV 1,eC .non]) (BR (eOp (o2 (Of false)) [eV 0,eC .non])) CZ)
    (BR (GG (AJ F3 [eV 0]) (eOp (o2 wEq) [eV 0,eV 1]))))))
def WY:Nat->Fn×Fn
 |0=>(λ_ _=>none,λ_ _=>none)
 |n+1=>(BE (BH 2 (F5 (WY n).2)),BE (BH 2 (Dc (WY n).1)))
def Cy(n:Nat):Fn:=(WY n).2
def Hi:Ex:=(AU (Cb (AJ CU [eV 0]))
    (AU (Cb (AJ CU [eV 1]))
    (BR (eOp (o1 gu) [Cc [2] 1 (Fp (AJ DX [eV 0,eV 1])) (tNm 1) By (AJ (Cy 8) [eV 0,eV 1])]))))
def D0:Fn:=BE (BH 3 Hi)
def L3:Ex:=(AU (A4 4 (eOp (o2 wNe) [Cc [3] 1 (Fp (eV 2)) (tNm 1) (AJ (C6 8) [eV 1,eV 0]) (eV 1),GH []]))
    (AU (A4 5 (AJ D0 [eV 0,eV 1,eV 3]))
    (BR (GG (eOp (o2 Jj) [eV 5,eC (.ty "bool")]) (eOp (o2 wEq) [eV 5,eV 4])))))
def FY:Fn:=BE (BH 6 L3)
def Iu(rec:Fn):Ex:=(AU (A4 2 (AJ AH [eV 0,eI 12]))
    (AU (xIf (eOr (eOp (o2 wLt) [eV 2,eI 8]) (eOp (o2 wEq) [eV 1,eI 0])) (BR (eIx (GH [eC .non,eC (.bl true),eC (.bl false),eI 0,eI 1,eOp (o1 Oe) [eI 1],eI 9,eOp (o2 aU) [eI 10,eI 39],eC (.str ""),eC (.str "a"),BL [],GH []]) (AJ AH [eV 0,eI 12]))) CZ)
    (AU (A4 3 (Cc [0,1] 1 (K8 [AJ AH [eV 0,eI 4]]) (tNm 2) By (AJ rec [eV 0,eOp (o2 MK) [eV 1,eI 1]])))
    (AU (xIf (eOp (o2 wEq) [eV 2,eI 8]) (BR (eV 3)) CZ)
    (AU (xIf (eOp (o2 wEq) [eV 2,eI 9]) (BR (gE [((eC (.str "a")),(eV 3))])) CZ)
    (BR (eOp (o1 Cj) [eV 3])))))))
def BA:Nat->Fn
 |0=>λ_ _=>none
 |n+1=>BE (BH 4 (Iu (BA n)))
def Fq(rec:Fn):Ex:=(AU (xIf (GG (eOp (o2 Jj) [eV 1,eC (.ty "tuple")]) (GG (eOp (o2 wNe) [eV 1,BL []]) (eOp (o2 wGt) [AJ AH [eV 0,eI 6],eI 0]))) (AU (A4 2 (AJ AH [eV 0,eOp (o1 HP) [eV 1]]))
    (BR (eOp (o2 Be) [eOp (o2 Be) [eOp (Gm false true) [eV 1,eV 2],BL [AJ rec [eV 0,eIx (eV 1) (eV 2)]]],eOp (Gm true false) [eV 1,eOp (o2 Be) [eV 2,eI 1]]]))) CZ)
    (AU (A4 3 (AJ AH [eV 0,eI 8]))
    (AU (xIf (GG (eOp (o2 Jj) [eV 1,eC (.ty "tuple")]) (eOp (o2 wLt) [eV 3,eI 4])) (BR (eIx (GH [eOp (o2 Be) [eV 1,eOp (Gm true false) [eV 1,eOp (o1 Oe) [eI 1]]],eOp (Gm false true) [eV 1,eOp (o1 Oe) [eI 1]],eOp (o1 Jq) [eV 1],eOp (o1 gP) [eV 1]]) (eV 3))) CZ)
    (AU (xIf (GG (eOp (o2 Jj) [eV 1,eC (.ty "int")]) (eOp (o2 wLt) [eV 3,eI 4])) (BR (eIx (GH [eOp (o2 Be) [eV 1,eI 1],eOp (o2 MK) [eV 1,eI 1],eOp (o2 wGt) [eV 1,eI 0],eOp (o1 dW) [eV 1]]) (eV 3))) CZ)
    (AU (xIf (GG (eOp (o2 Jj) [eV 1,eC (.ty "str")]) (eOp (o2 wLt) [eV 3,eI 4])) (BR (eIx (GH [eOp (o2 Be) [eV 1,eC (.str "a")],eOp (o1 wUp) [eV 1],eOp (Gm false true) [eV 1,eOp (o1 Oe) [eI 1]],eOp (o2 Be) [eC (.str "1"),eV 1]]) (eV 3))) CZ)
    (BR (AJ (BA 8) [eV 0,eI 2])))))))
def BW:Nat->Fn
 |0=>λ_ _=>none
 |n+1=>BE (BH 4 (Fq (BW n)))
def Sq:Ex:=(AU (IF (K8 [eOp (o2 gr) [eI 1,eOp (o2 Y6) [eOp (o1 HP) [eV 0],eI 2]]]) (tNm 1) (AU (A4 2 (AJ Hv [AJ C2 [eV 0,eV 1]]))
    (AU (A4 3 (AJ B2 [eV 2]))
    (IF (Fp (BL [AJ DA [eV 2,eV 3],AJ B2 [eV 2]])) (tNm 4) (AU (Nz (tTp [tNm 5,tNm 6]) (BL [AJ Bl [eV 3],AJ Bl [eV 4]]))
    (AU (A4 7 (AJ CV [eV 5,eV 6]))
    (AU (A4 8 (eOp (o2 Be) [eV 7,Cc [5,6] 1 (K8 [eI 11]) (tNm 2) By (BL [eV 2,GW (eV 0) (eV 2),GW (eV 1) (eV 2)])]))
    (AU (A4 8 (eOp (o2 Be) [eOp (o2 Be) [eV 8,Cc [] 1 (Fp (eV 7)) (tNm 0) By (BL [eIx (eV 0) (eI 0),eIx (eV 0) (eI 2),eIx (eV 0) (eI 1)])],Cc [] 1 (Fp (eV 7)) (tNm 0) By (eOp (o1 Jq) [eV 0])]))
    (AU (A4 8 (eOp (o2 Be) [eV 8,Cc [2] 1 (Fp (eOp (o2 Be) [eV 7,eV 7])) (tNm 1) By (AJ (BW 8) [eV 0,eV 1])]))
    (IF (Fp (eOp (o2 Be) [eV 8,GH [eC .non,BL [],BL [eI 0,eC .non,eC .non],BL [eC (.bl true),eC .non,eC .non],BL [eI 1,eC .non],AJ (BA 8) [eV 2,eI 3]]])) (tNm 9) (xIf (ZQ (AJ FY [eV 3,eV 4,eV 7,eV 9])) (BR (eC (.bl false))) CZ)))))))))))
    (BR (eC (.bl true))))
def OP:Fn:=BE (BH 10 Sq)
def F2(n:Nat):Fn:=(WY n).1
end
section
open PyProof.Rows (boot_isinstance boot_int boot_bool boot_tuple boot_str boot_list boot_abs boot_all boot_any boot_sum boot_max boot_min boot_range boot_enumerate boot_zip boot_sorted boot_set boot_divmod)
noncomputable def top(i:Nat):rO:=xK.main.body.getD i (.Pass ⟨0,0,0,0⟩)
abbrev Ej:rO:=top 1
abbrev Co:rO:=top 2
abbrev FP:rO:=top 3
abbrev DF:rO:=top 8
abbrev EW:rO:=top 9
abbrev Ea:rO:=top 10
abbrev EC:rO:=top 11
abbrev Cg:rO:=top 12
abbrev Cu:rO:=top 13
abbrev BO:rO:=top 14
abbrev Fm:rO:=top 15
abbrev Cw:rO:=top 16
abbrev CG:rO:=top 17
abbrev Ct:rO:=top 19
abbrev Bs:rO:=top 20
abbrev Al:rO:=top 21
abbrev Bw:rO:=top 22
abbrev HZ:rO:=top 24
abbrev Dt:rO:=top 25
abbrev Gb:rO:=top 26
abbrev Ee:rO:=top 27
abbrev GK:rO:=top 28
abbrev Cf:rO:=top 29
abbrev FU:rO:=top 30
abbrev ET:rO:=top 31
abbrev Fh:rO:=top 32
abbrev Dd:rO:=top 33
abbrev FV:rO:=top 34
abbrev Cq:rO:=top 35
abbrev CW:rO:=top 36
abbrev GY:rO:=top 37
abbrev FR:rO:=top 38
abbrev EO:rO:=top 39
abbrev EF:rO:=top 40
abbrev GJ:rO:=top 41
abbrev Fd:rO:=top 42
abbrev Ge:rO:=top 43
abbrev Gk:rO:=top 44
abbrev G8:rO:=top 45
abbrev EB:rO:=top 46
abbrev Ce:rO:=top 47
abbrev Bh:rO:=top 48
abbrev B1:rO:=top 49
abbrev EN:rO:=top 50
abbrev DJ:rO:=top 51
abbrev CD:rO:=top 52
abbrev DY:rO:=top 53
abbrev EL:rO:=top 54
abbrev D9:rO:=top 55
abbrev DZ:rO:=top 56
abbrev Du:rO:=top 57
section
variable(P:qa)(w:qq)(K:pV)(mg:Str->pY pW)(base:qu)
abbrev KI:Prop:=St.Dfn P w K mg base "is_whole" 1 ["thing"] (spD K 1 F3)
abbrev PL(n:Nat):Prop:=St.Dfn P w K mg base "are_same" (1+n) ["things","told"] (spD K 2 (F2 n))
abbrev Lg(n:Nat):Prop:=St.Dfn P w K mg base "is_same" (1+n) ["thing","told"] (spD K 2 (Cy n))
abbrev EJ:Prop:=St.Dfn P w K mg base "has_pieces" 1 ["held","load","pieces"] (spD K 3 CA)
abbrev KH:Prop:=St.Dfn P w K mg base "can_pool" 2 ["held","load","other"] (spD K 3 Fz)
abbrev KC:Prop:=St.Dfn P w K mg base "can_swap" 2 ["held","load","given","kind"] (spD K 4 EX)
abbrev NJ:Prop:=St.Dfn P w K mg base "can_do" 3 ["held","done","deed"] (spD K 3 CF)
abbrev HE:Prop:=St.Dfn P w K mg base "held_without" 1 ["held","load","pieces"] (spD K 3 Bd)
abbrev FZ:Prop:=St.Dfn P w K mg base "held_behind" 2 ["held","deed"] (spD K 2 Au)
abbrev D8:Prop:=St.Dfn P w K mg base "held_at_first" 1 ["book"] (spD K 1 CK)
abbrev Lb:Prop:=St.Dfn P w K mg base "held_by" 3 ["book","many"] (spD K 2 Fi)
abbrev Hw:Prop:=St.Dfn P w K mg base "first_wrong" 4 ["book"] (spD K 1 Dz)
abbrev Gg:Prop:=St.Dfn P w K mg base "refuse_undone" 5 ["book"] (spD K 1 CU)
abbrev HU:Prop:=St.Dfn P w K mg base "trades_told" 4 ["book"] (spD K 1 Bv)
abbrev FN:Prop:=St.Dfn P w K mg base "seen_from_there" 1 ["trade"] (spD K 1 BC)
abbrev HK:Prop:=St.Dfn P w K mg base "clashes_told" 5 ["book","other"] (spD K 2 DX)
abbrev HR:Prop:=St.Dfn P w K mg base "clash_holds" 10 ["book","other","thing"] (spD K 3 D0)
abbrev O0:Prop:=St.Dfn P w K mg base "_law_pen" 1 ["_law_cell"] (spD K 1 Hv)
abbrev JY:Prop:=St.Dfn P w K mg base "_law_cell_at" 1 ["_law_script","_law_k"] (spD K 2 C2)
abbrev Bn:Prop:=St.Dfn P w K mg base "_law_draw" 1 ["_law_pen_here","_law_bound"] (spD K 2 AH)
abbrev J8:Prop:=St.Dfn P w K mg base "_law_common" 1 ["_law_one","_law_other"] (spD K 2 Fx)
abbrev EG:Prop:=St.Dfn P w K mg base "_law_made" 2 ["_law_top","_law_bottom"] (spD K 2 Bm)
abbrev IZ:Prop:=St.Dfn P w K mg base "_law_whole" 3 ["_law_pen_here","_law_many"] (spD K 2 De)
abbrev MC:Prop:=St.Dfn P w K mg base "_law_train" 4 ["_law_pen_here"] (spD K 1 Gv)
abbrev Ha:Prop:=St.Dfn P w K mg base "_law_pieces" 2 ["_law_pen_here"] (spD K 1 BF)
abbrev Ly:Prop:=St.Dfn P w K mg base "_law_first" 4 ["_law_pen_here","_law_train_here"] (spD K 2 G6)
abbrev G4:Prop:=St.Dfn P w K mg base "_law_begun" 1 ["_law_book_here"] (spD K 1 Cv)
abbrev Li:Prop:=St.Dfn P w K mg base "_law_share" 3 ["_law_pen_here"] (spD K 1 FW)
abbrev KZ:Prop:=St.Dfn P w K mg base "_law_worths" 2 ["_law_pen_here","_law_many"] (spD K 2 Dl)
abbrev NT:Prop:=St.Dfn P w K mg base "_law_deed" 4 ["_law_pen_here","_law_train_here","_law_state"] (spD K 3 EH)
abbrev Gf:Prop:=St.Dfn P w K mg base "_law_plus" 3 ["_law_one","_law_other"] (spD K 2 CN)
abbrev Gz:Prop:=St.Dfn P w K mg base "_law_times" 3 ["_law_one","_law_other"] (spD K 2 A1)
abbrev J6:Prop:=St.Dfn P w K mg base "_law_pooled" 4 ["_law_one","_law_other"] (spD K 2 F1)
abbrev Mt:Prop:=St.Dfn P w K mg base "_law_cost" 3 ["_law_train_here","_law_loads","_law_deed_here"] (spD K 3 Hz)
abbrev Ju:Prop:=St.Dfn P w K mg base "_law_less" 4 ["_law_one","_law_other"] (spD K 2 Dp)
abbrev MA:Prop:=St.Dfn P w K mg base "_law_borne" 5 ["_law_shares","_law_part","_law_owners"] (spD K 3 EA)
abbrev NI:Prop:=St.Dfn P w K mg base "_law_sold" 5 ["_law_shares","_law_deed_here"] (spD K 2 FD)
abbrev NN:Prop:=St.Dfn P w K mg base "_law_turn" 6 ["_law_train_here","_law_state","_law_deed_here"] (spD K 3 FF)
abbrev K4:Prop:=St.Dfn P w K mg base "_law_do" 7 ["_law_train_here","_law_state","_law_deed_here"] (spD K 3 A5)
abbrev Mq:Prop:=St.Dfn P w K mg base "_law_book" 8 ["_law_pen_here","_law_most"] (spD K 2 C3)
abbrev JJ:Prop:=St.Dfn P w K mg base "_law_book_of" 9 ["_law_pen_here","_law_most","_law_word"] (spD K 3 C0)
abbrev JW:Prop:=St.Dfn P w K mg base "_law_trading" 10 ["_law_pen_here"] (spD K 1 B2)
abbrev KP:Prop:=St.Dfn P w K mg base "_law_states" 8 ["_law_book_here"] (spD K 1 EV)
abbrev Hx:Prop:=St.Dfn P w K mg base "_law_trades" 9 ["_law_book_here"] (spD K 1 Bl)
abbrev IJ:Prop:=St.Dfn P w K mg base "_law_mirrored" 10 ["_law_pen_here","_law_book_here"] (spD K 2 DA)
abbrev GZ:Prop:=St.Dfn P w K mg base "_law_all_clashes" 1 ["_law_mine","_law_its"] (spD K 2 CV)
abbrev LN(n:Nat):Prop:=St.Dfn P w K mg base "_law_thing" (2+n) ["_law_pen_here","_law_deep"] (spD K 2 (BA n))
abbrev Pt(n:Nat):Prop:=St.Dfn P w K mg base "_law_spoilt" (11+n) ["_law_pen_here","_law_thing_here"] (spD K 2 (BW n))
abbrev SU(n:Nat):Prop:=St.Dfn P w K mg base "_law_same" (1+n) ["_law_one","_law_other"] (spD K 2 (C6 n))
abbrev Lr:Prop:=St.Dfn P w K mg base "_law_is_so" 11 ["_law_book_here","_law_other","_law_rows","_law_thing_here"] (spD K 4 FY)
end
structure Bts(mg:Str->pY pW):Prop where
 abs:mg "abs"=none
 all:mg "all"=none
 any:mg "any"=none
 bool:mg "bool"=none
 enumerate:mg "enumerate"=none
 int:mg "int"=none
 isi:mg "isinstance"=none
 len:mg "len"=none
 list:mg "list"=none
 max:mg "max"=none
 min:mg "min"=none
 range:mg "range"=none
 set:mg "set"=none
 sorted:mg "sorted"=none
 str:mg "str"=none
 sum:mg "sum"=none
 tuple:mg "tuple"=none
 zip:mg "zip"=none
end
section
open PyProof.Rows (boot_isinstance boot_int boot_bool boot_tuple boot_str boot_list boot_abs boot_all boot_any boot_sum boot_max boot_min boot_range boot_enumerate boot_zip boot_sorted boot_set boot_divmod)
variable{P:qa}{w:qq}{K:pV}{mg:Str->pY pW}{base:qu}
theorem OW:AX ["thing"] ["thing"] (AK Ej):=scM
theorem Dr  (S:St.Src K mg "is_whole" Ej)(B:Bts mg):KI P w K mg base:=by
 refine dfM 0 S OW λhr hu=>?_
 exact(AL (AW (HH (Ab Br rfl B.isi rM (AA (AB 0) (AA (Iw rfl B.int zU) AD))) (He (fQ (Ab Br rfl B.isi rM (AA (AB 0) (AA (Iw rfl B.bool boot_bool) AD))))))))
theorem Nb:AX ["things","told"] ["things","told"] (AK Co):=scM
theorem Ll:AS ["things","told"] (AK Co) ["told","at","thing"] (ixC [1] 2) (KR Co 0):=csM
theorem Hu:(["told","at","thing"]:List Str).Nodup:=by decide+kernel
theorem Oi:AX ["thing","told"] ["thing","told"] (AK FP):=scM
theorem fZ(S_p_are_same:St.Src K mg "are_same" Co)(S_p_is_same:St.Src K mg "is_same" FP)(B:Bts mg)(Dr:KI P w K mg base):∀n:Nat,n<=8->PL P w K mg base n/\Lg P w K mg base n
 |0,_=>⟨Ja S_p_are_same (λf fd F=>F.binds λ_ _ _ _ _ _ us hl=>match us,hl with| [_,_],_=>rfl),Ja S_p_is_same (λf fd F=>F.binds λ_ _ _ _ _ _ us hl=>match us,hl with| [_,_],_=>rfl)⟩
 |n+1,hn=>by
  obtain⟨d_p_are_same,d_p_is_same⟩:=fZ S_p_are_same S_p_is_same B Dr n (by omega)
  refine⟨?_,?_⟩
  .refine dfM (1+n) S_p_are_same Nb λhr hu=>?_
   exact(AL (AW (HH (Eb (BU hu) (Ab BY rfl B.len t8 (AA (AB 0) AD)) (Ab BY rfl B.len t8 (AA (AB 1) AD))) (He (Ab (Pb rfl) rfl B.all boot_all (AA (CP [1] 2 ["told","at","thing"] rfl Ll (Q7 rfl B.enumerate (AB 0)) (λs H fp=>⟨GB rfl (AO (Aj 1 Hu) (AO (Aj 2 Hu) CB)),CJ,deM d_p_is_same hr (AA (AB 2) (AA (AM Ae (AB 0) (AB 1)) AD))⟩)) AD))))))
  .refine dfM (1+n) S_p_is_same Oi λhr hu=>?_
   exact(AG (Bo (HS (Ab Br rfl B.isi rM (AA (AB 1) (AA (Iw rfl B.tuple rh) AD)))) (AL (AW (HH (Ab Br rfl B.isi rM (AA (AB 0) (AA (Iw rfl B.tuple rh) AD))) (He (deM d_p_are_same hr (AA (AB 0) (AA (AB 1) AD))))))) Ap)
    (AG (Bo (HS (Ab Br rfl B.isi rM (AA (AB 1) (AA (Iw rfl B.list xJ) AD)))) (AL (AW (HH (Ab Br rfl B.isi rM (AA (AB 0) (AA (Iw rfl B.list xJ) AD))) (He (deM d_p_are_same hr (AA (AB 0) (AA (AB 1) AD))))))) Ap)
    (AG (Bo (Ai Ik (AB 1) Ef) (AL (AW (Eb Ik (AB 0) Ef))) Ap)
    (AL (AW (HH (deM Dr hr (AA (AB 0) AD)) (He (Eb (BU hu) (AB 0) (AB 1)))))))))
theorem LJ:AX ["held","load","pieces"] ["held","load","pieces"] (AK DF):=scM
theorem A3  (S:St.Src K mg "has_pieces" DF)(B:Bts mg):EJ P w K mg base:=by
 refine dfM 0 S LJ λhr hu=>?_
 exact(AL (AW (HH (Eb IT (AB 1) (Ab BY rfl B.len t8 (AA (AB 0) AD))) (He (Eb ZW (AM Ae (AM Ae (AB 0) (AB 1)) AE) (AB 2))))))
theorem N3:AX ["held","load","other"] ["held","load","other"] (AK EW):=scM
theorem Eh  (S:St.Src K mg "can_pool" EW)(A3:EJ P w K mg base):KH P w K mg base:=by
 refine dfM 1 S N3 λhr hu=>?_
 exact(AL (AW (HH (deM A3 hr (AA (AB 0) (AA (AB 1) (AA AE AD)))) (HH (deM A3 hr (AA (AB 0) (AA (AB 2) (AA AE AD)))) (He (Eb (BU hu) (AM Ae (AM Ae (AB 0) (AB 1)) AE) (AM Ae (AM Ae (AB 0) (AB 2)) AE)))))))
theorem Nl:AX ["held","load","given","kind"] ["held","load","given","kind"] (AK Ea):=scM
theorem Di  (S:St.Src K mg "can_swap" Ea)(A3:EJ P w K mg base):KC P w K mg base:=by
 refine dfM 1 S Nl λhr hu=>?_
 exact(AL (AW (HH (deM A3 hr (AA (AB 0) (AA (AB 1) (AA (AB 2) AD)))) (He (Eb (Gj hu) (AM Ae (AM Ae (AB 0) (AB 1)) AE) (AB 3))))))
end
section
open PyProof.Rows (boot_isinstance boot_int boot_bool boot_tuple boot_str boot_list boot_abs boot_all boot_any boot_sum boot_max boot_min boot_range boot_enumerate boot_zip boot_sorted boot_set boot_divmod)
variable{P:qa}{w:qq}{K:pV}{mg:Str->pY pW}{base:qu}
theorem Ii:AX ["held","done","deed","word","numbers"] ["held","done","deed"] (AK EC):=scM
theorem OU:AS ["held","done","deed","word","numbers"] (AK EC) ["other"] (ixC [] 1) (KR EC 0):=csM
theorem Nd:(["other"]:List Str).Nodup:=by decide+kernel
theorem GX  (S:St.Src K mg "can_do" EC)(A3:EJ P w K mg base)(Eh:KH P w K mg base)(Di:KC P w K mg base):NJ P w K mg base:=by
 refine dfM 2 S Ii λhr hu=>?_
 exact(AG (Ac 3 (AM Ae (AB 2) AE) Ii.nd)
      (AG (Bo (Ai (BU hu) (AB 3) BI) (AL (AW (deM Eh hr (AA (AB 0) (AA (AM Ae (AB 2) AE) (AA (AM Ae (AB 2) AE) AD)))))) Ap)
      (AG (Bo (Ai (BU hu) (AB 3) BI) (AL (AW (deM Di hr (AA (AB 0) (AA (AM Ae (AB 2) AE) (AA (AM Ae (AB 2) AE) (AA (AM Ae (AB 2) AE) AD))))))) Ap)
      (AG (Bo (Ai (BU hu) (AB 3) BI) (AG (Dk [] 1 ["other"] rfl Ii.nd rfl rfl OU (B7 (AB 1)) (λs H fp=>⟨Aj 0 Nd,GD (Ai (BU hu) (AM Ae (AB 0) AE) BI),AM Ae (AB 0) AE⟩))
      (AL (AW (HH (Eb MG (AM Ae (AB 2) AE) (AB 4)) (He (deM Di hr (AA (AB 0) (AA (AM Ae (AB 2) AE) (AA (AM Ae (AB 2) AE) (AA (AM Ae (AB 2) AE) AD)))))))))) Ap)
      (AG (Bo (Ai RC (AB 3) (Ak (AA BI (AA BI AD)))) (AL (AW (deM A3 hr (AA (AB 0) (AA (AM Ae (AB 2) AE) (AA (AM Ae (AB 2) AE) AD)))))) Ap)
      (AL (AW P5)))))))
theorem D7:AX ["held","load","pieces","kind","there"] ["held","load","pieces"] (AK Cg):=scM
theorem BM  (S:St.Src K mg "held_without" Cg):HE P w K mg base:=by
 refine dfM 0 S D7 λhr hu=>?_
 exact(AG (HI (AM Ae (AB 0) (AB 1)) (GB rfl (AO (Aj 3 D7.nd) (AO (Aj 4 D7.nd) CB))))
      (AL (AW (Ag AY (Ag AY (Hj (AB 0) (AB 1)) (BS (AA (Ak (AA (AB 3) (AA (Ag Eo (AB 4) (AB 2)) AD))) AD))) (G7 (AB 0) (Ag AY (AB 1) AE))))))
theorem A8:AX ["held","deed","word","kind","pieces","more","load","given","got"] ["held","deed"] (AK Cu):=scM
theorem BV  (S:St.Src K mg "held_behind" Cu)(BM:HE P w K mg base):FZ P w K mg base:=by
 refine dfM 1 S A8 λhr hu=>?_
 exact(AG (Ac 2 (AM Ae (AB 1) AE) A8.nd)
      (AG (Bo (Ai (BU hu) (AB 2) BI) (AL (AW (Ag AY (AB 0) (BS (AA (Ak (AA (AM Ae (AB 1) AE) (AA (AM Ae (AB 1) AE) AD))) AD))))) Ap)
      (AG (Bo (Ai (BU hu) (AB 2) BI) (AG (HI (AM Ae (AB 0) (AM Ae (AB 1) AE)) (GB rfl (AO (Aj 3 A8.nd) (AO (Aj 4 A8.nd) CB))))
      (AG (Ac 5 (AM Ae (AM Ae (AB 0) (AM Ae (AB 1) AE)) AE) A8.nd)
      (AL (AW (Ag AY (deM BM hr (AA (deM BM hr (AA (AB 0) (AA (AM Ae (AB 1) AE) (AA (AB 4) AD)))) (AA (AM Ae (AB 1) AE) (AA (AB 5) AD)))) (BS (AA (Ak (AA (AB 3) (AA (Ag AY (AB 4) (AB 5)) AD))) AD))))))) Ap)
      (AG (Bo (Ai RC (AB 2) (Ak (AA BI (AA BI AD)))) (AG (HI (G7 (AB 1) (Oq Hk AE)) (GB rfl (AO (Aj 6 A8.nd) (AO (Aj 7 A8.nd) (AO (Aj 3 A8.nd) (AO (Aj 8 A8.nd) CB))))))
      (AL (AW (Ag AY (deM BM hr (AA (AB 0) (AA (AB 6) (AA (AB 7) AD)))) (BS (AA (Ak (AA (AB 3) (AA (AB 8) AD))) AD)))))) Ap)
      (AG (Bo (Ai RC (AB 2) (Ak (AA BI (AA BI AD)))) (AL (AW (deM BM hr (AA (AB 0) (AA (AM Ae (AB 1) AE) (AA (AM Ae (AB 1) AE) AD)))))) Ap)
      (AL (AW (AB 0))))))))
theorem JP:AX ["book"] ["book"] (AK BO):=scM
theorem IH:AS ["book"] (AK BO) ["load"] (ixC [] 1) (KR BO 0):=csM
theorem II:(["load"]:List Str).Nodup:=by decide+kernel
theorem BD  (S:St.Src K mg "held_at_first" BO):D8 P w K mg base:=by
 refine dfM 0 S JP λhr hu=>?_
 exact(AL (AW (CP [] 1 ["load"] rfl IH (B7 (AM Ae (AB 0) AE)) (λs H fp=>⟨Aj 0 II,CJ,Ak (AA (AM Ae (AB 0) AE) (AA (AM Ae (AB 0) AE) AD))⟩))))
theorem Fv:AX ["book","many","held","deed"] ["book","many"] (AK Fm):=scM
theorem Fg  (S:St.Src K mg "held_by" Fm)(BV:FZ P w K mg base)(BD:D8 P w K mg base):Lb P w K mg base:=by
 refine dfM 2 S Fv λhr hu=>?_
 exact(AG (Ac 2 (deM BD hr (AA (AB 0) AD)) Fv.nd)
      (AG (D5 qv rfl (B7 (Hj (AM Ae (AB 0) AE) (AB 1))) (Aj 3 Fv.nd) (AL (Ac 2 (deM BV hr (AA (AB 2) (AA (AB 3) AD))) Fv.nd)))
      (AL (AW (AB 2)))))
theorem Bx:AX ["book","held","deeds","at","deed"] ["book"] (AK Cw):=scM
theorem Cz  (S:St.Src K mg "first_wrong" Cw)(B:Bts mg)(GX:NJ P w K mg base)(BV:FZ P w K mg base)(BD:D8 P w K mg base):Hw P w K mg base:=by
 refine dfM 3 S Bx λhr hu=>?_
 exact(AG (Ac 1 (deM BD hr (AA (AB 0) AD)) Bx.nd)
      (AG (Ac 2 (AM Ae (AB 0) AE) Bx.nd)
      (AG (D5 qv rfl (Q7 rfl B.enumerate (AB 2)) (GB rfl (AO (Aj 3 Bx.nd) (AO (Aj 4 Bx.nd) CB))) (AG (Bo (Zi (HS (deM GX hr (AA (AB 1) (AA (Hj (AB 2) (AB 3)) (AA (AB 4) AD)))))) (AL (AW (AB 3))) Ap)
      (AL (Ac 1 (deM BV hr (AA (AB 1) (AA (AB 4) AD))) Bx.nd))))
      (AL (AW Ef)))))
end
section
open PyProof.Rows (boot_isinstance boot_int boot_bool boot_tuple boot_str boot_list boot_abs boot_all boot_any boot_sum boot_max boot_min boot_range boot_enumerate boot_zip boot_sorted boot_set boot_divmod)
variable{P:qa}{w:qq}{K:pV}{mg:Str->pY pW}{base:qu}
theorem Fw:AX ["book","wrong"] ["book"] (AK CG):=scM
theorem Bp  (S:St.Src K mg "refuse_undone" CG)(Cz:Hw P w K mg base):Gg P w K mg base:=by
 refine dfM 4 S Fw λhr hu=>?_
 exact(AG (Ac 1 (deM Cz hr (AA (AB 0) AD)) Fw.nd)
      (AL (Bo (Ai YQ (AB 1) Ef) (AL Wh) Ap)))
theorem A7:AX ["book","held","trades","deed","number","load","given","other","got"] ["book"] (AK Ct):=scM
theorem CM  (S:St.Src K mg "trades_told" Ct)(B:Bts mg)(Fg:Lb P w K mg base):HU P w K mg base:=by
 refine dfM 3 S A7 λhr hu=>?_
 exact(AG (Ac 1 (deM Fg hr (AA (AB 0) (AA (Ab BY rfl B.len t8 (AA (AM Ae (AB 0) AE) AD)) AD))) A7.nd)
      (AG (Ac 2 (BS AD) A7.nd)
      (AG (D5 qv rfl (B7 (AM Ae (AB 0) AE)) (Aj 3 A7.nd) (AL (Bo (Ai (BU hu) (AM Ae (AB 3) AE) BI) (AG (HI (G7 (AB 3) AE) (GB rfl (AO (Aj 4 A7.nd) (AO (Aj 5 A7.nd) (AO (Aj 6 A7.nd) (AO (Aj 7 A7.nd) (AO (Aj 8 A7.nd) CB)))))))
      (AL (CQ (GS qo qt Es (AB 2) (AA (Ak (AA (AB 4) (AA (AM Ae (AM Ae (AB 1) (AB 5)) AE) (AA (AB 6) (AA (AB 7) (AA (AB 8) AD)))))) AD))))) Ap)))
      (AL (AW (Ab (Rt rfl) rfl B.sorted boot_sorted (AA (AB 2) AD)))))))
theorem BK:AX ["trade","number","kind","given","other","got"] ["trade"] (AK Bs):=scM
theorem Bu  (S:St.Src K mg "seen_from_there" Bs):FN P w K mg base:=by
 refine dfM 0 S BK λhr hu=>?_
 exact(AG (Bo (Ai Ik (AB 0) Ef) (AL (AW Ef)) Ap)
      (AG (HI (AB 0) (GB rfl (AO (Aj 1 BK.nd) (AO (Aj 2 BK.nd) (AO (Aj 3 BK.nd) (AO (Aj 4 BK.nd) (AO (Aj 5 BK.nd) CB)))))))
      (AL (AW (Ak (AA (AB 1) (AA (AB 4) (AA (AB 5) (AA (AB 2) (AA (AB 3) AD))))))))))
theorem CI:AX ["book","other","mine","theirs","numbers","pairs"] ["book","other"] (AK Al):=scM
theorem Iy:AS ["book","other","mine","theirs","numbers","pairs"] (AK Al) ["trade"] (ixC [] 1) (Wf Al 0):=csM
theorem Ij:(["trade"]:List Str).Nodup:=by decide+kernel
theorem Ie:AS ["book","other","mine","theirs","numbers","pairs"] (AK Al) ["trade"] (ixC [] 1) (Wf Al 1):=csM
theorem Ih:(["trade"]:List Str).Nodup:=by decide+kernel
theorem Im:AS ["book","other","mine","theirs","numbers","pairs"] (AK Al) ["mine","theirs","number"] (ixC [2,3] 1) (Wf Al 2):=csM
theorem Il:(["mine","theirs","number"]:List Str).Nodup:=by decide+kernel
theorem Ir:AS ["book","other","mine","theirs","numbers","pairs"] (AK Al) ["pair"] (ixC [] 1) (Wf Al 3):=csM
theorem Io:(["pair"]:List Str).Nodup:=by decide+kernel
theorem Ci  (S:St.Src K mg "clashes_told" Al)(B:Bts mg)(CM:HU P w K mg base)(Bu:FN P w K mg base):HK P w K mg base:=by
 refine dfM 4 S CI λhr hu=>?_
 exact(AG (Ac 2 (Qs [] 1 ["trade"] rfl Iy (B7 (deM CM hr (AA (AB 0) AD))) (λs H fp=>⟨Aj 0 Ij,CJ,AM Ae (AB 0) AE,AB 0⟩)) CI.nd)
      (AG (Ac 3 (Qs [] 1 ["trade"] rfl Ie (B7 (deM CM hr (AA (AB 1) AD))) (λs H fp=>⟨Aj 0 Ih,CJ,AM Ae (AB 0) AE,AB 0⟩)) CI.nd)
      (AG (Ac 4 (kj rfl rfl B.sorted rfl B.set (AA (Ag AY (eZ rfl rfl B.list (AA (AB 2) AD)) (eZ rfl rfl B.list (AA (AB 3) AD))) AD)) CI.nd)
      (AG (Dk [2,3] 1 ["mine","theirs","number"] rfl CI.nd rfl rfl Im (B7 (AB 4)) (λs H fp=>⟨Aj 2 Il,CJ,Ak (AA (AB 2) (AA (J0 hu (AB 0) (AB 2) ⟨rfl,rfl,rfl,rfl⟩) (AA (J0 hu (AB 1) (AB 2) ⟨rfl,rfl,rfl,rfl⟩) AD)))⟩))
      (AL (AW (CP [] 1 ["pair"] rfl Ir (B7 (AB 5)) (λs H fp=>⟨Aj 0 Io,GD (Ai (Gj hu) (AM Ae (AB 0) AE) (deM Bu hr (AA (AM Ae (AB 0) AE) AD))),AB 0⟩))))))))
theorem Kc:AX ["book","other","thing"] ["book","other","thing"] (AK Bw):=scM
theorem JH:AS ["book","other","thing"] (AK Bw) ["thing","clash"] (ixC [2] 1) (KR Bw 0):=csM
theorem JQ:(["thing","clash"]:List Str).Nodup:=by decide+kernel
theorem Cr  (S:St.Src K mg "clash_holds" Bw)(B:Bts mg)(d_p_is_same:Lg P w K mg base 8)(Bp:Gg P w K mg base)(Ci:HK P w K mg base):HR P w K mg base:=by
 refine dfM 9 S Kc λhr hu=>?_
 exact(AG (CQ (deM Bp hr (AA (AB 0) AD)))
      (AG (CQ (deM Bp hr (AA (AB 1) AD)))
      (AL (AW (Ab (Um rfl) rfl B.any boot_any (AA (CP [2] 1 ["thing","clash"] rfl JH (B7 (deM Ci hr (AA (AB 0) (AA (AB 1) AD)))) (λs H fp=>⟨Aj 1 JQ,CJ,deM d_p_is_same hr (AA (AB 0) (AA (AB 1) AD))⟩)) AD))))))
theorem Ri:AX ["_law_cell"] ["_law_cell"] (AK HZ):=scM
theorem Hc  (S:St.Src K mg "_law_pen" HZ)(B:Bts mg):O0 P w K mg base:=by
 refine dfM 0 S Ri λhr hu=>?_
 exact(AL (AW (BS (AA (AB 0) (AA (Ay Jh rfl B.int zU (AA (Eb ZW (AB 0) (Ag QA AE AE)) AD)) (AA AE (AA (Ag GF (AB 0) AE) AD)))))))
end
section
open PyProof.Rows (boot_isinstance boot_int boot_bool boot_tuple boot_str boot_list boot_abs boot_all boot_any boot_sum boot_max boot_min boot_range boot_enumerate boot_zip boot_sorted boot_set boot_divmod)
variable{P:qa}{w:qq}{K:pV}{mg:Str->pY pW}{base:qu}
theorem MO:AX ["_law_script","_law_k"] ["_law_script","_law_k"] (AK Dt):=scM
theorem Dw  (S:St.Src K mg "_law_cell_at" Dt)(B:Bts mg):JY P w K mg base:=by
 refine dfM 0 S MO λhr hu=>?_
 exact(AG (Bo (Ai IT (AB 1) (Ab BY rfl B.len t8 (AA (AB 0) AD))) (AL (AW (AM Ae (AB 0) (AB 1)))) Ap)
      (AL (AW AE)))
theorem Gy:AX ["_law_pen_here","_law_bound","_law_found","_law_stir"] ["_law_pen_here","_law_bound"] (AK Gb):=scM
theorem AI  (S:St.Src K mg "_law_draw" Gb):Bn P w K mg base:=by
 refine dfM 0 S Gy λhr hu=>?_
 exact(AG (Bo (DW.dt (GR (Ai (BU hu) (AM Ae (AB 0) AE) AE) (El (Ai J9 (AM Ae (AB 0) AE) AE)))) (AG (Ac 2 (Ag GF (AM Ae (AB 0) AE) (AB 1)) Gy.nd)
      (AG (Ck (Ag JU (AM Ae (AB 0) AE) (AB 1)) (AB 0) AE)
      (AL (AW (AB 2))))) Ap)
      (AG (Ck (Ag AY (AM Ae (AB 0) AE) AE) (AB 0) AE)
      (AG (Ac 3 (Ag GF (Ag Cm (Ag AY (AM Ae (AB 0) AE) AE) (Ag AY AE (Ag Cm AE (AM Ae (AB 0) AE)))) AE) Gy.nd)
      (AG (Ac 3 (Ag GF (Ag AY (Ag AY (Ag Cm (AB 3) (AB 3)) (Ag Cm AE (AM Ae (AB 0) AE))) AE) AE) Gy.nd)
      (AL (AW (Ag GF (Ag JU (Ag GF (Ag Cm (AB 3) AE) AE) AE) (AB 1))))))))
theorem JT:AX ["_law_one","_law_other"] ["_law_one","_law_other"] (AK Ee):=scM
theorem ES  (S:St.Src K mg "_law_common" Ee):J8 P w K mg base:=by
 refine dfM 0 S JT λhr hu=>?_
 exact(AG (Xg (bA 1) qv (Ai J9 (AB 1) AE) (AL (Lx (i:=0) (j:=1) rfl JT.nd rfl rfl (by decide) rfl rfl (AB 1) (Ag GF (AB 0) (AB 1)))))
      (AL (AW (AB 0))))
theorem Lw:AX ["_law_top","_law_bottom","_law_by"] ["_law_top","_law_bottom"] (AK GK):=scM
theorem Az  (S:St.Src K mg "_law_made" GK)(B:Bts mg)(ES:J8 P w K mg base):EG P w K mg base:=by
 refine dfM 1 S Lw λhr hu=>?_
 exact(AG (Ac 2 (deM ES hr (AA (Ab VB rfl B.abs boot_abs (AA (AB 0) AD)) (AA (AB 1) AD))) Lw.nd)
      (AL (AW (Ak (AA (Ag JU (AB 0) (AB 2)) (AA (Ag JU (AB 1) (AB 2)) AD))))))
theorem KQ:AX ["_law_pen_here","_law_many","_law_weights"] ["_law_pen_here","_law_many"] (AK Cf):=scM
theorem MS:AS ["_law_pen_here","_law_many","_law_weights"] (AK Cf) ["_law_pen_here","_law_one"] (ixC [0] 1) (KR Cf 0):=csM
theorem MV:(["_law_pen_here","_law_one"]:List Str).Nodup:=by decide+kernel
theorem MP:AS ["_law_pen_here","_law_many","_law_weights"] (AK Cf) ["_law_weights","_law_weight"] (ixC [2] 1) (KR Cf 1):=csM
theorem Me:(["_law_weights","_law_weight"]:List Str).Nodup:=by decide+kernel
theorem Cs  (S:St.Src K mg "_law_whole" Cf)(B:Bts mg)(AI:Bn P w K mg base)(Az:EG P w K mg base):IZ P w K mg base:=by
 refine dfM 2 S KQ λhr hu=>?_
 exact(AG (Ac 2 (CP [0] 1 ["_law_pen_here","_law_one"] rfl MS (EE rfl B.range (AA (AB 1) AD)) (λs H fp=>⟨Aj 1 MV,CJ,AM Ae (BS (AA AE (AA AE (AA (deM AI hr (AA (AB 0) (AA AE AD))) (AA (deM AI hr (AA (AB 0) (AA AE AD))) AD))))) (deM AI hr (AA (AB 0) (AA AE AD)))⟩)) KQ.nd)
      (AG (Bo (Ai (BU hu) (Ab (LA rfl) rfl B.sum boot_sum (AA (AB 2) AD)) AE) (AL (Ck AE (AB 2) (deM AI hr (AA (AB 0) (AA (AB 1) AD))))) Ap)
      (AL (AW (Ay A9 rfl B.tuple rh (AA (CP [2] 1 ["_law_weights","_law_weight"] rfl MP (B7 (AB 2)) (λs H fp=>⟨Aj 1 Me,CJ,deM Az hr (AA (AB 1) (AA (Ab (LA rfl) rfl B.sum boot_sum (AA (AB 0) AD)) AD))⟩)) AD))))))
theorem Hg:AX ["_law_pen_here","_law_partners","_law_kinds","_law_beasts"] ["_law_pen_here"] (AK FU):=scM
theorem FQ  (S:St.Src K mg "_law_train" FU)(AI:Bn P w K mg base)(Cs:IZ P w K mg base):MC P w K mg base:=by
 refine dfM 3 S Hg λhr hu=>?_
 exact(AG (Lx (i:=1) (j:=2) rfl Hg.nd rfl rfl (by decide) rfl rfl (Ag AY AE (deM AI hr (AA (AB 0) (AA AE AD)))) (Ag AY AE (deM AI hr (AA (AB 0) (AA AE AD)))))
      (AG (Ac 3 (AM Ae (BS (AA (Ag AY AE (deM AI hr (AA (AB 0) (AA AE AD)))) (AA (Ag AY AE (deM AI hr (AA (AB 0) (AA AE AD)))) AD))) (deM AI hr (AA (AB 0) (AA AE AD)))) Hg.nd)
      (AL (AW (Ak (AA (AB 1) (AA (AB 2) (AA (AB 3) (AA (deM Cs hr (AA (AB 0) (AA (AB 1) AD))) (AA (deM AI hr (AA (AB 0) (AA AE AD))) (AA (deM AI hr (AA (AB 0) (AA AE AD))) AD)))))))))))
end
section
open PyProof.Rows (boot_isinstance boot_int boot_bool boot_tuple boot_str boot_list boot_abs boot_all boot_any boot_sum boot_max boot_min boot_range boot_enumerate boot_zip boot_sorted boot_set boot_divmod)
variable{P:qa}{w:qq}{K:pV}{mg:Str->pY pW}{base:qu}
theorem JB:AX ["_law_pen_here","_law_great"] ["_law_pen_here"] (AK ET):=scM
theorem Bj  (S:St.Src K mg "_law_pieces" ET)(AI:Bn P w K mg base):Ha P w K mg base:=by
 refine dfM 1 S JB λhr hu=>?_
 exact(AG (Ac 1 (Ag AY (Ag QA AE AE) (deM AI hr (AA (AB 0) (AA AE AD)))) JB.nd)
      (AL (AW (AM Ae (BS (AA (Ag AY AE (deM AI hr (AA (AB 0) (AA AE AD)))) (AA (Ag AY AE (deM AI hr (AA (AB 0) (AA AE AD)))) (AA (Ag AY AE (deM AI hr (AA (AB 0) (AA AE AD)))) (AA (AB 1) AD))))) (Ag JU (deM AI hr (AA (AB 0) (AA AE AD))) AE)))))
theorem Hm:AX ["_law_pen_here","_law_train_here","_law_found","_law_k"] ["_law_pen_here","_law_train_here"] (AK Fh):=scM
theorem Fc  (S:St.Src K mg "_law_first" Fh)(B:Bts mg)(AI:Bn P w K mg base)(Cs:IZ P w K mg base)(Bj:Ha P w K mg base):Ly P w K mg base:=by
 refine dfM 3 S Hm λhr hu=>?_
 exact(AG (Ac 2 (BS AD) Hm.nd)
      (AG (D5 qv rfl (EE rfl B.range (AA (AM Ae (BS (AA AE (AA AE (AA (deM AI hr (AA (AB 0) (AA AE AD))) AD)))) (deM AI hr (AA (AB 0) (AA AE AD)))) AD)) (Aj 3 Hm.nd) (AL (CQ (GS qo qt Es (AB 2) (AA (Ak (AA (deM AI hr (AA (AB 0) (AA (AM Ae (AB 1) AE) AD))) (AA (deM Bj hr (AA (AB 0) AD)) (AA (deM Cs hr (AA (AB 0) (AA (AM Ae (AB 1) AE) AD))) AD)))) AD)))))
      (AL (AW (Ay A9 rfl B.tuple rh (AA (AB 2) AD))))))
theorem Pg:AX ["_law_book_here"] ["_law_book_here"] (AK Dd):=scM
theorem Mf:AS ["_law_book_here"] (AK Dd) ["_law_load"] (ixC [] 1) (KR Dd 0):=csM
theorem MN:(["_law_load"]:List Str).Nodup:=by decide+kernel
theorem Bt  (S:St.Src K mg "_law_begun" Dd)(B:Bts mg):G4 P w K mg base:=by
 refine dfM 0 S Pg λhr hu=>?_
 exact(AL (AW (BS (AA (CP [] 1 ["_law_load"] rfl Mf (B7 (AM Ae (AB 0) AE)) (λs H fp=>⟨Aj 0 MN,CJ,Ay H0 rfl B.list xJ (AA (AB 0) AD)⟩)) (AA (Ay A9 rfl B.tuple rh (AA (AM Ae (AM Ae (AB 0) AE) AE) AD)) (AA (BS AD) AD))))))
theorem J4:AX ["_law_pen_here","_law_bottom"] ["_law_pen_here"] (AK FV):=scM
theorem FO  (S:St.Src K mg "_law_share" FV)(AI:Bn P w K mg base)(Az:EG P w K mg base):Li P w K mg base:=by
 refine dfM 2 S J4 λhr hu=>?_
 exact(AG (Ac 1 (Ag AY AE (deM AI hr (AA (AB 0) (AA AE AD)))) J4.nd)
      (AL (AW (deM Az hr (AA (Ag AY AE (deM AI hr (AA (AB 0) (AA (AB 1) AD)))) (AA (AB 1) AD))))))
theorem Np:AX ["_law_pen_here","_law_many"] ["_law_pen_here","_law_many"] (AK Cq):=scM
theorem Ln:AS ["_law_pen_here","_law_many"] (AK Cq) ["_law_pen_here","_law_one"] (ixC [0] 1) (KR Cq 0):=csM
theorem LQ:(["_law_pen_here","_law_one"]:List Str).Nodup:=by decide+kernel
theorem EZ  (S:St.Src K mg "_law_worths" Cq)(B:Bts mg)(AI:Bn P w K mg base):KZ P w K mg base:=by
 refine dfM 1 S Np λhr hu=>?_
 exact(AL (AW (Ay A9 rfl B.tuple rh (AA (CP [0] 1 ["_law_pen_here","_law_one"] rfl Ln (EE rfl B.range (AA (AB 1) AD)) (λs H fp=>⟨Aj 1 LQ,CJ,Ag AY AE (AM Ae (BS (AA (deM AI hr (AA (AB 0) (AA AE AD))) (AA (deM AI hr (AA (AB 0) (AA AE AD))) AD))) (deM AI hr (AA (AB 0) (AA AE AD))))⟩)) AD))))
theorem Bc:AX ["_law_pen_here","_law_train_here","_law_state","_law_loads","_law_holders","_law_numbers","_law_full","_law_way","_law_load","_law_some","_law_same_here","_law_kind","_law_left","_law_partner"] ["_law_pen_here","_law_train_here","_law_state"] (AK CW):=scM
theorem OO:AS ["_law_pen_here","_law_train_here","_law_state","_law_loads","_law_holders","_law_numbers","_law_full","_law_way","_law_load","_law_some","_law_same_here","_law_kind","_law_left","_law_partner"] (AK CW) ["_law_at","_law_load"] (ixC [] 2) (KR CW 0):=csM
theorem Je:(["_law_at","_law_load"]:List Str).Nodup:=by decide+kernel
theorem Nk:AS ["_law_pen_here","_law_train_here","_law_state","_law_loads","_law_holders","_law_numbers","_law_full","_law_way","_law_load","_law_some","_law_same_here","_law_kind","_law_left","_law_partner"] (AK CW) ["_law_loads","_law_load","_law_at"] (ixC [3,8] 1) (KR CW 1):=csM
theorem Nc:(["_law_loads","_law_load","_law_at"]:List Str).Nodup:=by decide+kernel
theorem ON:AS ["_law_pen_here","_law_train_here","_law_state","_law_loads","_law_holders","_law_numbers","_law_full","_law_way","_law_load","_law_some","_law_same_here","_law_kind","_law_left","_law_partner"] (AK CW) ["_law_numbers","_law_number"] (ixC [5] 1) (KR CW 2):=csM
theorem OB:(["_law_numbers","_law_number"]:List Str).Nodup:=by decide+kernel
theorem Gh  (S:St.Src K mg "_law_deed" CW)(B:Bts mg)(AI:Bn P w K mg base)(Bj:Ha P w K mg base)(FO:Li P w K mg base)(EZ:KZ P w K mg base):NT P w K mg base:=by
 refine dfM 3 S Bc λhr hu=>?_
 exact(AG (HI (AB 2) (GB rfl (AO (Aj 3 Bc.nd) (AO (Aj 4 Bc.nd) (AO (Aj 5 Bc.nd) CB)))))
      (AG (Dk [] 2 ["_law_at","_law_load"] rfl Bc.nd rfl rfl OO (Q7 rfl B.enumerate (AB 3)) (λs H fp=>⟨GB rfl (AO (Aj 0 Je) (AO (Aj 1 Je) CB)),GD (Ai J9 (AM Ae (AB 1) AE) AE),AB 0⟩))
      (AG (Ac 7 (deM AI hr (AA (AB 0) (AA AE AD))) Bc.nd)
      (AG (Bo (DW.dt (So (Ai IT (AB 7) AE) (RF (Ai (BU hu) (AB 6) (BS AD))))) (AL (AW (Ak (AA BI (AA (deM AI hr (AA (AB 0) (AA (AM Ae (AB 1) AE) AD))) (AA (deM AI hr (AA (AB 0) (AA (AM Ae (AB 1) AE) AD))) (AA (deM Bj hr (AA (AB 0) AD)) AD))))))) Ap)
      (AG (Ac 8 (AM Ae (AB 6) (deM AI hr (AA (AB 0) (AA (Ab BY rfl B.len t8 (AA (AB 6) AD)) AD)))) Bc.nd)
      (AG (Ac 9 (Ag AY AE (deM AI hr (AA (AB 0) (AA (Ab (L0 rfl) rfl B.min boot_min (AA (AM Ae (AM Ae (AB 3) (AB 8)) AE) (AA AE AD))) AD)))) Bc.nd)
      (AG (Bo (Ai IT (AB 7) AE) (AG (Dk [3,8] 1 ["_law_loads","_law_load","_law_at"] rfl Bc.nd rfl rfl Nk (B7 (AB 6)) (λs H fp=>⟨Aj 2 Nc,GD (DW.dt (GR (Ai (Gj hu) (AB 2) (AB 1)) (El (Ai (BU hu) (AM Ae (AM Ae (AB 0) (AB 2)) AE) (AM Ae (AM Ae (AB 0) (AB 1)) AE))))),AB 2⟩))
      (AL (Bo (Ai (Gj hu) (AB 10) (BS AD)) (AL (AW (Ak (AA BI (AA (AB 8) (AA (AM Ae (AB 10) (deM AI hr (AA (AB 0) (AA (Ab BY rfl B.len t8 (AA (AB 10) AD)) AD)))) AD)))))) Ap))) Ap)
      (AG (Bo (DW.dt (GR (Ai IT (AB 7) AE) (El (Ai J9 (AM Ae (AB 1) AE) AE)))) (AG (Ac 11 (Ag GF (Ag AY (Ag AY (AM Ae (AM Ae (AB 3) (AB 8)) AE) AE) (deM AI hr (AA (AB 0) (AA (Ag Eo (AM Ae (AB 1) AE) AE) AD)))) (AM Ae (AB 1) AE)) Bc.nd)
      (AG (Dk [5] 1 ["_law_numbers","_law_number"] rfl Bc.nd rfl rfl ON (EE rfl B.range (AA AE AD)) (λs H fp=>⟨Aj 1 OB,GD (Ai MG (AB 1) (AB 0)),AB 1⟩))
      (AG (Bo (DW.dt (GR (Ai (BU hu) (AB 7) AE) (El (Ai (Gj hu) (AB 12) (BS AD))))) (AL (AW (Ak (AA BI (AA (AM Ae (AB 12) (deM AI hr (AA (AB 0) (AA (Ab BY rfl B.len t8 (AA (AB 12) AD)) AD)))) (AA (AB 8) (AA (AB 9) (AA (AB 11) (AA (deM Bj hr (AA (AB 0) AD)) AD))))))))) Ap)
      (AL (AW (Ak (AA BI (AA (AB 8) (AA (AB 9) (AA (AB 11) (AA (deM Bj hr (AA (AB 0) AD)) AD))))))))))) Ap)
      (AG (Bo (Ai (BU hu) (AB 7) AE) (AL (AW (Ak (AA BI (AA (AB 8) (AA (AB 9) AD)))))) Ap)
      (AG (Bo (DW.dt (GR (Ai (BU hu) (AB 7) AE) (El (Ai J9 (AM Ae (AB 1) AE) AE)))) (AG (Ac 13 (deM AI hr (AA (AB 0) (AA (AM Ae (AB 1) AE) AD))) Bc.nd)
      (AL (AW (Ak (AA BI (AA (AB 13) (AA (Ag GF (Ag AY (Ag AY (AB 13) AE) (deM AI hr (AA (AB 0) (AA (Ag Eo (AM Ae (AB 1) AE) AE) AD)))) (AM Ae (AB 1) AE)) (AA (deM FO hr (AA (AB 0) AD)) AD)))))))) Ap)
      (AL (AW (Ak (AA BI (AA (AB 8) (AA (AB 9) (AA (deM EZ hr (AA (AB 0) (AA (Ag AY (AM Ae (AB 1) AE) AE) AD))) AD)))))))))))))))))
end
section
open PyProof.Rows (boot_isinstance boot_int boot_bool boot_tuple boot_str boot_list boot_abs boot_all boot_any boot_sum boot_max boot_min boot_range boot_enumerate boot_zip boot_sorted boot_set boot_divmod)
variable{P:qa}{w:qq}{K:pV}{mg:Str->pY pW}{base:qu}
theorem Qh:AX ["_law_one","_law_other"] ["_law_one","_law_other"] (AK GY):=scM
theorem Ba  (S:St.Src K mg "_law_plus" GY)(Az:EG P w K mg base):Gf P w K mg base:=by
 refine dfM 2 S Qh λhr hu=>?_
 exact(AL (AW (deM Az hr (AA (Ag AY (Ag Cm (AM Ae (AB 0) AE) (AM Ae (AB 1) AE)) (Ag Cm (AM Ae (AB 1) AE) (AM Ae (AB 0) AE))) (AA (Ag Cm (AM Ae (AB 0) AE) (AM Ae (AB 1) AE)) AD)))))
theorem PC:AX ["_law_one","_law_other"] ["_law_one","_law_other"] (AK FR):=scM
theorem BJ  (S:St.Src K mg "_law_times" FR)(Az:EG P w K mg base):Gz P w K mg base:=by
 refine dfM 2 S PC λhr hu=>?_
 exact(AL (AW (deM Az hr (AA (Ag Cm (AM Ae (AB 0) AE) (AM Ae (AB 1) AE)) (AA (Ag Cm (AM Ae (AB 0) AE) (AM Ae (AB 1) AE)) AD)))))
theorem Dy:AX ["_law_one","_law_other","_law_found","_law_mine","_law_its","_law_both"] ["_law_one","_law_other"] (AK EO):=scM
theorem EM  (S:St.Src K mg "_law_pooled" EO)(B:Bts mg)(Az:EG P w K mg base)(Ba:Gf P w K mg base)(BJ:Gz P w K mg base):J6 P w K mg base:=by
 refine dfM 3 S Dy λhr hu=>?_
 exact(AG (Ac 2 (BS AD) Dy.nd)
      (AG (D5 qv rfl (U8 rfl B.zip (AM Ae (AB 0) AE) (AM Ae (AB 1) AE)) (GB rfl (AO (Aj 3 Dy.nd) (AO (Aj 4 Dy.nd) CB))) (AG (Ac 5 (deM Ba hr (AA (deM BJ hr (AA (Ak (AA (AM Ae (AB 0) AE) (AA AE AD))) (AA (AB 3) AD))) (AA (deM BJ hr (AA (Ak (AA (AM Ae (AB 1) AE) (AA AE AD))) (AA (AB 4) AD))) AD))) Dy.nd)
      (AL (CQ (GS qo qt Es (AB 2) (AA (deM BJ hr (AA (AB 5) (AA (deM Az hr (AA AE (AA (Ag AY (AM Ae (AB 0) AE) (AM Ae (AB 1) AE)) AD))) AD))) AD))))))
      (AL (AW (Ay A9 rfl B.tuple rh (AA (AB 2) AD))))))
theorem Iq:AX ["_law_train_here","_law_loads","_law_deed_here","_law_worths_here","_law_whole_here"] ["_law_train_here","_law_loads","_law_deed_here"] (AK EF):=scM
theorem OC:AS ["_law_train_here","_law_loads","_law_deed_here","_law_worths_here","_law_whole_here"] (AK EF) ["_law_worths_here","_law_kind","_law_pieces_here","_law_owners"] (ixC [3] 3) (KR EF 0):=csM
theorem Gn:(["_law_worths_here","_law_kind","_law_pieces_here","_law_owners"]:List Str).Nodup:=by decide+kernel
theorem GO  (S:St.Src K mg "_law_cost" EF)(B:Bts mg)(Az:EG P w K mg base):Mt P w K mg base:=by
 refine dfM 2 S Iq λhr hu=>?_
 exact(AG (Ac 3 (AM Ae (AB 2) AE) Iq.nd)
      (AG (Ac 4 (Ag AY (Ab (LA rfl) rfl B.sum boot_sum (AA (CP [3] 3 ["_law_worths_here","_law_kind","_law_pieces_here","_law_owners"] rfl OC (B7 (AB 1)) (λs H fp=>⟨GB rfl (AO (Aj 1 Gn) (AO (Aj 2 Gn) (AO (Aj 3 Gn) CB))),CJ,Ag Cm (AB 2) (AM Ae (AB 0) (AB 1))⟩)) AD)) (Ag Cm (AM Ae (AB 0) AE) (AM Ae (AB 3) (Oq Hk AE)))) Iq.nd)
      (AL (AW (deM Az hr (AA (Ag Cm (AM Ae (AB 2) AE) (AM Ae (AB 3) (AM Ae (AM Ae (AB 1) (AM Ae (AB 2) AE)) AE))) (AA (AB 4) AD)))))))
theorem QL:AX ["_law_one","_law_other"] ["_law_one","_law_other"] (AK GJ):=scM
theorem Dm  (S:St.Src K mg "_law_less" GJ)(Ba:Gf P w K mg base):Ju P w K mg base:=by
 refine dfM 3 S QL λhr hu=>?_
 exact(AL (AW (deM Ba hr (AA (AB 0) (AA (Ak (AA (Ag Eo AE (AM Ae (AB 1) AE)) (AA (AM Ae (AB 1) AE) AD))) AD)))))
theorem Fy:AX ["_law_shares","_law_part","_law_owners","_law_found","_law_mine","_law_its"] ["_law_shares","_law_part","_law_owners"] (AK Fd):=scM
theorem D6  (S:St.Src K mg "_law_borne" Fd)(B:Bts mg)(Ba:Gf P w K mg base)(BJ:Gz P w K mg base)(Dm:Ju P w K mg base):MA P w K mg base:=by
 refine dfM 4 S Fy λhr hu=>?_
 exact(AG (Ac 3 (BS AD) Fy.nd)
      (AG (D5 qv rfl (U8 rfl B.zip (AB 0) (AB 2)) (GB rfl (AO (Aj 4 Fy.nd) (AO (Aj 5 Fy.nd) CB))) (AL (CQ (GS qo qt Es (AB 3) (AA (deM Ba hr (AA (deM BJ hr (AA (AB 4) (AA (deM Dm hr (AA (Ak (AA AE (AA AE AD))) (AA (AB 1) AD))) AD))) (AA (deM BJ hr (AA (AB 5) (AA (AB 1) AD))) AD))) AD)))))
      (AL (AW (Ay A9 rfl B.tuple rh (AA (AB 3) AD))))))
end
section
open PyProof.Rows (boot_isinstance boot_int boot_bool boot_tuple boot_str boot_list boot_abs boot_all boot_any boot_sum boot_max boot_min boot_range boot_enumerate boot_zip boot_sorted boot_set boot_divmod)
variable{P:qa}{w:qq}{K:pV}{mg:Str->pY pW}{base:qu}
theorem Ic:AX ["_law_shares","_law_deed_here","_law_found","_law_passes"] ["_law_shares","_law_deed_here"] (AK Ge):=scM
theorem FH  (S:St.Src K mg "_law_sold" Ge)(B:Bts mg)(Ba:Gf P w K mg base)(BJ:Gz P w K mg base)(Dm:Ju P w K mg base):NI P w K mg base:=by
 refine dfM 4 S Ic λhr hu=>?_
 exact(AG (Ac 2 (Ay H0 rfl B.list xJ (AA (AB 0) AD)) Ic.nd)
      (AG (Ac 3 (deM BJ hr (AA (AM Ae (AB 2) (AM Ae (AB 1) AE)) (AA (AM Ae (AB 1) AE) AD))) Ic.nd)
      (AG (Ck (deM Dm hr (AA (AM Ae (AB 2) (AM Ae (AB 1) AE)) (AA (AB 3) AD))) (AB 2) (AM Ae (AB 1) AE))
      (AG (Ck (deM Ba hr (AA (AM Ae (AB 2) (AM Ae (AB 1) AE)) (AA (AB 3) AD))) (AB 2) (AM Ae (AB 1) AE))
      (AL (AW (Ay A9 rfl B.tuple rh (AA (AB 2) AD))))))))
theorem Dg:AX ["_law_train_here","_law_state","_law_deed_here","_law_loads","_law_holders","_law_numbers","_law_part","_law_owners","_law_load"] ["_law_train_here","_law_state","_law_deed_here"] (AK Gk):=scM
theorem GU  (S:St.Src K mg "_law_turn" Gk)(GO:Mt P w K mg base)(D6:MA P w K mg base)(FH:NI P w K mg base):NN P w K mg base:=by
 refine dfM 5 S Dg λhr hu=>?_
 exact(AG (HI (AB 1) (GB rfl (AO (Aj 3 Dg.nd) (AO (Aj 4 Dg.nd) (AO (Aj 5 Dg.nd) CB)))))
      (AL (Bo (Ai (BU hu) (AM Ae (AB 2) AE) BI) (AG (Lx (i:=6) (j:=7) rfl Dg.nd rfl rfl (by decide) rfl rfl (deM GO hr (AA (AB 0) (AA (AB 3) (AA (AB 2) AD)))) (AM Ae (AM Ae (AB 3) (AM Ae (AB 2) AE)) AE))
      (AG (Ck (Ag Eo (AM Ae (AM Ae (AB 3) (AM Ae (AB 2) AE)) AE) (AM Ae (AB 2) AE)) (AM Ae (AB 3) (AM Ae (AB 2) AE)) AE)
      (AG (D5 qv rfl (B7 (AB 3)) (Aj 8 Dg.nd) (AL (Ck (deM D6 hr (AA (AM Ae (AB 8) AE) (AA (AB 6) (AA (AB 7) AD)))) (AB 8) AE)))
      (AL (Ck (deM D6 hr (AA (AB 4) (AA (AB 6) (AA (AB 7) AD)))) (AB 1) AE))))) (AG (D5 qv rfl (B7 (AB 3)) (Aj 8 Dg.nd) (AL (Ck (deM FH hr (AA (AM Ae (AB 8) AE) (AA (AB 2) AD))) (AB 8) AE)))
      (AL (Ck (deM FH hr (AA (AB 4) (AA (AB 2) AD))) (AB 1) AE))))))
theorem DC:AX ["_law_train_here","_law_state","_law_deed_here","_law_loads","_law_holders","_law_numbers","_law_word","_law_one","_law_other","_law_load","_law_given","_law_kind","_law_got"] ["_law_train_here","_law_state","_law_deed_here"] (AK G8):=scM
theorem QY:AS ["_law_train_here","_law_state","_law_deed_here","_law_loads","_law_holders","_law_numbers","_law_word","_law_one","_law_other","_law_load","_law_given","_law_kind","_law_got"] (AK G8) ["_law_deed_here","_law_one"] (ixC [2] 1) (KR G8 0):=csM
theorem P9:(["_law_deed_here","_law_one"]:List Str).Nodup:=by decide+kernel
theorem DV  (S:St.Src K mg "_law_do" G8)(B:Bts mg)(EM:J6 P w K mg base)(GU:NN P w K mg base):K4 P w K mg base:=by
 refine dfM 6 S DC λhr hu=>?_
 exact(AG (HI (AB 1) (GB rfl (AO (Aj 3 DC.nd) (AO (Aj 4 DC.nd) (AO (Aj 5 DC.nd) CB)))))
      (AG (Ac 6 (AM Ae (AB 2) AE) DC.nd)
      (AL (Bo (Ai (BU hu) (AB 6) BI) (AL (CQ (GS qo qt Es (AB 3) (AA (BS (AA (AM Ae (AB 2) AE) (AA (AM Ae (AB 2) AE) (AA (Ay A9 rfl B.tuple rh (AA (CP [2] 1 ["_law_deed_here","_law_one"] rfl QY (EE rfl B.range (AA (AM Ae (AB 0) AE) AD)) (λs H fp=>⟨Aj 1 P9,CJ,Ak (AA (Ay Jh rfl B.int zU (AA (Eb (BU hu) (AB 1) (AM Ae (AB 0) AE)) AD)) (AA AE AD))⟩)) AD)) AD)))) AD)))) (AL (Bo (Ai (BU hu) (AB 6) BI) (AG (Lx (i:=7) (j:=8) rfl DC.nd rfl rfl (by decide) rfl rfl (AM Ae (AB 3) (AM Ae (AB 2) AE)) (AM Ae (AB 3) (AM Ae (AB 2) AE)))
      (AG (CQ (GS qo qt Es (AB 3) (AA (BS (AA (AM Ae (AB 7) AE) (AA (Ag AY (AM Ae (AB 7) AE) (AM Ae (AB 8) AE)) (AA (deM EM hr (AA (AB 7) (AA (AB 8) AD))) AD)))) AD)))
      (AG (Ck AE (AB 7) AE)
      (AL (Ck AE (AB 8) AE))))) (AL (Bo (Ai RC (AB 6) (Ak (AA BI (AA BI AD)))) (AG (HI (G7 (AB 2) (Oq Hk AE)) (GB rfl (AO (Aj 9 DC.nd) (AO (Aj 10 DC.nd) (AO (Aj 11 DC.nd) (AO (Aj 12 DC.nd) CB))))))
      (AG (Ck (Ag Eo (AM Ae (AM Ae (AB 3) (AB 9)) AE) (AB 10)) (AM Ae (AB 3) (AB 9)) AE)
      (AG (CQ (GS qo qt Es (AB 3) (AA (BS (AA (AB 11) (AA (AB 12) (AA (AM Ae (AM Ae (AB 3) (AB 9)) AE) AD)))) AD)))
      (AL (CQ (GS wm PySem.F.type_list_extend au (AB 5) (AA (Ag Cm (U7 (AB 2) AE AE) (Ay Jh rfl B.int zU (AA (Eb (BU hu) (AB 6) BI) AD))) AD))))))) (AL (Bo (Ai (BU hu) (AB 6) BI) (AL (Ck (Ag Eo (AM Ae (AM Ae (AB 3) (AM Ae (AB 2) AE)) AE) (AM Ae (AB 2) AE)) (AM Ae (AB 3) (AM Ae (AB 2) AE)) AE)) (AL (CQ (deM GU hr (AA (AB 0) (AA (AB 1) (AA (AB 2) AD))))))))))))))))
theorem ED:AX ["_law_pen_here","_law_most","_law_train_here","_law_first_here","_law_state","_law_deeds","_law_k","_law_deed_here"] ["_law_pen_here","_law_most"] (AK EB):=scM
theorem Nm:AS ["_law_pen_here","_law_most","_law_train_here","_law_first_here","_law_state","_law_deeds","_law_k","_law_deed_here"] (AK EB) ["_law_one"] (ixC [] 1) (KR EB 0):=csM
theorem OG:(["_law_one"]:List Str).Nodup:=by decide+kernel
theorem FI  (S:St.Src K mg "_law_book" EB)(B:Bts mg)(AI:Bn P w K mg base)(FQ:MC P w K mg base)(Fc:Ly P w K mg base)(Bt:G4 P w K mg base)(Gh:NT P w K mg base)(DV:K4 P w K mg base):Mq P w K mg base:=by
 refine dfM 7 S ED λhr hu=>?_
 exact(AG (Ac 2 (deM FQ hr (AA (AB 0) AD)) ED.nd)
      (AG (Ac 3 (deM Fc hr (AA (AB 0) (AA (AB 2) AD))) ED.nd)
      (AG (Lx (i:=4) (j:=5) rfl ED.nd rfl rfl (by decide) rfl rfl (deM Bt hr (AA (Ak (AA (AB 2) (AA (AB 3) (AA (Ak AD) AD)))) AD)) (BS AD))
      (AG (D5 qv rfl (EE rfl B.range (AA (deM AI hr (AA (AB 0) (AA (Ag AY (AB 1) AE) AD))) AD)) (Aj 6 ED.nd) (AG (Ac 7 (deM Gh hr (AA (AB 0) (AA (AB 2) (AA (AB 4) AD)))) ED.nd)
      (AL (Bo (DW.dt (So (Ai (Gj hu) (AM Ae (AB 7) AE) BI) (RF (Ai IT (Ab BY rfl B.len t8 (AA (CP [] 1 ["_law_one"] rfl Nm (B7 (AB 5)) (λs H fp=>⟨Aj 0 OG,GD (Ai (BU hu) (AM Ae (AB 0) AE) BI),AB 0⟩)) AD)) AE)))) (AG (CQ (deM DV hr (AA (AB 2) (AA (AB 4) (AA (AB 7) AD)))))
      (AL (CQ (GS qo qt Es (AB 5) (AA (AB 7) AD))))) Ap))))
      (AL (AW (Ak (AA (AB 2) (AA (AB 3) (AA (Ay A9 rfl B.tuple rh (AA (AB 5) AD)) AD))))))))))
theorem EK:AX ["_law_pen_here","_law_most","_law_word","_law_book_here","_law_turn_here"] ["_law_pen_here","_law_most","_law_word"] (AK Ce):=scM
theorem Kh:AS ["_law_pen_here","_law_most","_law_word","_law_book_here","_law_turn_here"] (AK Ce) ["_law_word","_law_deed_here"] (ixC [2] 1) (KR Ce 0):=csM
theorem Kl:(["_law_word","_law_deed_here"]:List Str).Nodup:=by decide+kernel
theorem Dx  (S:St.Src K mg "_law_book_of" Ce)(B:Bts mg)(FI:Mq P w K mg base):JJ P w K mg base:=by
 refine dfM 8 S EK λhr hu=>?_
 exact(AG (Ac 3 (deM FI hr (AA (AB 0) (AA (AB 1) AD))) EK.nd)
      (AG (D5 qv rfl (EE rfl B.range (AA AE AD)) (Aj 4 EK.nd) (AG (Bo (Ai (Gj hu) (CP [2] 1 ["_law_word","_law_deed_here"] rfl Kh (B7 (AM Ae (AB 3) AE)) (λs H fp=>⟨Aj 1 Kl,GD (Ai (BU hu) (AM Ae (AB 1) AE) (AB 0)),AB 1⟩)) (BS AD)) (AL (AW (AB 3))) Ap)
      (AL (Ac 3 (deM FI hr (AA (AB 0) (AA (AB 1) AD))) EK.nd))))
      (AL (AW (AB 3)))))
theorem AZ:AX ["_law_pen_here","_law_book_here","_law_train_here","_law_first_here","_law_deeds","_law_state","_law_deed_here","_law_k","_law_left","_law_full","_law_load","_law_kind","_law_number","_law_given"] ["_law_pen_here"] (AK Bh):=scM
theorem Ke:AS ["_law_pen_here","_law_book_here","_law_train_here","_law_first_here","_law_deeds","_law_state","_law_deed_here","_law_k","_law_left","_law_full","_law_load","_law_kind","_law_number","_law_given"] (AK Bh) ["_law_state","_law_number"] (ixC [5] 1) (KR Bh 0):=csM
theorem Kq:(["_law_state","_law_number"]:List Str).Nodup:=by decide+kernel
theorem Kf:AS ["_law_pen_here","_law_book_here","_law_train_here","_law_first_here","_law_deeds","_law_state","_law_deed_here","_law_k","_law_left","_law_full","_law_load","_law_kind","_law_number","_law_given"] (AK Bh) ["_law_at","_law_load"] (ixC [] 2) (KR Bh 1):=csM
theorem HM:(["_law_at","_law_load"]:List Str).Nodup:=by decide+kernel
theorem C7  (S:St.Src K mg "_law_trading" Bh)(B:Bts mg)(AI:Bn P w K mg base)(Bt:G4 P w K mg base)(DV:K4 P w K mg base)(Dx:JJ P w K mg base):JW P w K mg base:=by
 refine dfM 9 S AZ λhr hu=>?_
 exact(AG (Ac 1 (deM Dx hr (AA (AB 0) (AA AE (AA BI AD)))) AZ.nd)
      (AG (HI (AB 1) (GB rfl (AO (Aj 2 AZ.nd) (AO (Aj 3 AZ.nd) (AO (Aj 4 AZ.nd) CB)))))
      (AG (Bo (Ai (BU hu) (AM Ae (AB 2) AE) AE) (AG (Ac 2 (Ag AY (Ak (AA (AM Ae (AB 2) AE) (AA AE AD))) (G7 (AB 2) AE)) AZ.nd)
      (AL (HI (Ak (AA (Ak AD) (AA (Ak AD) AD))) (GB rfl (AO (Aj 3 AZ.nd) (AO (Aj 4 AZ.nd) CB)))))) Ap)
      (AG (Ac 5 (deM Bt hr (AA (Ak (AA (AB 2) (AA (AB 3) (AA (Ak AD) AD)))) AD)) AZ.nd)
      (AG (D5 qv rfl (B7 (AB 4)) (Aj 6 AZ.nd) (AL (CQ (deM DV hr (AA (AB 2) (AA (AB 5) (AA (AB 6) AD)))))))
      (AG (D5 qv rfl (EE rfl B.range (AA (deM AI hr (AA (AB 0) (AA AE AD))) AD)) (Aj 7 AZ.nd) (AG (Dk [5] 1 ["_law_state","_law_number"] rfl AZ.nd rfl rfl Ke (EE rfl B.range (AA AE AD)) (λs H fp=>⟨Aj 1 Kq,GD (Ai MG (AB 1) (AM Ae (AB 0) AE)),AB 1⟩))
      (AG (Dk [] 2 ["_law_at","_law_load"] rfl AZ.nd rfl rfl Kf (Q7 rfl B.enumerate (AM Ae (AB 5) AE)) (λs H fp=>⟨GB rfl (AO (Aj 0 HM) (AO (Aj 1 HM) CB)),GD (Ai J9 (AM Ae (AB 1) AE) AE),AB 0⟩))
      (AG (Ac 6 (Ak (AA BI (AA AE (AA (deM AI hr (AA (AB 0) (AA (AM Ae (AB 2) AE) AD))) (AA (Ag AY AE (deM AI hr (AA (AB 0) (AA AE AD)))) AD))))) AZ.nd)
      (AG (Bo (DW.dt (GR (Ai (Gj hu) (AB 9) (BS AD)) (El (Ai (Gj hu) (AB 8) (BS AD))))) (AG (Ac 10 (AM Ae (AB 9) (deM AI hr (AA (AB 0) (AA (Ab BY rfl B.len t8 (AA (AB 9) AD)) AD)))) AZ.nd)
      (AG (Ac 11 (Ag GF (Ag AY (Ag AY (AM Ae (AM Ae (AM Ae (AB 5) AE) (AB 10)) AE) AE) (deM AI hr (AA (AB 0) (AA (Ag Eo (AM Ae (AB 2) AE) AE) AD)))) (AM Ae (AB 2) AE)) AZ.nd)
      (AG (Ac 12 (AM Ae (AB 8) (deM AI hr (AA (AB 0) (AA (Ab BY rfl B.len t8 (AA (AB 8) AD)) AD)))) AZ.nd)
      (AG (Ac 13 (Ag AY AE (deM AI hr (AA (AB 0) (AA (Ab (L0 rfl) rfl B.min boot_min (AA AE (AA (AM Ae (AM Ae (AM Ae (AB 5) AE) (AB 10)) AE) AD))) AD)))) AZ.nd)
      (AL (Ac 6 (Ak (AA BI (AA (AB 12) (AA (AB 10) (AA (AB 13) (AA (AB 11) (AA (Ag AY AE (deM AI hr (AA (AB 0) (AA AE AD)))) AD))))))) AZ.nd)))))) Ap)
      (AG (CQ (deM DV hr (AA (AB 2) (AA (AB 5) (AA (AB 6) AD)))))
      (AL (Ac 4 (Ag AY (AB 4) (Ak (AA (AB 6) AD))) AZ.nd))))))))
      (AL (AW (Ak (AA (AB 2) (AA (AB 3) (AA (AB 4) AD))))))))))))
end
section
open PyProof.Rows (boot_isinstance boot_int boot_bool boot_tuple boot_str boot_list boot_abs boot_all boot_any boot_sum boot_max boot_min boot_range boot_enumerate boot_zip boot_sorted boot_set boot_divmod)
variable{P:qa}{w:qq}{K:pV}{mg:Str->pY pW}{base:qu}
theorem E5:AX ["_law_book_here","_law_state","_law_found","_law_deed_here"] ["_law_book_here"] (AK B1):=scM
theorem Le:AS ["_law_book_here","_law_state","_law_found","_law_deed_here"] (AK B1) ["_law_load"] (ixC [] 1) (KR B1 0):=csM
theorem Lk:(["_law_load"]:List Str).Nodup:=by decide+kernel
theorem LX:AS ["_law_book_here","_law_state","_law_found","_law_deed_here"] (AK B1) ["_law_load"] (ixC [] 1) (KR B1 1):=csM
theorem MH:(["_law_load"]:List Str).Nodup:=by decide+kernel
theorem EU  (S:St.Src K mg "_law_states" B1)(B:Bts mg)(Bt:G4 P w K mg base)(DV:K4 P w K mg base):KP P w K mg base:=by
 refine dfM 7 S E5 λhr hu=>?_
 exact(AG (Ac 1 (deM Bt hr (AA (AB 0) AD)) E5.nd)
      (AG (Ac 2 (BS (AA (Ak (AA (CP [] 1 ["_law_load"] rfl Le (B7 (AM Ae (AB 1) AE)) (λs H fp=>⟨Aj 0 Lk,CJ,Ay A9 rfl B.tuple rh (AA (AB 0) AD)⟩)) (AA (Ay A9 rfl B.tuple rh (AA (AM Ae (AB 1) AE) AD)) AD))) AD)) E5.nd)
      (AG (D5 qv rfl (B7 (AM Ae (AB 0) AE)) (Aj 3 E5.nd) (AG (CQ (deM DV hr (AA (AM Ae (AB 0) AE) (AA (AB 1) (AA (AB 3) AD)))))
      (AL (CQ (GS qo qt Es (AB 2) (AA (Ak (AA (CP [] 1 ["_law_load"] rfl LX (B7 (AM Ae (AB 1) AE)) (λs H fp=>⟨Aj 0 MH,CJ,Ay A9 rfl B.tuple rh (AA (AB 0) AD)⟩)) (AA (Ay A9 rfl B.tuple rh (AA (AM Ae (AB 1) AE) AD)) AD))) AD))))))
      (AL (AW (AB 2))))))
theorem E8:AX ["_law_book_here","_law_loads","_law_found","_law_deed_here"] ["_law_book_here"] (AK EN):=scM
theorem Bz  (S:St.Src K mg "_law_trades" EN)(EU:KP P w K mg base):Hx P w K mg base:=by
 refine dfM 8 S E8 λhr hu=>?_
 exact(AG (Ac 1 (AM Ae (AM Ae (deM EU hr (AA (AB 0) AD)) (Oq Hk AE)) AE) E8.nd)
      (AG (Ac 2 jr E8.nd)
      (AG (D5 qv rfl (B7 (AM Ae (AB 0) AE)) (Aj 3 E8.nd) (AL (Bo (Ai (BU hu) (AM Ae (AB 3) AE) BI) (AL (aW hu (Ak (AA (AM Ae (AB 3) AE) (AA (AM Ae (AM Ae (AB 1) (AM Ae (AB 3) AE)) AE) (AA (AM Ae (AB 3) AE) (AA (AM Ae (AB 3) AE) (AA (AM Ae (AB 3) AE) AD)))))) (AB 2) (AM Ae (AB 3) AE))) Ap)))
      (AL (AW (AB 2))))))
theorem Am:AX ["_law_pen_here","_law_book_here","_law_kinds","_law_train_here","_law_deeds","_law_rows","_law_few","_law_number","_law_kind","_law_given","_law_other","_law_got","_law_many","_law_more"] ["_law_pen_here","_law_book_here"] (AK DJ):=scM
theorem DB  (S:St.Src K mg "_law_mirrored" DJ)(B:Bts mg)(AI:Bn P w K mg base)(Bz:Hx P w K mg base):IJ P w K mg base:=by
 refine dfM 9 S Am λhr hu=>?_
 exact(AG (Ac 2 (AM Ae (AM Ae (AB 1) AE) AE) Am.nd)
      (AG (Ac 3 (Ak (AA AE (AA (AB 2) (AA AE (AA (Ak (AA (Ak (AA AE (AA AE AD))) AD)) (AA AE (AA AE AD))))))) Am.nd)
      (AG (Ac 4 (BS AD) Am.nd)
      (AG (Ac 5 (kK rfl rfl B.sorted (deM Bz hr (AA (AB 1) AD)) ⟨rfl,rfl⟩) Am.nd)
      (AG (Ac 6 (Ag Eo (Ab BY rfl B.len t8 (AA (AB 5) AD)) (Ay Jh rfl B.int zU (AA (Eb (BU hu) (deM AI hr (AA (AB 0) (AA AE AD))) AE) AD))) Am.nd)
      (AG (D5 qv rfl (B7 (Hj (AB 5) (AB 6))) (GB rfl (AO (Aj 7 Am.nd) (AO (Aj 8 Am.nd) (AO (Aj 9 Am.nd) (AO (Aj 10 Am.nd) (AO (Aj 11 Am.nd) CB)))))) (AG (Lx (i:=12) (j:=13) rfl Am.nd rfl rfl (by decide) rfl rfl (AB 11) (AB 9))
      (AG (Bo (Ai (BU hu) (deM AI hr (AA (AB 0) (AA AE AD))) AE) (AL (Ac 12 (Ag AY (AB 11) AE) Am.nd)) Ap)
      (AG (Bo (Ai (BU hu) (deM AI hr (AA (AB 0) (AA AE AD))) AE) (AL (Ac 13 (Ag AY (AB 9) AE) Am.nd)) Ap)
      (AG (CQ (GS qo qt Es (AB 4) (AA (Ak (AA BI (AA AE (AA (AB 10) (AA (AB 12) AD))))) AD)))
      (AL (CQ (GS qo qt Es (AB 4) (AA (Ak (AA BI (AA (AB 7) (AA (Ag Eo (Ab BY rfl B.len t8 (AA (AB 4) AD)) AE) (AA (AB 12) (AA (AB 8) (AA (AB 13) AD))))))) AD)))))))))
      (AL (AW (Ak (AA (AB 3) (AA (Ak AD) (AA (Ay A9 rfl B.tuple rh (AA (Hj (AB 4) AE) AD)) AD))))))))))))
theorem Cn:AX ["_law_mine","_law_its","_law_found","_law_number","_law_one","_law_other"] ["_law_mine","_law_its"] (AK CD):=scM
theorem CT  (S:St.Src K mg "_law_all_clashes" CD)(B:Bts mg):GZ P w K mg base:=by
 refine dfM 0 S Cn λhr hu=>?_
 exact(AG (Ac 2 (BS AD) Cn.nd)
      (AG (cA qv rfl (EE rfl B.range (AA AE AD)) (Aj 3 Cn.nd) (bD (Lx (i:=4) (j:=5) rfl Cn.nd rfl rfl (by decide) rfl rfl (J0 hu (AB 0) (AB 3) ⟨rfl,rfl,rfl,rfl⟩) (J0 hu (AB 1) (AB 3) ⟨rfl,rfl,rfl,rfl⟩)) (aM (DW.dt (GR (Ai Ik (AB 4) Ef) (El (Ai Ik (AB 5) Ef)))) (jo (AL (Bo (DW.dt (So (Ai Ik (AB 4) Ef) (So (Ai Ik (AB 5) Ef) (RF (Ai (Gj hu) (G7 (AB 4) AE) (Ag AY (G7 (AB 5) AE) (U7 (AB 5) AE AE))))))) (AL (CQ (GS qo qt Es (AB 2) (AA (Ak (AA (AB 3) (AA (AB 4) (AA (AB 5) AD)))) AD)))) Ap))))))
      (AL (AW (AB 2)))))
theorem Hd:AX ["_law_pen_here","_law_deep","_law_way","_law_parts"] ["_law_pen_here","_law_deep"] (AK DY):=scM
theorem Mb:AS ["_law_pen_here","_law_deep","_law_way","_law_parts"] (AK DY) ["_law_pen_here","_law_deep","_law_k"] (ixC [0,1] 1) (KR DY 0):=csM
theorem Ma:(["_law_pen_here","_law_deep","_law_k"]:List Str).Nodup:=by decide+kernel
theorem Bf  (S:St.Src K mg "_law_thing" DY)(B:Bts mg)(AI:Bn P w K mg base):∀n:Nat,n<=8->St.Dfn P w K mg base "_law_thing" (2+n) ["_law_pen_here","_law_deep"] (spD K 2 (BA n))
 |0,_=>Ja S (λf fd F=>F.binds λ_ _ _ _ _ _ us hl=>match us,hl with| [_,_],_=>rfl)
 |n+1,hn=>by
  have Bf:=Bf S B AI n (by omega)
  refine dfM (2+n) S Hd λhr hu=>?_
  exact(AG (Ac 2 (deM AI hr (AA (AB 0) (AA AE AD))) Hd.nd)
   (AG (Bo (DW.dt (So (Ai IT (AB 2) AE) (RF (Ai (BU hu) (AB 1) AE)))) (AL (AW (AM Ae (BS (AA Ef (AA P5 (AA P5 (AA AE (AA AE (AA (Oq Hk AE) (AA AE (AA (Ag QA AE AE) (AA BI (AA BI (AA (Ak AD) (AA (BS AD) AD))))))))))))) (deM AI hr (AA (AB 0) (AA AE AD)))))) Ap)
   (AG (Dk [0,1] 1 ["_law_pen_here","_law_deep","_law_k"] rfl Hd.nd rfl rfl Mb (EE rfl B.range (AA (deM AI hr (AA (AB 0) (AA AE AD))) AD)) (λs H fp=>⟨Aj 2 Ma,CJ,deM Bf hr (AA (AB 0) (AA (Ag Eo (AB 1) AE) AD))⟩))
   (AG (Bo (Ai (BU hu) (AB 2) AE) (AL (AW (AB 3))) Ap)
   (AG (Bo (Ai (BU hu) (AB 2) AE) (AL (AW (gJ (Xr BI (AB 3) ab) (List.cons_ne_nil _ _) (by decide)))) Ap)
   (AL (AW (Ay A9 rfl B.tuple rh (AA (AB 3) AD)))))))))
theorem G5:AX ["_law_pen_here","_law_thing_here","_law_at","_law_way"] ["_law_pen_here","_law_thing_here"] (AK EL):=scM
theorem Cd  (S:St.Src K mg "_law_spoilt" EL)(B:Bts mg)(AI:Bn P w K mg base)(Bf:LN P w K mg base 8):∀n:Nat,n<=8->St.Dfn P w K mg base "_law_spoilt" (11+n) ["_law_pen_here","_law_thing_here"] (spD K 2 (BW n))
 |0,_=>Ja S (λf fd F=>F.binds λ_ _ _ _ _ _ us hl=>match us,hl with| [_,_],_=>rfl)
 |n+1,hn=>by
  have Cd:=Cd S B AI Bf n (by omega)
  refine dfM (11+n) S G5 λhr hu=>?_
  exact(AG (Bo (DW.dt (GR (HS (Ab Br rfl B.isi rM (AA (AB 1) (AA (Iw rfl B.tuple rh) AD)))) (GR (Ai (Gj hu) (AB 1) (Ak AD)) (El (Ai J9 (deM AI hr (AA (AB 0) (AA AE AD))) AE))))) (AG (Ac 2 (deM AI hr (AA (AB 0) (AA (Ab BY rfl B.len t8 (AA (AB 1) AD)) AD))) G5.nd)
   (AL (AW (Ag AY (Ag AY (Hj (AB 1) (AB 2)) (Ak (AA (deM Cd hr (AA (AB 0) (AA (AM Ae (AB 1) (AB 2)) AD))) AD))) (G7 (AB 1) (Ag AY (AB 2) AE)))))) Ap)
   (AG (Ac 3 (deM AI hr (AA (AB 0) (AA AE AD))) G5.nd)
   (AG (Bo (DW.dt (GR (HS (Ab Br rfl B.isi rM (AA (AB 1) (AA (Iw rfl B.tuple rh) AD)))) (El (Ai IT (AB 3) AE)))) (AL (AW (AM Ae (BS (AA (Ag AY (AB 1) (G7 (AB 1) (Oq Hk AE))) (AA (Hj (AB 1) (Oq Hk AE)) (AA (Ay H0 rfl B.list xJ (AA (AB 1) AD)) (AA (dm (AB 1)) AD))))) (AB 3)))) Ap)
   (AG (Bo (DW.dt (GR (HS (Ab Br rfl B.isi rM (AA (AB 1) (AA (Iw rfl B.int zU) AD)))) (El (Ai IT (AB 3) AE)))) (AL (AW (AM Ae (BS (AA (Ag AY (AB 1) AE) (AA (Ag Eo (AB 1) AE) (AA (Eb J9 (AB 1) AE) (AA (Ay VW rfl B.str boot_str (AA (AB 1) AD)) AD))))) (AB 3)))) Ap)
   (AG (Bo (DW.dt (GR (HS (Ab Br rfl B.isi rM (AA (AB 1) (AA (Iw rfl B.str boot_str) AD)))) (El (Ai IT (AB 3) AE)))) (AL (AW (AM Ae (BS (AA (Ag AY (AB 1) BI) (AA (Yb (AB 1)) (AA (Hj (AB 1) (Oq Hk AE)) (AA (Ag AY BI (AB 1)) AD))))) (AB 3)))) Ap)
   (AL (AW (deM Bf hr (AA (AB 0) (AA AE AD))))))))))
end
section
open PyProof.Rows (boot_isinstance boot_int boot_bool boot_tuple boot_str boot_list boot_abs boot_all boot_any boot_sum boot_max boot_min boot_range boot_enumerate boot_zip boot_sorted boot_set boot_divmod)
variable{P:qa}{w:qq}{K:pV}{mg:Str->pY pW}{base:qu}
theorem QO:AX ["_law_one","_law_other"] ["_law_one","_law_other"] (AK D9):=scM
theorem OL:AS ["_law_one","_law_other"] (AK D9) ["_law_a","_law_b"] (ixC [] 2) (KR D9 0):=csM
theorem JR:(["_law_a","_law_b"]:List Str).Nodup:=by decide+kernel
theorem Dj  (S:St.Src K mg "_law_same" D9)(B:Bts mg):∀n:Nat,n<=8->St.Dfn P w K mg base "_law_same" (1+n) ["_law_one","_law_other"] (spD K 2 (C6 n))
 |0,_=>Ja S (λf fd F=>F.binds λ_ _ _ _ _ _ us hl=>match us,hl with| [_,_],_=>rfl)
 |n+1,hn=>by
  have Dj:=Dj S B n (by omega)
  refine dfM (1+n) S QO λhr hu=>?_
  exact(AG (Bo (DW.dt (GR (HS (Ab Br rfl B.isi rM (AA (AB 0) (AA (Iw rfl B.tuple rh) AD)))) (El (HS (Ab Br rfl B.isi rM (AA (AB 1) (AA (Iw rfl B.tuple rh) AD))))))) (AL (AW (HH (Eb (Yy hu) (Ab BY rfl B.len t8 (AA (AB 0) AD)) (Ab BY rfl B.len t8 (AA (AB 1) AD))) (He (Ab (Pb rfl) rfl B.all boot_all (AA (CP [] 2 ["_law_a","_law_b"] rfl OL (U8 rfl B.zip (AB 0) (AB 1)) (λs H fp=>⟨GB rfl (AO (Aj 0 JR) (AO (Aj 1 JR) CB)),CJ,deM Dj hr (AA (AB 0) (AA (AB 1) AD))⟩)) AD)))))) Ap)
   (AG (Bo (Ai (Gj hu) (Ab Br rfl B.isi rM (AA (AB 0) (AA (Iw rfl B.bool boot_bool) AD))) (Ab Br rfl B.isi rM (AA (AB 1) (AA (Iw rfl B.bool boot_bool) AD)))) (AL (AW P5)) Ap)
   (AL (AW (Eb (Yy hu) (AB 0) (AB 1))))))
theorem Hr:AX ["_law_book_here","_law_other","_law_rows","_law_thing_here","_law_due","_law_found"] ["_law_book_here","_law_other","_law_rows","_law_thing_here"] (AK DZ):=scM
theorem MU:AS ["_law_book_here","_law_other","_law_rows","_law_thing_here","_law_due","_law_found"] (AK DZ) ["_law_thing_here","_law_row"] (ixC [3] 1) (KR DZ 0):=csM
theorem MX:(["_law_thing_here","_law_row"]:List Str).Nodup:=by decide+kernel
theorem Fe  (S:St.Src K mg "_law_is_so" DZ)(B:Bts mg)(Cr:HR P w K mg base)(Dj:SU P w K mg base 8):Lr P w K mg base:=by
 refine dfM 10 S Hr λhr hu=>?_
 exact(AG (Ac 4 (Eb (Gj hu) (CP [3] 1 ["_law_thing_here","_law_row"] rfl MU (B7 (AB 2)) (λs H fp=>⟨Aj 1 MX,GD (HS (deM Dj hr (AA (AB 1) (AA (AB 0) AD)))),AB 1⟩)) (BS AD)) Hr.nd)
      (AG (Ac 5 (deM Cr hr (AA (AB 0) (AA (AB 1) (AA (AB 3) AD)))) Hr.nd)
      (AL (AW (HH (Ab Br rfl B.isi rM (AA (AB 5) (AA (Iw rfl B.bool boot_bool) AD))) (He (Eb (BU hu) (AB 5) (AB 4))))))))
theorem DQ:AX ["_law_script","_law_k","_law_pen_here","_law_book_here","_law_other","_law_mine","_law_its","_law_rows","_law_things","_law_thing_here"] ["_law_script"] (AK Du):=scM
theorem SO:AS ["_law_script","_law_k","_law_pen_here","_law_book_here","_law_other","_law_mine","_law_its","_law_rows","_law_things","_law_thing_here"] (AK Du) ["_law_mine","_law_its","_law_number"] (ixC [5,6] 1) (KR Du 0):=csM
theorem Rk:(["_law_mine","_law_its","_law_number"]:List Str).Nodup:=by decide+kernel
theorem Rr:AS ["_law_script","_law_k","_law_pen_here","_law_book_here","_law_other","_law_mine","_law_its","_law_rows","_law_things","_law_thing_here"] (AK Du) ["_law_row"] (ixC [] 1) (KR Du 1):=csM
theorem Rf:(["_law_row"]:List Str).Nodup:=by decide+kernel
theorem Rh:AS ["_law_script","_law_k","_law_pen_here","_law_book_here","_law_other","_law_mine","_law_its","_law_rows","_law_things","_law_thing_here"] (AK Du) ["_law_row"] (ixC [] 1) (KR Du 2):=csM
theorem Rq:(["_law_row"]:List Str).Nodup:=by decide+kernel
theorem SQ:AS ["_law_script","_law_k","_law_pen_here","_law_book_here","_law_other","_law_mine","_law_its","_law_rows","_law_things","_law_thing_here"] (AK Du) ["_law_pen_here","_law_row"] (ixC [2] 1) (KR Du 3):=csM
theorem Rw:(["_law_pen_here","_law_row"]:List Str).Nodup:=by decide+kernel
end
theorem nr{α:Sort _}{a b:α}(h:a=b):a=b:=h
@[simp high] theorem Ar{α β:Type}(a:α)(f:α->Option β):(some a).bind f=f a:=Eq.mp (congrArg (λz=>z=f a) rfl) (Eq.refl (f a))
@[simp high] theorem jY{α β:Type}(a:α)(f:α->β):(some a).map f=some (f a):=Eq.mp (congrArg (λz=>z=some (f a)) rfl) (Eq.refl (some (f a)))
section
variable{E:En}{S:Sto}{op:OpN}{f g c:Ev}{d:D}{i:Nat}{w:Wv}{a b e h r':D}{r:List D}{fs:List Ev}
@[simp] theorem pP{o:Option D}{E:En}:at? (o::E) 0=o:=nr rfl
@[simp] theorem pM{o:Option D}{E:En}{i:Nat}:at? (o::E) (i+1)=at? E i:=nr rfl
@[simp] theorem mO:eC d E S=some (d,S):=nr rfl
@[simp] theorem lP:eV i E S=(at? E i).map λd=>(d,S):=nr rfl
@[simp] theorem cN:evs [] E S=some ([],S):=nr rfl
@[simp] theorem DR:evs (f::fs) E S=(f E S).bind λr=>(evs fs E r.2).map λq=>(r.1::q.1,q.2):=nr rfl
@[simp] theorem VY{cf:Bool}:Nf cf op fs E S=(evs fs E S).bind λr=>(op (r.1.map (dr r.2))).bind λw=>fin cf w r.2:=nr rfl
@[simp] theorem oO{cf:Bool}:fin cf (.val d) S=some (d,S):=by cases cf<;>rfl
@[simp] theorem oN:fin false (.own r) S=some (.lst r,S):=nr rfl
@[simp] theorem nq:fin true (.own r) S=some (.ref S.length,S++[.lst r]):=nr rfl
@[simp] theorem mI:dr S .non=.val .non:=nr rfl
@[simp] theorem oB{b:Bool}:dr S (.bl b)=.val (.bl b):=nr rfl
@[simp] theorem mq{i:Int}:dr S (.int i)=.val (.int i):=nr rfl
@[simp] theorem mE{x:Str}:dr S (.str x)=.val (.str x):=nr rfl
@[simp] theorem oI{x:String}:dr S (.ty x)=.val (.ty x):=nr rfl
@[simp] theorem mw:dr S (.tup r)=.val (.tup r):=nr rfl
@[simp] theorem lY:dr S (.lst r)=.val (.lst r):=nr rfl
@[simp] theorem lq{ns:List Int}:dr S (.scr ns)=.val (.scr ns):=nr rfl
theorem Aq{n:Nat}(h:S[n]?=Gc (.lst r)):dr S (.ref n)=.own r:=by
 show(match S[n]? with|some (.lst ds)=>Wv.own ds|_=>.val (.ref n))=_
 rw[h]
theorem AR{n:Nat}(h:S[n]?=Gc (.lst r)):Ep S n=Gc r:=by
 unfold Ep
 rw[h]
@[simp] theorem Y9:fz (.val d)=d:=nr rfl
noncomputable def kY(g:Ev)(E:En)(r:D×Sto):pY (D×Sto):=match r.1 with| .bl true=>g E r.2| .bl false=>Gc (.bl false,r.2)|_=>none
noncomputable def orK(g:Ev)(E:En)(r:D×Sto):pY (D×Sto):=match r.1 with| .bl false=>g E r.2| .bl true=>Gc (.bl true,r.2)|_=>none
noncomputable def lV(r:D×Sto):pY (D×Sto):=match r.1 with| .bl b=>Gc (.bl (!b),r.2)|_=>none
@[simp] theorem mJ:kY g E (.bl true,S)=g E S:=nr rfl
@[simp] theorem lR:kY g E (.bl false,S)=some (.bl false,S):=nr rfl
@[simp] theorem pB:orK g E (.bl false,S)=g E S:=nr rfl
@[simp] theorem m8:orK g E (.bl true,S)=some (.bl true,S):=nr rfl
@[simp] theorem mM{b:Bool}:lV (.bl b,S)=some (.bl (!b),S):=nr rfl
@[simp] theorem YU:GG f g E S=(f E S).bind (kY g E):=nr rfl
@[simp] theorem QD:eOr f g E S=(f E S).bind (orK g E):=nr rfl
@[simp] theorem jF:ZQ f E S=(f E S).bind lV:=nr rfl
@[simp] theorem RT:BL fs E S=(evs fs E S).bind λr=>if r.1.length<=sizeLine then some (.tup r.1,r.2)else none:=nr rfl
@[simp] theorem iT{cf:Bool}:YM cf fs E S=(evs fs E S).bind λr=>if r.1.length<=sizeLine then fin cf (.own r.1) r.2 else none:=nr rfl
@[simp] theorem gU{F:Fn}:AJ F fs E S=(evs fs E S).bind λr=>F r.1 r.2:=nr rfl
noncomputable def mV(op:Mo)(fs:List Ev)(E:En)(r:D×Sto):pY (D×Sto):=match r.1 with
 | .ref n=>(Ep r.2 n).bind λ_=>(evs fs E r.2).bind λp=>(Ep p.2 n).bind λds=>(op p.2 ds p.1).map λq=>(q.1,p.2.set n (.lst q.2))
 |_=>none
@[simp] theorem iO{op:Mo}{n:Nat}:mV op fs E (.ref n,S)=(Ep S n).bind λ_=>(evs fs E S).bind λp=>(Ep p.2 n).bind λds=>(op p.2 ds p.1).map λq=>(q.1,p.2.set n (.lst q.2)):=nr rfl
@[simp] theorem iZ{op:Mo}:Jv op f fs E S=(f E S).bind (mV op fs E):=nr rfl
@[simp] theorem jE:Ka S r [d]=if r.length<sizeLine then some (.non,r++[d])else none:=nr rfl
variable{x y:Ex}
noncomputable def cc(y:Ex)(r:Fl×En×Sto):pY (Fl×En×Sto):=match r.1 with| .nx=>y r.2.1 r.2.2| .ret w=>Gc (.ret w,r.2)
noncomputable def cu(x y:Ex)(E:En)(r:D×Sto):pY (Fl×En×Sto):=match r.1 with| .bl true=>x E r.2| .bl false=>y E r.2|_=>none
@[simp] theorem La:cc y (.nx,E,S)=y E S:=nr rfl
@[simp] theorem jS{w:D}:cc y (.ret w,E,S)=some (.ret w,E,S):=nr rfl
@[simp] theorem mB:cu x y E (.bl true,S)=x E S:=nr rfl
@[simp] theorem mC:cu x y E (.bl false,S)=y E S:=nr rfl
theorem Yq{b:qk}:cu x y E (.bl b,S)=if b=true then x E S else y E S:=by cases b<;>exact nr rfl
@[simp] theorem Qt:AU x y E S=(x E S).bind (cc y):=nr rfl
@[simp] theorem iE:CZ E S=some (.nx,E,S):=nr rfl
@[simp] theorem N6:xIf c x y E S=(c E S).bind (cu x y E):=nr rfl
@[simp] theorem iG:BR f E S=(f E S).map λr=>(.ret r.1,E,r.2):=nr rfl
@[simp] theorem YS:A4 i f E S=(f E S).map λr=>(.nx,E.set i (some r.1),r.2):=nr rfl
@[simp] theorem VF:Cb f E S=(f E S).map λr=>(.nx,E,r.2):=nr rfl
noncomputable def l9(d b:D)(E:En)(i:D×Sto):pY (Fl×En×Sto):=match b,i.1 with
 | .ref n,.int j=>(Ep i.2 n).bind λds=>(ixN ds.length j).map λm=>(.nx,E,i.2.set n (.lst (ds.set m d)))
 |_,_=>none
@[simp] theorem iJ{n:Nat}{j:Int}:l9 d (.ref n) E (.int j,S)=(Ep S n).bind λds=>(ixN ds.length j).map λm=>(.nx,E,S.set n (.lst (ds.set m d))):=nr rfl
@[simp] theorem jH{k o:Ev}:Od k f o E S=(k E S).bind λr=>(f E r.2).bind λb=>(o E b.2).bind (l9 r.1 b.1 E):=nr rfl
@[simp] theorem iA{t:Tf}:Nz t f E S=(f E S).bind λr=>(t r.1 E r.2).map λE'=>(.nx,E',r.2):=nr rfl
@[simp] theorem iz{i j:Nat}:Rg i j f g E S=(f E S).bind λr=>(g E r.2).map λq=>(.nx,(E.set i (some r.1)).set j (some q.1),q.2):=by
  unfold Rg
  rw[DR]
  cases f E S with
  |none=>rfl
  |some r=>
   rw[Ar,Ar,DR]
   cases g E r.2 with
   |none=>rfl
   |some q=>rfl
@[simp] theorem bL:tNm i d E S=some (E.set i (some d)):=nr rfl
@[simp] theorem j6{ts:List Tf}{ds:List D}:tTp ts (.tup ds) E S=tMs ts ds E S:=nr rfl
@[simp] theorem lH{ts:List Tf}{n:Nat}:tTp ts (.ref n) E S=(Ep S n).bind λds=>tMs ts ds E S:=nr rfl
@[simp] theorem jy:tMs [] [] E S=some E:=nr rfl
@[simp] theorem iD{t:Tf}{ts:List Tf}{ds:List D}:tMs (t::ts) (d::ds) E S=(t d E S).bind λE1=>tMs ts ds E1 S:=nr rfl
@[simp] theorem gH{N:Nat}{ds:List D}:BE (BH N x) ds S=(x (ds.map some++List.replicate (N-ds.length) none) S).map λr=>(flD r.1,r.2.2):=by rw[UQ];rfl
@[simp] theorem lW:flD .nx=.non:=nr rfl
@[simp] theorem kN:flD (.ret d)=d:=nr rfl
@[simp] theorem lO{i j:Int}:Be (.val (.int i)) (.val (.int j))=some (.val (.int (i+j))):=nr rfl
@[simp] theorem jX{xs ys:List D}:Be (.val (.tup xs)) (.val (.tup ys))=if xs.length+ys.length<=sizeLine then some (.val (.tup (xs++ys)))else none:=nr rfl
@[simp] theorem ja{xs ys:List D}:Be (.val (.lst xs)) (.val (.lst ys))=if xs.length+ys.length<=sizeLine then some (.own (xs++ys))else none:=nr rfl
@[simp] theorem jh{xs ys:List D}:Be (.own xs) (.val (.lst ys))=if xs.length+ys.length<=sizeLine then some (.own (xs++ys))else none:=nr rfl
@[simp] theorem je{xs ys:List D}:Be (.own xs) (.own ys)=if xs.length+ys.length<=sizeLine then some (.own (xs++ys))else none:=nr rfl
@[simp] theorem iB{i j:Int}:HB (.val (.int i)) (.val (.int j))=if E7 i j=true then some (.val (.int (i*j)))else none:=nr rfl
@[simp] theorem jA{k:Int}:HB (.val (.tup r)) (.val (.int k))=if(!r.isEmpty && decide (k<=0) && decide (-(2^63)<=k))=true then some (.val (.tup []))else if(!r.isEmpty && decide (1<=k) && decide (r.length*k.toNat<=sizeLine))=true then some (.val (.tup (List.replicate k.toNat r).flatten))else none:=nr rfl
@[simp] theorem kZ:asS (.own r)=some r:=nr rfl
@[simp] theorem kG:asS (.val (.lst r))=some r:=nr rfl
@[simp] theorem lD:asS (.val (.tup r))=some r:=nr rfl
@[simp] theorem kf{ns:List Int}:asS (.val (.scr ns))=some (ns.map .int):=nr rfl
@[simp] theorem kS{j:Int}:wIx w (.val (.int j))=(asS w).bind λds=>(atI ds j).map .val:=nr rfl
theorem C9{α:Type}{xs:List α}{n:Nat}{x:α}(h:xs[n]?=Gc x):atI xs (n:Int)=Gc x:=cG h
theorem Yx{α:Type}{xs:List α}{i:Int}(h0:0<=i)(h1:i<xs.length):atI xs i=Gc (xs[i.toNat]'(by lia)):=by
 have:atI xs ((i.toNat:Nat):Int)=Gc (xs[i.toNat]'(by lia)):=C9 (pf (by lia))
 rwa [rJ h0]at this
@[simp] theorem ou:atI (a::r) 0=some a:=C9 (n:=0) rfl
@[simp] theorem mz:atI (a::b::r) 1=some b:=C9 (n:=1) rfl
@[simp] theorem nh:atI (a::b::e::r) 2=some e:=C9 (n:=2) rfl
@[simp] theorem om:atI (a::b::e::h::r) 3=some h:=C9 (n:=3) rfl
@[simp] theorem oa{k:D}:atI (a::b::e::h::k::r) 4=some k:=C9 (n:=4) rfl
@[simp] theorem oM{k l:D}:atI (a::b::e::h::k::l::r) 5=some l:=C9 (n:=5) rfl
theorem Qd{n k:Nat}(h:k<n):ixN n (k:Int)=Gc k:=by
 unfold ixN
 simp
 lia
theorem Qo{n:Nat}{i:Int}(h0:0<=i)(h1:i<n):ixN n i=Gc i.toNat:=by
 have:=Qd (n:=n) (k:=i.toNat) (by lia)
 rwa [rJ h0]at this
@[simp] theorem oj{n:Nat}:ixN (n+1) 0=some 0:=Qo (by decide) (by lia)
@[simp] theorem pC{n:Nat}:ixN (n+2) 1=some 1:=Qo (by decide) (by lia)
@[simp] theorem nD{n:Nat}:ixN (n+3) 2=some 2:=Qo (by decide) (by lia)
@[simp] theorem IP{i j:Int}:deq (.int i) (.int j)=(i==j):=nr rfl
@[simp] theorem Z0{i j:Int}:Dq (.int i) (.int j)=true:=nr rfl
@[simp] theorem Z1{w':Wv}:wEq w w'=if Dq (fz w) (fz w')=true then some (.val (.bl (deq (fz w) (fz w'))))else none:=nr rfl
@[simp] theorem Gu{w':Wv}:wNe w w'=if Dq (fz w) (fz w')=true then some (.val (.bl (!deq (fz w) (fz w'))))else none:=nr rfl
@[simp] theorem kJ{i j:Int}:wLt (.val (.int i)) (.val (.int j))=some (.val (.bl (decide (i<j)))):=nr rfl
@[simp] theorem lJ{i j:Int}:wGt (.val (.int i)) (.val (.int j))=some (.val (.bl (decide (j<i)))):=nr rfl
@[simp] theorem jf{i j:Int}:wGe (.val (.int i)) (.val (.int j))=some (.val (.bl (decide (j<=i)))):=nr rfl
@[simp] theorem jL{i j:Int}:MK (.val (.int i)) (.val (.int j))=some (.val (.int (i-j))):=nr rfl
@[simp] theorem hV{i:Int}:Oe (.val (.int i))=some (.val (.int (-i))):=nr rfl
@[simp] theorem jB{i j:Int}:P2 (.val (.int i)) (.val (.int j))=(if 0<j then some (.val (.int (i % j)))else none):=by
  show AAF Wv.val (if 0<j then Gc (D.int (i % j))else none)=_
  split<;>rfl
@[simp] theorem gX{i j:Int}:QC (.val (.int i)) (.val (.int j))=(if(decide (0<j) && decide (j.natAbs<Hl))=true then some (.val (.int (i / j)))else none):=by
  show AAF Wv.val (if(decide (0<j) && decide (j.natAbs<Hl))=true then Gc (D.int (i / j))else none)=_
  split<;>rfl
@[simp] theorem iC{i j:Int}:aU (.val (.int i)) (.val (.int j))=if(decide (0<=j) && decide (j<=1000) && decide (i.natAbs<2^64))=true then some (.val (.int (i^j.toNat)))else none:=by
  show AAF Wv.val (if(decide (0<=j) && decide (j<=1000) && decide (i.natAbs<2^64))=true then Gc (D.int (i^j.toNat))else none)=_
  split<;>rfl
@[simp] theorem jM{i:Int}:jT (.val (.int i))=some (.val (.int (i.natAbs:Int))):=by
  show Gc (Wv.val (D.int (if i<0 then-i else i)))=_
  congr 3
  split<;>lia
@[simp] theorem ig:HP (.own r)=some (.val (.int r.length)):=nr rfl
@[simp] theorem Wl:HP (.val (.lst r))=some (.val (.int r.length)):=nr rfl
@[simp] theorem gq:HP (.val (.tup r))=some (.val (.int r.length)):=nr rfl
@[simp] theorem jG{ns:List Int}:HP (.val (.scr ns))=some (.val (.int ns.length)):=by
  show Gc (Wv.val (D.int ((ns.map D.int).length:Nat)))=_
  rw[qP]
@[simp] theorem cg:Cj w=(asS w).map λds=>.val (.tup ds):=nr rfl
@[simp] theorem fW:Jq w=(asS w).map λds=>.own ds:=nr rfl
@[simp] theorem md{b:Bool}:YO (.val (.bl b))=some (.val (.int (if b then 1 else 0))):=nr rfl
@[simp] theorem iK{i j:Int}:gr (.val (.int i)) (.val (.int j))=some (.val (.int (if j>i then j else i))):=nr rfl
@[simp] theorem iS{i j:Int}:Y6 (.val (.int i)) (.val (.int j))=some (.val (.int (if j<i then j else i))):=nr rfl
@[simp] theorem F9{T:String}:Jj w (.val (.ty T))=if N4 T=true then(kdW w).map λk=>.val (.bl (k.isA T))else none:=nr rfl
@[simp] theorem jc:N4 "int"=true:=by decide
@[simp] theorem hZ:N4 "bool"=true:=by decide
@[simp] theorem dE:N4 "tuple"=true:=by decide
@[simp] theorem kT:N4 "str"=true:=by decide
@[simp] theorem jJ:N4 "list"=true:=by decide
@[simp] theorem jD:fI (.val (.lst r))=(bls r).map λbs=>.val (.bl (bs.all id)):=nr rfl
theorem AN{n:Nat}(h:n<=1000):n<=sizeLine:=qD h (by decide)
@[simp] theorem sz1:(1:Nat)<=sizeLine:=AN (by decide)
@[simp] theorem sz2:(2:Nat)<=sizeLine:=AN (by decide)
@[simp] theorem sz3:(3:Nat)<=sizeLine:=AN (by decide)
@[simp] theorem sz4:(4:Nat)<=sizeLine:=AN (by decide)
@[simp] theorem sz5:(5:Nat)<=sizeLine:=AN (by decide)
@[simp] theorem sz6:(6:Nat)<=sizeLine:=AN (by decide)
@[simp] theorem Hn:By E S=some (.bl true,S):=nr rfl
@[simp] theorem iq{s:Sr}{t:Tf}{b:Ex}:IF s t b E S=(s E S).bind λr=>IV r.1.2 t b r.1.1 E r.2:=nr rfl
@[simp] theorem Ah:gOk [] S:=λ_ h=>(nomatch h)
theorem EI{gs:Gd}{t:Tf}{b:Ex}(h:gOk gs S):IV gs t b [] E S=Gc (.nx,E,S):=by
 unfold IV
 rw[qc h]
theorem UT {gs : Gd} {t : Tf} {b : Ex} {ds : List D} (h : gOk gs S) : IV gs t b (d :: ds) E S = (t d E S).bind fun E1 => (b E1 S).bind fun r => match r.1 with
    | .nx => IV gs t b ds r.2.1 r.2.2
    | .ret w => Gc (.ret w, r.2) := by
  rw [IV, qc h]
  all_goals rfl
theorem Bq{gs:Gd}{t:Tf}{b:Ex}{ds:List D}(h:gOk gs S):IV gs t b (d::ds) E S=(t d E S).bind λE1=>(b E1 S).bind (cc (IV gs t b ds)):=by
 rw[UT h]
 rfl
@[simp] theorem gv:Fp f E S=(f E S).bind λr=>(sqD r.2 r.1).map λp=>(p,r.2):=nr rfl
@[simp] theorem kB:sqD S (.tup r)=some (r,[]):=nr rfl
@[simp] theorem kM:sqD S (.lst r)=some (r,[]):=nr rfl
theorem Dv{n:Nat}(h:S[n]?=Gc (.lst r)):sqD S (.ref n)=Gc (r,[(n,r)]):=by
 show(Ep S n).map (λds=>(ds,[(n,ds)]))=_
 rw[AR h]
 rfl
@[simp] theorem hJ:Zx f E S=(f E S).bind λr=>(sqD r.2 r.1).map λp=>((QX 0 p.1,p.2),r.2):=nr rfl
@[simp] theorem gz:cx f g E S=(f E S).bind λr=>(g E r.2).bind λq=>(sqD q.2 r.1).bind λa=>(sqD q.2 q.1).map λb=>((O2 a.1 b.1,a.2++b.2),q.2):=by
  unfold cx
  rw[DR]
  cases f E S with
  |none=>rfl
  |some r=>
   rw[Ar,Ar,DR]
   cases g E r.2 with
   |none=>rfl
   |some q=>rfl
noncomputable def Ho(j:Int):qk:=decide (-(2^62)<=j) && decide (j<2^62)
theorem C4{j:Int}(h: -1000000<=j)(g:j<=1000000):Ho j=true:=by
 unfold Ho
 rw[qO]
 exact⟨sX (by lia),sX (by lia)⟩
noncomputable def mN(S:Sto):D->pY ((List D×Gd)×Sto)
 | .int j=>if Ho j=true then Gc ((Kb 0 j.toNat,[]),S)else none
 |_=>none
@[simp] theorem iY{j:Int}:mN S (.int j)=if Ho j=true then some ((Kb 0 j.toNat,[]),S)else none:=nr rfl
@[simp] theorem jP:K8 [f] E S=(f E S).bind λr=>mN r.2 r.1:=by
  unfold K8
  rw[DR]
  cases f E S with
  |none=>rfl
  |some r=>
   obtain⟨d,S1⟩:=r
   rw[Ar,cN,jY,Ar,Ar]
   cases d<;>rfl
@[simp] theorem gZ{cf:Bool}{cap:List Nat}{m:Nat}{s:Sr}{t:Tf}:NY cf cap m s t c f E S=(s E S).bind λr=>(CC r.1.2 t c f r.1.1 [] (Qf cap m E) r.2).bind λq=>fin cf (.own q.1) q.2:=nr rfl
@[simp] theorem hU{cap:List Nat}{m:Nat}:Qf cap m E=cap.map (at? E)++List.replicate m none:=nr rfl
theorem QU{α:Type}(p:α->qk):∀xs:List α,bls (xs.map λx=>.bl (p x))=Gc (xs.map p)
 | []=>rfl
 |x::xs=>by
  have ih:=QU p xs
  unfold bls at ih⊢
  rw[qS,xW,ih]
  rfl
@[simp] theorem R1{i:Int}:Kn (.int i::r)=(Kn r).map λns=>i::ns:=by
  unfold Kn
  rw[xW]
  show(do let r1<-Gc i;let rs<-List.mapM intD r;pure (r1::rs))=_
  cases List.mapM intD r<;>rfl
theorem GQ:∀(ns:List Int),Kn (ns.map D.int)=Gc ns
 | []=>rfl
 |n::ns=>by rw[qS,R1,GQ ns];rfl
@[simp] theorem jO:ZY (.own r)=(Kn r).map λns=>.val (.int ns.sum):=nr rfl
@[simp] theorem iR:ZY (.val (.lst r))=(Kn r).map λns=>.val (.int ns.sum):=nr rfl
@[simp] theorem mL:Of false w (.val .non)=some (.val (.bl (isN w))):=nr rfl
@[simp] theorem mv:Of true w (.val .non)=some (.val (.bl (!isN w))):=nr rfl
@[simp] theorem nJ{i:Int}{w:Wv}:Gm true false [w,.val (.int i)]=wSl (some i) none w:=nr rfl
@[simp] theorem nV{i:Int}{w:Wv}:Gm false true [w,.val (.int i)]=wSl none (some i) w:=nr rfl
@[simp] theorem oT{i j:Int}{w:Wv}:Gm true true [w,.val (.int i),.val (.int j)]=wSl (some i) (some j) w:=nr rfl
@[simp] theorem jU{lo hi:Option Int}:wSl lo hi (.val (.tup r))=some (.val (.tup (Gx r lo hi))):=nr rfl
@[simp] theorem ky{lo hi:Option Int}:wSl lo hi (.val (.lst r))=some (.own (Gx r lo hi)):=nr rfl
@[simp] theorem kP{lo hi:Option Int}:wSl lo hi (.own r)=some (.own (Gx r lo hi)):=nr rfl
end
structure Ca(A:List Nat)(S S':Sto):Prop where
 len:S.length<=S'.length
 keep:∀n,n<S.length->n∉A->S'[n]?=S[n]?
theorem Ca.refl{A:List Nat}{S:Sto}:Ca A S S:=⟨p9 _,λ_ _ _=>rfl⟩
theorem Ca.trans{A:List Nat}{S S' S2:Sto}(h:Ca A S S')(g:Ca A S' S2):Ca A S S2:=⟨qD h.len g.len,λn hn ha=>(g.keep n (qB hn h.len) ha).trans (h.keep n hn ha)⟩
theorem Ca.mono{A B:List Nat}{S S':Sto}(h:Ca A S S')(s:∀n∈A,n∈B):Ca B S S':=⟨h.len,λn hn hb=>h.keep n hn λz=>hb (s n z)⟩
theorem Ca.get{A:List Nat}{S S':Sto}(h:Ca A S S'){n:Nat}{c:Cl}(e:S[n]?=Gc c)(ha:n∉A):S'[n]?=Gc c:=by
 rw[h.keep n (qF.mp e).1 ha];exact e
theorem Ca.app{A:List Nat}{S T:Sto}:Ca A S (S++T):=⟨by simp,λn hn _=>pq hn⟩
theorem Ca.set{A:List Nat}{S:Sto}{n:Nat}{c:Cl}(h:n∈A):Ca A S (S.set n c):=⟨by simp,λm hm ha=>qE (λz=>ha (by rw[<-z];exact h))⟩
theorem Ca.new{A:List Nat}{S S' S2:Sto}(h:Ca A S S')(g:Ca (A++B) S' S2)(hb:∀n∈B,S.length<=n):Ca A S S2:=⟨qD h.len g.len,λn hn ha=>(g.keep n (qB hn h.len) (λz=>by
 rcases qW.mp z with z|z
 .exact ha z
 .have:=hb n z;lia)).trans (h.keep n hn ha)⟩
theorem Af{S:Sto}{n:Nat}{c:Cl}(h:S[n]?=Gc c):n<S.length:=(qF.mp h).1
section
variable{E:En}{S:Sto}{f g h k l m:Ev}{cf:qk}{F:Fn}
@[simp high] theorem iI{op:Op1}:Nf cf (o1 op) [f] E S=(f E S).bind λr=>(op (dr r.2 r.1)).bind λw=>fin cf w r.2:=by
  rw[VY,DR];cases f E S<;>rfl
@[simp high] theorem YY{op:Op2}:Nf cf (o2 op) [f,g] E S=(f E S).bind λr=>(g E r.2).bind λq=>(op (dr q.2 r.1) (dr q.2 q.1)).bind λw=>fin cf w q.2:=by
  rw[VY,DR]
  cases f E S with
  |none=>rfl
  |some r=>rw[Ar,Ar,DR];cases g E r.2<;>rfl
theorem mR:evs [f] E S=(f E S).bind λr=>Gc ([r.1],r.2):=by rw[DR];cases f E S<;>rfl
theorem lh:evs [f,g] E S=(f E S).bind λr=>(g E r.2).bind λq=>Gc ([r.1,q.1],q.2):=by
 rw[DR];cases f E S with
 |none=>rfl
 |some r=>rw[Ar,Ar,mR];cases g E r.2<;>rfl
theorem mG:evs [f,g,h] E S=(f E S).bind λr=>(g E r.2).bind λq=>(h E q.2).bind λu=>Gc ([r.1,q.1,u.1],u.2):=by
 rw[DR];cases f E S with
 |none=>rfl
 |some r=>rw[Ar,Ar,lh];cases g E r.2 with
  |none=>rfl
  |some q=>rw[Ar,Ar];cases h E q.2<;>rfl
theorem oE:evs [f,g,h,k] E S=(f E S).bind λr=>(g E r.2).bind λq=>(h E q.2).bind λu=>(k E u.2).bind λv=>Gc ([r.1,q.1,u.1,v.1],v.2):=by
 rw[DR];cases f E S with
 |none=>rfl
 |some r=>rw[Ar,Ar,mG];cases g E r.2 with
  |none=>rfl
  |some q=>rw[Ar,Ar];cases h E q.2 with
   |none=>rfl
   |some u=>rw[Ar,Ar];cases k E u.2<;>rfl
@[simp high] theorem nU:evs [f] E S=(f E S).bind λr=>some ([r.1],r.2):=mR
@[simp high] theorem ng:evs [f,g] E S=(f E S).bind λr=>(g E r.2).bind λq=>some ([r.1,q.1],q.2):=lh
@[simp high] theorem nZ:evs [f,g,h] E S=(f E S).bind λr=>(g E r.2).bind λq=>(h E q.2).bind λu=>some ([r.1,q.1,u.1],u.2):=mG
@[simp high] theorem ny:evs [f,g,h,k] E S=(f E S).bind λr=>(g E r.2).bind λq=>(h E q.2).bind λu=>(k E u.2).bind λv=>some ([r.1,q.1,u.1,v.1],v.2):=oE
@[simp high] theorem pN{d:D}:eV 0 (some d::E) S=some (d,S):=nr rfl
@[simp high] theorem pQ{d:D}{o0:Option D}:eV 1 (o0::some d::E) S=some (d,S):=nr rfl
@[simp high] theorem pS{d:D}{o0 o1:Option D}:eV 2 (o0::o1::some d::E) S=some (d,S):=nr rfl
@[simp high] theorem pK{d:D}{o0 o1 o2:Option D}:eV 3 (o0::o1::o2::some d::E) S=some (d,S):=nr rfl
@[simp high] theorem pI{d:D}{o0 o1 o2 o3:Option D}:eV 4 (o0::o1::o2::o3::some d::E) S=some (d,S):=nr rfl
@[simp high] theorem pT{d:D}{o0 o1 o2 o3 o4:Option D}:eV 5 (o0::o1::o2::o3::o4::some d::E) S=some (d,S):=nr rfl
@[simp high] theorem pO{d:D}{o0 o1 o2 o3 o4 o5:Option D}:eV 6 (o0::o1::o2::o3::o4::o5::some d::E) S=some (d,S):=nr rfl
@[simp high] theorem pJ{d:D}{o0 o1 o2 o3 o4 o5 o6:Option D}:eV 7 (o0::o1::o2::o3::o4::o5::o6::some d::E) S=some (d,S):=nr rfl
@[simp high] theorem pL{d:D}{o0 o1 o2 o3 o4 o5 o6 o7:Option D}:eV 8 (o0::o1::o2::o3::o4::o5::o6::o7::some d::E) S=some (d,S):=nr rfl
@[simp high] theorem pG{d:D}{o0 o1 o2 o3 o4 o5 o6 o7 o8:Option D}:eV 9 (o0::o1::o2::o3::o4::o5::o6::o7::o8::some d::E) S=some (d,S):=nr rfl
@[simp high] theorem pA{d:D}{o0 o1 o2 o3 o4 o5 o6 o7 o8 o9:Option D}:eV 10 (o0::o1::o2::o3::o4::o5::o6::o7::o8::o9::some d::E) S=some (d,S):=nr rfl
@[simp high] theorem og{d:D}{o0 o1 o2 o3 o4 o5 o6 o7 o8 o9 o10:Option D}:eV 11 (o0::o1::o2::o3::o4::o5::o6::o7::o8::o9::o10::some d::E) S=some (d,S):=nr rfl
@[simp high] theorem nv{d:D}{o0 o1 o2 o3 o4 o5 o6 o7 o8 o9 o10 o11:Option D}:eV 12 (o0::o1::o2::o3::o4::o5::o6::o7::o8::o9::o10::o11::some d::E) S=some (d,S):=nr rfl
@[simp high] theorem nI{d:D}{o0 o1 o2 o3 o4 o5 o6 o7 o8 o9 o10 o11 o12:Option D}:eV 13 (o0::o1::o2::o3::o4::o5::o6::o7::o8::o9::o10::o11::o12::some d::E) S=some (d,S):=nr rfl
@[simp 20000] theorem lu{op:Op2}{d:D}:Nf cf (o2 op) [f,eC d] E S=(f E S).bind λr=>(op (dr r.2 r.1) (dr r.2 d)).bind λw=>fin cf w r.2:=by
  rw[YY];cases f E S<;>rfl
@[simp high] theorem jR{i:Nat}{y:Ex}:AU (A4 i f) y E S=(f E S).bind λr=>y (E.set i (some r.1)) r.2:=by
  rw[Qt,YS];cases f E S<;>rfl
@[simp high] theorem ia{y:Ex}:AU (Cb f) y E S=(f E S).bind λr=>y E r.2:=by
  rw[Qt,VF];cases f E S<;>rfl
end
section
theorem mulL{i j:Int}(h: -18446744073709551616<i)(g:i<18446744073709551616):E7 i j=true:=by
 unfold E7
 rw[sJ]
 exact .inl (sX (by lia))
theorem mulR{i j:Int}(h: -18446744073709551616<j)(g:j<18446744073709551616):E7 i j=true:=by
 unfold E7
 rw[sJ,sJ]
 exact .inr (.inl (sX (by lia)))
theorem Hs{n k:Nat}(h:n<2^k)(hk:k<=8000):n<Hl:=qB h (tE (by decide) hk)
theorem Ec{n:Int}(h0:0<n)(h1:n<1152921504606846976):n.natAbs<Hl:=Hs (k:=60) (show n.natAbs<2^60 by lia) (by decide)
variable{S:Sto}
noncomputable def SE(a b:Int):Int:=((x8 a.natAbs b.natAbs:Nat):Int)
theorem Lz{c:Ev}{b:Ex}{k:Nat}{E:En}:IS c b (k+1) E S=(c E S).bind λr=>match r.1 with
 | .bl true=>(b E r.2).bind λp=>match p.1 with
   | .nx=>IS c b k p.2.1 p.2.2
   | .ret w=>Gc (.ret w,p.2)
 | .bl false=>Gc (.nx,E,r.2)
 |_=>none:=rfl
theorem Yc{c:Ev}{b:Ex}{k:Nat}{E E2:En}{S1 S2:Sto}(e1:c E S=Gc (.bl true,S1))(e2:b E S1=Gc (.nx,E2,S2)):IS c b (k+1) E S=IS c b k E2 S2:=by
 rw[Lz,e1]
 show(b E S1).bind _=_
 rw[e2]
 rfl
theorem Wm{c:Ev}{b:Ex}{k:Nat}{E:En}{S1:Sto}(e1:c E S=Gc (.bl false,S1)):IS c b (k+1) E S=Gc (.nx,E,S1):=by
 rw[Lz,e1]
 rfl
theorem LP:∀(k:Nat) (x y:Nat),y<k->IS (eOp (o2 wGt) [eV 1,eC (.int 0)]) (Rg 0 1 (eV 1) (eOp (o2 P2) [eV 0,eV 1])) k [Gc (.int x),Gc (.int y)] S=Gc (.nx,[Gc (.int (x8 x y:Nat)),Gc (.int 0)],S)
 |0,x,y,h=>absurd h (Nat.not_lt_zero _)
 |k+1,x,y,h=>by
  by_cases hy:y=0
  .subst hy
   rw[Wm (S1:=S) (by simp)]
   simp
  .have ih:=LP k y (x % y) (by have:=Nat.mod_lt x (xY hy);lia)
   rw[show((x % y:Nat):Int)=(x:Int) % (y:Int) by lia]at ih
   have hy4:0<y:=xY hy
   rw[Yc (S1:=S) (S2:=S) (E2:=[Gc (.int y),Gc (.int ((x:Int) % (y:Int)))]) (by simp[hy4]) (by simp[hy4]),ih]
   rw[Nat.gcd_comm x y,Nat.gcd_rec y x,Nat.gcd_comm]
theorem Ud(a b:Int)(ha:0<=a)(hb:0<=b):Fx [.int a,.int b] S=Gc (.int (SE a b),S):=by
 have:=LP (S:=S) (b.natAbs+2) a.natAbs b.natAbs (by lia)
 have e1:((a.natAbs:Nat):Int)=a:=by lia
 have e2:((b.natAbs:Nat):Int)=b:=by lia
 rw[e1,e2]at this
 simp[Fx,J3,Vc,bA,this,SE]
noncomputable def lowP(t b:Int):Int×Int:=(t / SE t b,b / SE t b)
theorem XZ{t b:Int}(h:0<b):0<SE t b:=by
 unfold SE
 have:0<x8 t.natAbs b.natAbs:=Nat.gcd_pos_of_pos_right _ (by lia)
 lia
theorem cS{t b:Int}(h:0<b):(SE t b).natAbs<=b.natAbs:=by
 unfold SE
 have:x8 t.natAbs b.natAbs<=b.natAbs:=Nat.gcd_le_right _ (by lia)
 lia
noncomputable def amD(p:Int×Int):D:=.tup [.int p.1,.int p.2]
theorem WZ{t b:Int}:SE (t.natAbs:Int) b=SE t b:=by
 unfold SE
 rw[rW]
theorem QH{t b:Int}(h:0<b)(hb:b.natAbs<Hl):Bm [.int t,.int b] S=Gc (amD (lowP t b),S):=by
 have h1:=XZ (t:=t) h
 have h2:(SE t b).natAbs<Hl:=rR (cS h) hb
 have h3:=Ud (S:=S) (t.natAbs:Int) b (by lia) (by lia)
 rw[WZ]at h3
 simp[Bm,Mw,h3,h1,h2,amD,lowP]
noncomputable def aD(q:Rat):D:=.tup [.int q.num,.int q.den]
def Sz(k:Nat)(q:Rat):Prop:=q.num.natAbs<2^k/\q.den<2^k
theorem F0(q:Rat):(q.num:Rat) / (q.den:Rat)=q:=by
 rw[<-Rat.mkRat_eq_div,Rat.mkRat_self]
theorem ME(q:Rat):(q.den:Rat)≠0:=by
 have:=q.den_nz
 exact_mod_cast this
theorem LI(t:Int)(n:Nat)(h:0<n):((t:Rat) / (n:Rat)).num=t / (x8 t.natAbs n:Nat)/\((t:Rat) / (n:Rat)).den=n / x8 t.natAbs n:=by
 have e:(t:Rat) / (n:Rat)=mkRat t n:=by rw[Rat.mkRat_eq_div]
 rw[e,Rat.mkRat_def,dif_neg (by lia),Rat.normalize_eq]
 exact⟨rfl,rfl⟩
theorem QZ{t b:Int}(h:0<b):amD (lowP t b)=aD ((t:Rat) / (b:Rat)):=by
 obtain⟨n,rfl⟩:∃n:Nat,b=n:=⟨b.natAbs,by lia⟩
 obtain⟨h1,h2⟩:=LI t n (by lia)
 unfold amD aD lowP SE
 rw[show(((n:Nat):Int):Rat)=((n:Nat):Rat)from rfl,h1,h2]
 simp
theorem Mu{t b:Int}{k:Nat}(h:0<b)(ht:t.natAbs<2^k)(hb:b.natAbs<2^k):Sz k ((t:Rat) / (b:Rat)):=by
 obtain⟨n,rfl⟩:∃n:Nat,b=n:=⟨b.natAbs,by lia⟩
 obtain⟨h1,h2⟩:=LI t n (by lia)
 unfold Sz
 rw[show(((n:Nat):Int):Rat)=((n:Nat):Rat)from rfl,h1,h2]
 exact⟨rR (Int.natAbs_ediv_le_natAbs _ _) ht,rR (Nat.div_le_self _ _) (by simpa using hb)⟩
theorem Ga{a b j k:Nat}(ha:a<2^j)(hb:b<2^k):a*b<2^(j+k):=by
 rw[Nat.pow_add]
 exact Nat.mul_lt_mul'' ha hb
theorem K5{i j:Int}{k m:Nat}(hi:i.natAbs<2^k)(hj:j.natAbs<2^m)(h:k<=60000)(g:m<=60000):E7 i j=true:=by
 unfold E7
 rw[sJ,sJ,qO]
 exact .inr (.inr ⟨sX (qB hi (tE (by decide) h)),sX (qB hj (tE (by decide) g))⟩)
theorem den_pos(q:Rat):0<(q.den:Int):=by have:=q.den_pos;lia
theorem dN{x:Int}{n m:Nat}(h:x.natAbs<2^n)(g:n<=m):x.natAbs<2^m:=qB h (tE (by decide) g)
section
variable{p q:Rat}{j k:Nat}
theorem GV(hp:Sz j p)(hq:Sz k q):(p.num*q.den+q.num*p.den).natAbs<2^(j+k+1)/\((p.den:Int)*q.den).natAbs<2^(j+k)/\(p.num*q.den-q.num*p.den).natAbs<2^(j+k+1):=by
 have a1:=Ga hp.1 hq.2
 have a2:=Ga hq.1 hp.2
 have a3:=Ga hp.2 hq.2
 rw[Nat.add_comm k j]at a2
 have e:2^(j+k+1)=2^(j+k)+2^(j+k):=by rw[Nat.pow_succ];lia
 refine⟨?_,?_,?_⟩
 .refine rR (Int.natAbs_add_le _ _) ?_
  rw[va,va,rW,rW,e]
  lia
 .rw[va,rW,rW];exact a3
 .refine rR (Int.natAbs_sub_le _ _) ?_
  rw[va,va,rW,rW,e]
  lia
theorem RY:(((p.num*q.den+q.num*p.den:Int):Rat) / (((p.den:Int)*q.den:Int):Rat))=p+q:=by
 have h1:=F0 p;have h2:=F0 q
 have d1:=ME p;have d2:=ME q
 push_cast
 grind
theorem Xu:(((p.num*q.den-q.num*p.den:Int):Rat) / (((p.den:Int)*q.den:Int):Rat))=p-q:=by
 have h1:=F0 p;have h2:=F0 q
 have d1:=ME p;have d2:=ME q
 push_cast
 grind
theorem Pc:(((p.num*q.num:Int):Rat) / (((p.den:Int)*q.den:Int):Rat))=p*q:=by
 have h1:=F0 p;have h2:=F0 q
 have d1:=ME p;have d2:=ME q
 push_cast
 grind
theorem dP(hp:Sz j p)(hq:Sz k q):Sz (j+k+1) (p+q):=by
 rw[<-RY]
 have:=GV hp hq
 exact Mu (uf (den_pos _) (den_pos _)) this.1 (dN this.2.1 (by lia))
theorem dG(hp:Sz j p)(hq:Sz k q):Sz (j+k+1) (p-q):=by
 rw[<-Xu]
 have:=GV hp hq
 exact Mu (uf (den_pos _) (den_pos _)) this.2.2 (dN this.2.1 (by lia))
theorem PH(hp:Sz j p)(hq:Sz k q):Sz (j+k) (p*q):=by
 rw[<-Pc]
 have:=GV hp hq
 exact Mu (uf (den_pos _) (den_pos _)) (by rw[va];exact Ga hp.1 hq.1) this.2.1
end
section
variable{p q:Rat}{j k:Nat}
theorem ZF(hp:Sz j p)(hq:Sz k q)(hj:j+k<=7990):E7 p.num q.den=true/\E7 q.num p.den=true/\E7 p.den q.den=true/\E7 p.num q.num=true:=by
 refine⟨K5 hp.1 (by simpa using hq.2) (by lia) (by lia),K5 hq.1 (by simpa using hp.2) (by lia) (by lia),K5 (by simpa using hp.2) (by simpa using hq.2) (by lia) (by lia),K5 hp.1 hq.1 (by lia) (by lia)⟩
theorem Qr(hp:Sz j p)(hq:Sz k q)(hj:j+k<=7990):CN [aD p,aD q] S=Gc ((aD (p+q)),S):=by
 obtain⟨m1,m2,m3,m4⟩:=ZF hp hq (by lia)
 have b:=GV hp hq
 have l:=QH (S:=S) (t:=p.num*q.den+q.num*p.den) (b:=p.den*q.den) (uf (den_pos _) (den_pos _)) (Hs b.2.1 (by lia))
 rw[QZ (uf (den_pos _) (den_pos _)),RY]at l
 simp only[aD]at l⊢
 simp[CN,My,m1,m2,m3,l]
theorem Jm(hp:Sz j p)(hq:Sz k q)(hj:j+k<=7990):A1 [aD p,aD q] S=Gc ((aD (p*q)),S):=by
 obtain⟨m1,m2,m3,m4⟩:=ZF hp hq (by lia)
 have b:=GV hp hq
 have l:=QH (S:=S) (t:=p.num*q.num) (b:=p.den*q.den) (uf (den_pos _) (den_pos _)) (Hs b.2.1 (by lia))
 rw[QZ (uf (den_pos _) (den_pos _)),Pc]at l
 simp only[aD]at l⊢
 simp[A1,LV,m3,m4,l]
theorem d8:aD (-q)=.tup [.int (0-q.num),.int q.den]:=by
 unfold aD
 rw[show(-q).num=0-q.num by simp,show(-q).den=q.den by simp]
theorem eG(hq:Sz k q):Sz k (-q):=by
 unfold Sz
 rw[show(-q).num= -q.num by simp,show(-q).den=q.den by simp,Int.natAbs_neg]
 exact hq
theorem Zr(hp:Sz j p)(hq:Sz k q)(hj:j+k<=7990):Dp [aD p,aD q] S=Gc ((aD (p-q)),S):=by
 have l:=Qr (S:=S) hp (eG hq) hj
 rw[d8]at l
 rw[Rat.sub_eq_add_neg]
 simp only[aD]at l⊢
 simp at l
 simp[Dp,M8,l]
end
theorem WI{t b:Int}(h:0<b)(hb:b.natAbs<Hl):Bm [.int t,.int b] S=Gc ((aD (t / b)),S):=by
 rw[QH h hb,QZ h]
theorem R0{a b:Int}{k:Nat}(ha:a.natAbs<2^k)(hb:b.natAbs<2^k):(a+b).natAbs<2^(k+1):=by
 have e:2^(k+1)=2^k+2^k:=by rw[Nat.pow_succ];lia
 have:=Int.natAbs_add_le a b
 lia
section
variable{p q:Rat}{w m:Int}{j k n:Nat}
end
end
section
variable{S:Sto}{p:Nat}
theorem Zl{r:List D}(h:p<S.length):dr (S.set p (.lst r)) (.ref p)=.own r:=Aq (qL h)
def Pen(ds:List D):Prop:=∃a b c d:Int,ds=[.int a,.int b,.int c,.int d]/\0<=d/\d<1000000007
def Bg(p:Nat)(S:Sto):Prop:=∃ds,S[p]?=Gc (.lst ds)/\Pen ds
structure Pn(p:Nat)(S S':Sto):Prop where
 same:Ca [p] S S'
 pen:Bg p S'
theorem Pn.trans{S S' S2:Sto}(h:Pn p S S')(g:Pn p S' S2):Pn p S S2:=⟨h.same.trans g.same,g.pen⟩
theorem Pn.get{S S':Sto}(h:Pn p S S'){n:Nat}{c:Cl}(e:S[n]?=Gc c)(ha:n≠p):S'[n]?=Gc c:=h.same.get e (by simpa using ha)
theorem Pn.refl(h:Bg p S):Pn p S S:=⟨.refl,h⟩
theorem Bg.lt(h:Bg p S):p<S.length:=by obtain⟨ds,e,_⟩:=h;exact Af e
theorem Bg.app(h:Bg p S)(T:Sto):Bg p (S++T):=by obtain⟨ds,e,hp⟩:=h;exact⟨ds,by rw[pq (Af e)];exact e,hp⟩
theorem Ad(h:Bg p S){n:Int}(h0:0<n)(h1:n<1152921504606846976):∃r S',AH [.ref p,.int n] S=Gc (.int r,S')/\0<=r/\r<n/\Pn p S S':=by
 obtain⟨ds,hp,a,b,c,d,rfl,hd0,hd1⟩:=h
 have hl:=Af hp
 have hs:=Ec h0 h1
 have hr:=Aq hp
 have hc:=AR hp
 by_cases hb:b=1/\0<a
 .obtain⟨rfl,ha⟩:=hb
  refine⟨a % n,S.set p (.lst [.int (a / n),.int 1,.int c,.int d]),?_,tz _ (by lia),vJ _ h0,.set (by simp),_,qL hl,_,_,_,_,rfl,hd0,hd1⟩
  simp[AH,IC,ha,h0,hs,hr,hc]
 .have m1:E7 (d+17) (69621+2*(c+1))=true:=mulL (by lia) (by lia)
  have m2:E7 2 (c+1)=true:=mulL (by decide) (by decide)
  generalize ht:(d+17)*(69621+2*(c+1)) % 2147483647=t at*
  have t0:0<=t:=by rw[<-ht];exact tz _ (by decide)
  have t1:t<2147483647:=by rw[<-ht];exact vJ _ (by decide)
  have m3:E7 t t=true:=mulL (by lia) (by lia)
  have m4:E7 40503 (c+1)=true:=mulL (by decide) (by decide)
  generalize hu:(t*t+40503*(c+1)+5) % 2147483629=u at*
  have u0:0<=u:=by rw[<-hu];exact tz _ (by decide)
  have u1:u<2147483629:=by rw[<-hu];exact vJ _ (by decide)
  have m5:E7 u 48271=true:=mulL (by lia) (by lia)
  have d32:(32:Int).natAbs<Hl:=Ec (by decide) (by decide)
  have d32':(32:Nat)<Hl:=d32
  refine⟨u*48271 % 2147483647 / 32 % n,S.set p (.lst [.int a,.int b,.int (c+1),.int d]),?_,tz _ (by lia),vJ _ h0,.set (by simp),_,qL hl,_,_,_,_,rfl,hd0,hd1⟩
  by_cases hb1:b=1
  .subst hb1
   have ha:¬0<a:=λz=>hb ⟨rfl,z⟩
   simp[AH,IC,ha,h0,hs,hr,hc,Zl,hl,m1,m2,m3,m4,m5,ht,hu,d32']
  .have hb2:(b==1)=false:=by simpa using hb1
   simp[AH,IC,hb2,h0,hs,hr,hc,Zl,hl,m1,m2,m3,m4,m5,ht,hu,d32']
theorem ff(c:Int):∃p S',Hv [.int c] S=Gc (.ref p,S')/\Bg p S'/\Ca [] S S'/\S.length<=p:=by
 refine⟨S.length,S++[.lst [.int c,.int (if(10:Int)^18<=c then 1 else 0),.int 0,.int (c % 1000000007)]],?_,⟨_,qQ,_,_,_,_,rfl,tz _ (by decide),vJ _ (by decide)⟩,.app,p9 _⟩
 simp[Hv,O1]
theorem Fj{gs:Gd}{t:Tf}{c f:Ev}{acc:List D}{E:En}(h:gOk gs S):CC gs t c f [] acc E S=Gc (acc,S):=by
 unfold CC
 rw[qc h]
theorem NW {gs : Gd} {t : Tf} {c f : Ev} {d : D} {ds acc : List D} {E : En} (h : gOk gs S) (hz : acc.length < sizeLine) : CC gs t c f (d :: ds) acc E S = (t d E S).bind fun E1 => (c E1 S).bind fun r => match r.1 with
      | .bl true => (f E1 r.2).bind fun p => CC gs t c f ds (acc ++ [p.1]) E1 p.2
      | .bl false => CC gs t c f ds acc E1 r.2
      | _ => none := by
  rw [CC, qc h, qc hz]
  all_goals rfl
theorem Ia{gs:Gd}{t:Tf}{c f:Ev}{d:D}{ds acc:List D}{E E1:En}{S1:Sto}(h:gOk gs S)(hz:acc.length<sizeLine)(e1:t d E S=Gc E1)(e2:c E1 S=Gc (.bl true,S1)):CC gs t c f (d::ds) acc E S=(f E1 S1).bind λp=>CC gs t c f ds (acc++[p.1]) E1 p.2:=by
 rw[NW h hz,e1]
 show(c E1 S).bind _=_
 rw[e2]
 rfl
theorem IY{gs:Gd}{t:Tf}{c f:Ev}{d:D}{ds acc:List D}{E E1:En}{S1:Sto}(h:gOk gs S)(hz:acc.length<sizeLine)(e1:t d E S=Gc E1)(e2:c E1 S=Gc (.bl false,S1)):CC gs t c f (d::ds) acc E S=CC gs t c f ds acc E1 S1:=by
 rw[NW h hz,e1]
 show(c E1 S).bind _=_
 rw[e2]
 rfl
theorem Kw{gs:Gd}{t:Tf}{f:Ev}{C:En}{m:Nat}{I:Sto->Prop}{R:D->D->Prop}(hg:∀S,I S->gOk gs S):∀{ds acc:List D} {os:En} {S:Sto},os.length=m->I S->acc.length+ds.length<=sizeLine->(∀d∈ds,∀os S,os.length=m->I S->∃us y S',us.length=m/\t d (C++os) S=Gc (C++us)/\f (C++us) S=Gc (y,S')/\I S'/\R d y)->∃ys S',CC gs t By f ds acc (C++os) S=Gc (acc++ys,S')/\I S'/\ys.length=ds.length/\Paired R ds ys
 | [],acc,os,S,ho,hI,hz,h=>⟨[],S,by rw[Fj (hg S hI)];simp,hI,rfl,.nil⟩
 |d::ds,acc,os,S,ho,hI,hz,h=>by
  obtain⟨us,y,S1,hu,e1,e2,I1,r1⟩:=h d qH os S ho hI
  obtain⟨ys,S2,e3,I2,l2,r2⟩:=Kw hg (ds:=ds) (acc:=acc++[y]) (os:=us) (S:=S1) hu I1 (by simp at hz ⊢; lia) λd' hd=>h d' (qC _ hd)
  refine⟨y::ys,S2,?_,I2,by simp[l2],.cons r1 r2⟩
  rw[Ia (hg S hI) (by simp at hz;lia) e1 Hn,e2,Ar,e3]
  simp
theorem comp_map{gs:Gd}{t:Tf}{f:Ev}{C:En}{m:Nat}{g:D->D}{S:Sto}(hg:gOk gs S):∀{ds acc:List D} {os:En},os.length=m->acc.length+ds.length<=sizeLine->(∀d∈ds,∀os,os.length=m->∃us,us.length=m/\t d (C++os) S=Gc (C++us)/\f (C++us) S=Gc (g d,S))->CC gs t By f ds acc (C++os) S=Gc (acc++ds.map g,S)
 | [],acc,os,ho,hz,h=>by rw[Fj hg];simp
 |d::ds,acc,os,ho,hz,h=>by
  obtain⟨us,hu,e1,e2⟩:=h d qH os ho
  rw[Ia hg (by simp at hz;lia) e1 Hn,e2,Ar]
  rw[comp_map hg hu (by simp at hz ⊢; lia) λd' hd=>h d' (qC _ hd)]
  simp
theorem HV{gs:Gd}{t:Tf}{b:Ex}{I:List D->En->Sto->Prop}(hg:∀ds E S,I ds E S->gOk gs S):∀{ds:List D} {E:En} {S:Sto},I ds E S->(∀d ds E S,I (d::ds) E S->∃E1 E2 S2,t d E S=Gc E1/\b E1 S=Gc (.nx,E2,S2)/\I ds E2 S2)->∃E' S',IV gs t b ds E S=Gc (.nx,E',S')/\I [] E' S'
 | [],E,S,hI,h=>⟨E,S,EI (hg _ _ _ hI),hI⟩
 |d::ds,E,S,hI,h=>by
  obtain⟨E1,E2,S2,e1,e2,I2⟩:=h d ds E S hI
  obtain⟨E',S',e3,I3⟩:=HV hg I2 h
  exact⟨E',S',by rw[Bq (hg _ _ _ hI),e1];simp[e2,e3],I3⟩
theorem pick{xs:List D}{r:Int}(h0:0<=r)(h1:r<xs.length):∃x,atI xs r=Gc x/\x∈xs:=⟨_,Yx h0 h1,tS _⟩
theorem IE{α β:Type}{P:β->Prop}:∀{xs:List α} {ys:List β},Paired (λ_ y=>P y) xs ys->∀y∈ys,P y
 |_,_,.nil,y,h=>by cases h
 |_,_,.cons r t,y,h=>by
  rcases qA.mp h with h|h
  .rw[h];exact r
  .exact IE t y h
theorem FA{lo:Int}{n:Nat}:(Kb lo n).length=n:=by simp[Kb]
end
def Ok(G B:Nat)(r:Rat):Prop:=∃z:Nat,r*(G:Rat)=(z:Rat)/\z<=B
theorem Mj{n:Nat}(h:0<n):(n:Rat)≠0:=by
 have:n≠0:=by lia
 exact_mod_cast this
theorem Ok.sz{G B k:Nat}{r:Rat}(h:Ok G B r)(hG:0<G)(g:G<2^k)(b:B<2^k):Sz k r:=by
 obtain⟨z,e,hz⟩:=h
 have e2:r=((z:Int):Rat) / ((G:Int):Rat):=by
  have:=Mj hG
  rw[show(((z:Nat):Int):Rat)=(z:Rat)from rfl,show(((G:Nat):Int):Rat)=(G:Rat)from rfl,<-e]
  grind
 rw[e2]
 exact Mu (by lia) (by simpa using rR hz b) (by simpa using g)
theorem Ok.up{G B t B':Nat}{r:Rat}(h:Ok G B r)(hB:B*t<=B'):Ok (G*t) B' r:=by
 obtain⟨z,e,hz⟩:=h
 refine⟨z*t,?_,qD (tF t hz) hB⟩
 push_cast
 rw[<-e]
 grind
theorem Ok.zero{G B:Nat}:Ok G B 0:=⟨0,by simp,rS _⟩
theorem Ok.one{G B:Nat}(h:G<=B):Ok G B 1:=⟨G,by simp,h⟩
theorem Ok.mix{G B a b t:Nat}{r o:Rat}(hr:Ok G B r)(ho:Ok G B o)(ht:a+b=t)(h0:0<t):Ok (G*t) (B*t) ((r*(a:Rat)+o*(b:Rat)) / (t:Rat)):=by
 obtain⟨z,e1,h1⟩:=hr
 obtain⟨y,e2,h2⟩:=ho
 refine⟨z*a+y*b,?_,?_⟩
 .have:=Mj h0
  push_cast
  rw[<-e1,<-e2]
  grind
 .rw[<-ht,Nat.mul_add]
  exact Nat.add_le_add (tF a h1) (tF b h2)
structure Tr where
 p:Nat
 k:Nat
 b:Nat
 ho:List Rat
 h:Int
 l:Int
structure Ld where
 k:Nat
 n:Int
 ow:List Rat
structure Stt where
 AF:List Ld
 hold:List Rat
 nums:List Int
inductive AV where
 |D4 (p k:Nat) (n:Int)
 |Oh (a b:Nat)
 |swap (l:Nat) (g:Int) (k:Nat) (n:Int)
 |B5 (t:Int) (l:Nat) (g:Int) (k:Nat) (n:Int)
 |Hf (l:Nat) (n:Int)
 |thr (l:Nat) (n:Int) (ws:List Int)
 |Ks (p q:Nat) (s:Rat)
noncomputable def shD(rs:List Rat):D:=.tup (rs.map aD)
noncomputable def Tr.d(t:Tr):D:=.tup [.int t.p,.int t.k,.int t.b,shD t.ho,.int t.h,.int t.l]
noncomputable def Ld.d(l:Ld):D:=.tup [.int l.k,.int l.n,shD l.ow]
noncomputable def AV.d:AV->D
 | .D4 p k n=>.tup [.str "bring",.int p,.int k,.int n]
 | .Oh a b=>.tup [.str "pool",.int a,.int b]
 | .swap l g k n=>.tup [.str "swap",.int l,.int g,.int k,.int n]
 | .B5 t l g k n=>.tup [.str "trade",.int t,.int l,.int g,.int k,.int n]
 | .Hf l n=>.tup [.str "spoil",.int l,.int n]
 | .thr l n ws=>.tup [.str "throw",.int l,.int n,.tup (ws.map .int)]
 | .Ks p q s=>.tup [.str "sell",.int p,.int q,aD s]
noncomputable def Jb(x:Rat)(os ss:List Rat):List Rat:=yj (λs o=>s*(1-x)+o*x) ss os
noncomputable def JA(p q:Nat)(s:Rat)(ss:List Rat):List Rat:=(ss.set p (ss.getD p 0-ss.getD p 0*s)).set q (ss.getD q 0+ss.getD p 0*s)
noncomputable def Et(n m:Int)(ss os:List Rat):List Rat:=yj (λs o=>(s*n+o*m) / (n+m:Int)) ss os
noncomputable def Ff(t:Tr)(ls:List Ld)(ws:List Int):Int:=(ls.map λl=>l.n*ws.getD l.k 0).sum+t.b*ws.getD t.k 0
noncomputable def Kk(t:Tr)(ls:List Ld)(l:Nat)(n:Int)(ws:List Int):Rat:=((n*ws.getD ((ls[l]?.map (·.k)).getD 0) 0:Int):Rat) / (Ff t ls ws:Rat)
noncomputable def AQ(ls:List Ld)(l:Nat):Ld:=ls.getD l ⟨0,0,[]⟩
noncomputable def less(ls:List Ld)(l:Nat)(n:Int):List Ld:=ls.set l {AQ ls l with n:=(AQ ls l).n-n}
noncomputable def Su(p i:Nat):List Rat:=(qR p).map λj=>if j=i then 1 else 0
noncomputable def step(t:Tr)(s:Stt):AV->Stt
 | .D4 p k n=>{s with AF:=s.AF++[⟨k,n,Su t.p p⟩]}
 | .Oh a b=>{s with AF:=less (less s.AF a (AQ s.AF a).n) b (AQ s.AF b).n++[⟨(AQ s.AF a).k,(AQ s.AF a).n+(AQ s.AF b).n,Et (AQ s.AF a).n (AQ s.AF b).n (AQ s.AF a).ow (AQ s.AF b).ow⟩]}
 | .swap l g k n=>{s with AF:=less s.AF l g++[⟨k,n,(AQ s.AF l).ow⟩]}
 | .B5 u l g k n=>{s with AF:=less s.AF l g++[⟨k,n,(AQ s.AF l).ow⟩],nums:=s.nums++[u]}
 | .Hf l n=>{s with AF:=less s.AF l n}
 | .thr l n ws=>{s with AF:=(less s.AF l n).map λx=>{x with ow:=Jb (Kk t s.AF l n ws) (AQ s.AF l).ow x.ow},hold:=Jb (Kk t s.AF l n ws) (AQ s.AF l).ow s.hold}
 | .Ks p q x=>{s with AF:=s.AF.map λy=>{y with ow:=JA p q x y.ow},hold:=JA p q x s.hold}
def Ji(t:Tr):Prop:=1<=t.p/\t.p<=4/\1<=t.k/\t.k<=5/\1<=t.b/\t.b<=20
def Can(t:Tr)(s:Stt):AV->Prop
 | .D4 p k n=>p<t.p/\k<t.k/\1<=n/\n<2^131
 | .Oh a b=>a≠b/\a<s.AF.length/\b<s.AF.length/\0<(AQ s.AF a).n/\0<(AQ s.AF b).n/\(AQ s.AF a).k=(AQ s.AF b).k
 | .swap l g k n=>l<s.AF.length/\1<=g/\g<=(AQ s.AF l).n/\k<t.k/\k≠(AQ s.AF l).k/\1<=n/\n<2^131
 | .B5 u l g k n=>l<s.AF.length/\1<=g/\g<=(AQ s.AF l).n/\k<t.k/\k≠(AQ s.AF l).k/\1<=n/\n<2^131/\u∉s.nums/\0<=u/\u<=9
 | .Hf l n=>l<s.AF.length/\1<=n/\n<=(AQ s.AF l).n
 | .thr l n ws=>l<s.AF.length/\1<=n/\n<=(AQ s.AF l).n/\ws.length=t.k+1/\∀w∈ws,1<=w/\w<=99
 | .Ks p q x=>p≠q/\p<t.p/\q<t.p/\0<x.num/\x.num<=x.den/\x.den<=12
structure Fo(t:Tr)(k:Nat)(s:Stt):Prop where
 len:s.AF.length<=4+k
 kind:∀l∈s.AF,l.k<t.k
 pcs:∀l∈s.AF,0<=l.n/\l.n<2^(131+k)
 own:∀l∈s.AF,l.ow.length=t.p
 hold:s.hold.length=t.p
 nm:s.nums.length<=k
 gb:∃G B:Nat,0<G/\G<=B/\B<2^(30+170*k)/\(∀l∈s.AF,∀r∈l.ow,Ok G B r)/\∀r∈s.hold,Ok G B r
theorem Fo.sz{t:Tr}{k:Nat}{s:Stt}(h:Fo t k s):(∀l∈s.AF,∀r∈l.ow,Sz (30+170*k) r)/\∀r∈s.hold,Sz (30+170*k) r:=by
 obtain⟨G,B,g0,gb,b,h1,h2⟩:=h.gb
 exact⟨λl hl r hr=>(h1 l hl r hr).sz g0 (rR gb b) b,λr hr=>(h2 r hr).sz g0 (rR gb b) b⟩
theorem BG{ls:List Ld}{l:Nat}(h:l<ls.length):AQ ls l∈ls:=by
 unfold AQ
 rw[qJ,pf h]
 exact tS h
theorem Ft{ls:List Ld}{l:Nat}(h:l<ls.length):ls[l]?=Gc (AQ ls l):=by
 unfold AQ
 rw[qJ,pf h]
 rfl
theorem OH{ls:List Ld}{l:Nat}{n:Int}{x:Ld}(h:x∈less ls l n)(hl:l<ls.length):x∈ls\/x={AQ ls l with n:=(AQ ls l).n-n}:=by
 unfold less at h
 rcases tQ h with h|h
 .exact .inl h
 .exact .inr h
theorem B8{ls:List Ld}{l:Nat}{n:Int}:(less ls l n).length=ls.length:=by simp[less]
section
variable{S:Sto}{p:Nat}
theorem Qc{P:Int->Prop}:∀{ys:List D},(∀y∈ys,∃i:Int,y=.int i/\P i)->∃ns:List Int,ys=ns.map D.int/\∀n∈ns,P n
 | [],_=>⟨[],rfl,λn h=>by cases h⟩
 |y::ys,h=>by
  obtain⟨i,rfl,hi⟩:=h y qH
  obtain⟨ns,rfl,hn⟩:=Qc (P:=P) (ys:=ys) λz hz=>h z (qC _ hz)
  exact⟨i::ns,rfl,λn hn'=>by
   rcases qA.mp hn' with e|e
   .rw[e];exact hi
   .exact hn n e⟩
theorem Ph{ns:List Int}(h:∀n∈ns,0<=n/\n<=8):0<=ns.sum/\ns.sum<=8*ns.length/\∀n∈ns,n<=ns.sum:=by
 induction ns with
 |nil=>simp
 |cons a l ih=>
  have h1:=h a qH
  obtain⟨i1,i2,i3⟩:=ih λn hn=>h n (qC _ hn)
  rw[vP,qg]
  refine⟨by lia,by push_cast;lia,λn hn=>?_⟩
  rcases qA.mp hn with e|e
  .lia
  .have:=i3 n e;lia
theorem SJ (h : Bg p S) {n : Nat} (hn : n ≤ 20) : ∃ (ns : List Int) (S' : Sto), CC [] (tNm 1) By (eOp (o2 wIx) [(GH [(eC (.int 0)), (eC (.int 1)), (AJ AH [(eV 0), (eC (.int 4))]), (AJ AH [(eV 0), (eC (.int 9))])]), (AJ AH [(eV 0), (eC (.int 4))])]) (Kb 0 n) [] [Gc (.ref p), none] S = Gc (ns.map D.int, S') /\ Pn p S S' /\ ns.length = n /\ ∀ i ∈ ns, 0 ≤ i /\ i ≤ 8 := by
  obtain ⟨ys, S', e, hI, l, r⟩ := Kw (gs := []) (t := tNm 1) (f := eOp (o2 wIx) [(GH [(eC (.int 0)), (eC (.int 1)), (AJ AH [(eV 0), (eC (.int 4))]), (AJ AH [(eV 0), (eC (.int 9))])]), (AJ AH [(eV 0), (eC (.int 4))])]) (C := [Gc (.ref p)]) (m := 1) (I := Pn p S) (R := fun _ y => ∃ i : Int, y = .int i /\ 0 ≤ i /\ i ≤ 8)
    (fun _ _ => Ah) (ds := Kb 0 n) (acc := []) (os := [none]) rfl (Pn.refl h) (by rw [FA]; simp; exact AN (by lia)) fun d _ os S0 ho I0 => by
      obtain ⟨o, rfl⟩ := Og ho
      obtain ⟨r1, S1, e1, a1, b1, p1⟩ := Ad I0.pen (n := 4) (by decide) (by decide)
      obtain ⟨r2, S2, e2, a2, b2, p2⟩ := Ad p1.pen (n := 9) (by decide) (by decide)
      obtain ⟨r3, S3, e3, a3, b3, p3⟩ := Ad p2.pen (n := 4) (by decide) (by decide)
      obtain ⟨x, ex, hx⟩ := pick (xs := [.int 0, .int 1, .int r1, .int r2]) (r := r3) a3 (by simpa using b3)
      refine ⟨[Gc d], x, S3, rfl, by simp, by simp [e1, e2, e3, ex], ((I0.trans p1).trans p2).trans p3, ?_⟩
      simp only [qA, qT, rP] at hx
      rcases hx with rfl | rfl | rfl | rfl
      · exact ⟨0, rfl, by decide, by decide⟩
      · exact ⟨1, rfl, by decide, by decide⟩
      · exact ⟨r1, rfl, by lia, by lia⟩
      · exact ⟨r2, rfl, by lia, by lia⟩
  obtain ⟨ns, rfl, hns⟩ := Qc (IE r)
  exact ⟨ns, S', by simpa using e, hI, by simpa [FA] using l, hns⟩
noncomputable def IK(ns:List Int):List Rat:=ns.map λ(n:Int)=>(n:Rat) / (ns.sum:Rat)
theorem Lj{ns:List Int}(h:∀n∈ns,0<=n/\n<=8)(hs:0<ns.sum):∀r∈IK ns,Ok ns.sum.toNat ns.sum.toNat r:=by
 intro r hr
 obtain⟨n,hn,rfl⟩:=qi.mp hr
 have h1:=h n hn
 have h2:=(Ph h).2.2 n hn
 refine⟨n.toNat,?_,by lia⟩
 have e1:((ns.sum.toNat:Nat):Rat)=(ns.sum:Rat):=by
  have:((ns.sum.toNat:Nat):Int)=ns.sum:=by lia
  exact congrArg (λz:Int=>(z:Rat)) this
 have e2:((n.toNat:Nat):Rat)=(n:Rat):=by
  have:((n.toNat:Nat):Int)=n:=by lia
  exact congrArg (λz:Int=>(z:Rat)) this
 rw[e1,e2]
 have:(ns.sum:Rat)≠0:=by
  intro z
  have:=wC.mp z
  lia
 grind
theorem Tx{s:Rat}:∀{ns:List Int},(ns.map λ(n:Int)=>(n:Rat) / s).sum=(ns.sum:Rat) / s
 | []=>by simp;grind
 |n::ns=>by
  rw[qS,vP,vP,Tx (ns:=ns)]
  push_cast
  grind
theorem Oy{ns:List Int}(hs:0<ns.sum):(IK ns).sum=1:=by
 unfold IK
 rw[Tx]
 have:(ns.sum:Rat)≠0:=by
  intro z
  have:=wC.mp z
  lia
 grind
theorem RM{ns:List Int}{q:Nat}(hq:S[q]?=Gc (.lst (ns.map D.int)))(hl:ns.length<=20)(hn:∀n∈ns,0<=n/\n<=8)(hs:0<ns.sum):CC [(q,ns.map D.int)] (tNm 1) By (AJ Bm [eV 1,eOp (o1 ZY) [eV 0]]) (ns.map D.int) [] [Gc (.ref q),none] S=Gc ((IK ns).map aD,S):=by
 obtain⟨s1,s2,s3⟩:=Ph hn
 have:=comp_map (gs:=[(q,ns.map D.int)]) (t:=tNm 1) (f:=AJ Bm [eV 1,eOp (o1 ZY) [eV 0]]) (C:=[Gc (.ref q)]) (m:=1) (g:=λd=>match d with| .int n=>aD ((n:Rat) / (ns.sum:Rat))|d=>d) (S:=S) (λg hg=>by rw[qV.mp hg];exact AR hq) (ds:=ns.map D.int) (acc:=[]) (os:=[none]) rfl (by simp;exact AN (by lia)) λd hd os ho=>by
  obtain⟨o,rfl⟩:=Og ho
  obtain⟨i,hi,rfl⟩:=qi.mp hd
  have m:=WI (S:=S) (t:=i) hs (Ec (by lia) (by lia))
  exact⟨[Gc (.int i)],rfl,by simp,by simp[Aq hq,GQ,m]⟩
 have e2:(ns.map D.int).map (λd=>match d with| .int n=>aD ((n:Rat) / (ns.sum:Rat))|d=>d)=(IK ns).map aD:=by
  unfold IK
  rw[sR,sR]
  rfl
 rw[e2]at this
 simpa using this
theorem RJ(h:Bg p S){n:Nat}(h1:1<=n)(h2:n<=4):∃rs S',De [.ref p,.int n] S=Gc (shD rs,S')/\Pn p S S'/\(rs.length=n/\rs.sum=1)/\∃G:Nat,0<G/\G<=32/\∀r∈rs,Ok G G r:=by
 obtain⟨ns,S1,e1,p1,l1,i1⟩:=SJ (n:=n) h (by lia)
 obtain⟨s1,s2,s3⟩:=Ph i1
 have hq:(S1++[Cl.lst (ns.map D.int)])[S1.length]?=Gc (.lst (ns.map D.int)):=qQ
 have pp:Bg p (S1++[Cl.lst (ns.map D.int)]):=p1.pen.app _
 have hlt:=p1.pen.lt
 have r1:Ho (n:Int)=true:=C4 (by lia) (by lia)
 by_cases hz:ns.sum=0
 .obtain⟨r,S2,e2,a2,b2,p2⟩:=Ad pp (n:=n) (by lia) (by lia)
  have hq2:S2[S1.length]?=Gc (.lst (ns.map D.int)):=p2.get hq (by lia)
  have hn':∀x∈ns.set r.toNat 1,0<=x/\x<=8:=λx hx=>by
   rcases tQ hx with hx|rfl
   .exact i1 x hx
   .exact⟨by decide,by decide⟩
  have hs':0<(ns.set r.toNat 1).sum:=by
   have:=(Ph hn').2.2 1 (List.mem_set (by lia) 1)
   lia
  have hq3:(S2.set S1.length (.lst ((ns.set r.toNat 1).map D.int)))[S1.length]?=Gc (.lst ((ns.set r.toNat 1).map D.int)):=qL (Af hq2)
  have e3:=RM hq3 (by simp;lia) hn' hs'
  have ix:ixN ns.length r=Gc r.toNat:=Qo a2 (by lia)
  refine⟨IK (ns.set r.toNat 1),S2.set S1.length (.lst ((ns.set r.toNat 1).map D.int)),?_,⟨?_,?_⟩,⟨by simp[IK,l1],Oy hs'⟩,_,(show 0<(ns.set r.toNat 1).sum.toNat by lia),?_,Lj hn' hs'⟩
  .have sq3:=Dv hq3
   rw[yk]at e3 sq3 hq3
   simp[De,Ib,r1,e1,Aq hq,GQ,hz,e2,AR hq2,ix,sq3,e3,shD]
  .have g:Ca [p] S (S1++[Cl.lst (ns.map D.int)]):=p1.same.trans .app
   refine⟨qD (g.trans p2.same).len (by simp),λm hm hmp=>?_⟩
   rw[qE (by have:=p1.same.len;lia)]
   exact(g.trans p2.same).keep m hm hmp
  .obtain⟨ds,ed,hd⟩:=p2.pen
   exact⟨ds,by rw[qE (by lia)];exact ed,hd⟩
  .have:=(Ph hn').2.1
   rw[tm]at this
   lia
 .have hz':(ns.sum==0)=false:=by simpa using hz
  have e3:=RM hq (by lia) i1 (by lia)
  refine⟨IK ns,S1++[Cl.lst (ns.map D.int)],?_,⟨p1.same.trans .app,pp⟩,⟨by simp[IK,l1],Oy (by lia)⟩,_,(show 0<ns.sum.toNat by lia),by lia,Lj i1 (by lia)⟩
  have sq3:=Dv hq
  simp[De,Ib,r1,e1,Aq hq,GQ,hz',sq3,e3,shD]
end
section
variable{S:Sto}{p:Nat}
theorem bx:(2:Nat)<Hl:=Ec (n:=2) (by decide) (by decide)
theorem NZ(h:Bg p S):∃n S',BF [.ref p] S=Gc (.int n,S')/\Pn p S S'/\1<=n/\n<2^130:=by
 obtain⟨r1,S1,e1,a1,b1,p1⟩:=Ad h (n:=99) (by decide) (by decide)
 obtain⟨r2,S2,e2,a2,b2,p2⟩:=Ad p1.pen (n:=4) (by decide) (by decide)
 obtain⟨r3,S3,e3,a3,b3,p3⟩:=Ad p2.pen (n:=40) (by decide) (by decide)
 obtain⟨r4,S4,e4,a4,b4,p4⟩:=Ad p3.pen (n:=999) (by decide) (by decide)
 obtain⟨r5,S5,e5,a5,b5,p5⟩:=Ad p4.pen (n:=7) (by decide) (by decide)
 have pp:=(((p1.trans p2).trans p3).trans p4).trans p5
 have d2:=bx
 have go:∀g:Int,1<=g->g<2^130->∃n:Int,atI [D.int (1+r2),.int (1+r3),.int (1+r4),.int g] (r5 / 2)=Gc (.int n)/\1<=n/\n<2^130:=λg g1 g2=>by
  obtain⟨x,ex,hx⟩:=pick (xs:=[D.int (1+r2),.int (1+r3),.int (1+r4),.int g]) (r:=r5 / 2) (by lia) (by simp;lia)
  simp only[qA,qT,rP]at hx
  rcases hx with rfl|rfl|rfl|rfl
  .exact⟨_,ex,by lia,by lia⟩
  .exact⟨_,ex,by lia,by lia⟩
  .exact⟨_,ex,by lia,by lia⟩
  .exact⟨_,ex,g1,g2⟩
 first
  |(obtain⟨n,en,n1,n2⟩:=go (10^39+r1) (by lia) (by lia)
    exact⟨n,S5,by simp[BF,HX,e1,e2,e3,e4,e5,d2]at en ⊢; simp[en],pp,n1,n2⟩)
  |(obtain⟨n,en,n1,n2⟩:=go (10^30+r1) (by lia) (by lia)
    exact⟨n,S5,by simp[BF,HX,e1,e2,e3,e4,e5,d2]at en ⊢; simp[en],pp,n1,n2⟩)
theorem Lv(h:Bg p S):∃n S',BF [.ref p] S=Gc (.int n,S')/\Pn p S S'/\1<=n/\n<2^131:=by
 obtain⟨n,S',a,b,c,d⟩:=NZ h
 exact⟨n,S',a,b,c,tK d (by decide)⟩
theorem Eu{r:Int}(h:0<=r):∃m:Nat,r=m:=⟨r.toNat,by lia⟩
theorem YT(h:Bg p S):∃t S',Gv [.ref p] S=Gc (Tr.d t,S')/\Pn p S S'/\Ji t/\(t.ho.length=t.p/\t.ho.sum=1)/\∃G:Nat,0<G/\G<=32/\∀r∈t.ho,Ok G G r:=by
 obtain⟨r1,S1,e1,a1,b1,p1⟩:=Ad h (n:=4) (by decide) (by decide)
 obtain⟨r2,S2,e2,a2,b2,p2⟩:=Ad p1.pen (n:=5) (by decide) (by decide)
 obtain⟨r3,S3,e3,a3,b3,p3⟩:=Ad p2.pen (n:=3) (by decide) (by decide)
 obtain⟨r4,S4,e4,a4,b4,p4⟩:=Ad p3.pen (n:=20) (by decide) (by decide)
 obtain⟨r5,S5,e5,a5,b5,p5⟩:=Ad p4.pen (n:=2) (by decide) (by decide)
 obtain⟨m1,rfl⟩:=Eu a1
 obtain⟨m2,rfl⟩:=Eu a2
 obtain⟨b,eb,hb1,hb2⟩:∃b:Nat,atI [D.int (1+r3),.int (1+r4)] r5=Gc (.int b)/\1<=b/\b<=20:=by
  obtain⟨x,ex,hx⟩:=pick (xs:=[D.int (1+r3),.int (1+r4)]) (r:=r5) a5 (by simpa using b5)
  obtain⟨m3,rfl⟩:=Eu a3
  obtain⟨m4,rfl⟩:=Eu a4
  simp only[qA,qT,rP]at hx
  rcases hx with rfl|rfl
  .exact⟨1+m3,by rw[ex];simp,by lia,by lia⟩
  .exact⟨1+m4,by rw[ex];simp,by lia,by lia⟩
 obtain⟨rs,S6,e6,p6,l6,G,g0,g1,g2⟩:=RJ p5.pen (n:=1+m1) (by lia) (by lia)
 obtain⟨r7,S7,e7,a7,b7,p7⟩:=Ad p6.pen (n:=10) (by decide) (by decide)
 obtain⟨r8,S8,e8,a8,b8,p8⟩:=Ad p7.pen (n:=10) (by decide) (by decide)
 rw[show((1+m1:Nat):Int)=1+(m1:Int) by lia]at e6
 refine⟨⟨1+m1,1+m2,b,rs,r7,r8⟩,S8,?_,((((((p1.trans p2).trans p3).trans p4).trans p5).trans p6).trans p7).trans p8,⟨by simp,by simp;lia,by simp,by simp;lia,hb1,hb2⟩,l6,G,g0,g1,g2⟩
 simp[Gv,LZ,e1,e2,e3,e4,e5,eb,e6,e7,e8,Tr.d]
theorem Ya(h:Bg p S):∃x S',FW [.ref p] S=Gc (aD x,S')/\Pn p S S'/\0<x.num/\x.num<=x.den/\x.den<=12:=by
 obtain⟨r1,S1,e1,a1,b1,p1⟩:=Ad h (n:=12) (by decide) (by decide)
 obtain⟨r2,S2,e2,a2,b2,p2⟩:=Ad p1.pen (n:=1+r1) (by lia) (by lia)
 have m:=WI (S:=S2) (t:=1+r2) (b:=1+r1) (by lia) (Ec (by lia) (by lia))
 obtain⟨m1,rfl⟩:=Eu a1
 obtain⟨m2,rfl⟩:=Eu a2
 have rp:=LI (1+(m2:Int)) (1+m1) (by lia)
 have eb:(((1+(m1:Int):Int)):Rat)=(((1+m1:Nat)):Rat):=by
  have:(1+(m1:Int))=((1+m1:Nat):Int):=by lia
  rw[this];rfl
 have en:(1+(m2:Int)).natAbs=1+m2:=by lia
 have gp:0<x8 (1+m2) (1+m1):=Nat.gcd_pos_of_pos_left _ (by lia)
 obtain⟨q,hq⟩:=Nat.gcd_dvd_left (1+m2) (1+m1)
 obtain⟨q',hq'⟩:=Nat.gcd_dvd_right (1+m2) (1+m1)
 refine⟨((1+(m2:Int):Int):Rat) / ((1+(m1:Int):Int):Rat),S2,?_,p1.trans p2,?_,?_,?_⟩
 .simp[FW,Lh,e1,e2,m]
 .rw[eb,rp.1,en]
  generalize x8 (1+m2) (1+m1)=g at*
  have:(1+(m2:Int))=((g*q:Nat):Int):=by lia
  rw[this,yr,yH _ (by lia)]
  have:q≠0:=λz=>by subst z;lia
  lia
 .rw[eb,rp.1,rp.2,en]
  generalize x8 (1+m2) (1+m1)=g at*
  have t1:(1+(m2:Int))=((g*q:Nat):Int):=by lia
  rw[t1,yr,yH _ (by lia),hq',Nat.mul_div_cancel_left _ gp]
  have:q<=q':=by
   have:g*q<=g*q':=by lia
   exact Nat.le_of_mul_le_mul_left this gp
  lia
 .rw[eb,rp.2]
  exact qD (Nat.div_le_self _ _) (by lia)
theorem Vg (h : Bg p S) {n : Nat} (hn : n ≤ 6) : ∃ (ws : List Int) (S' : Sto), Dl [.ref p, .int n] S = Gc (.tup (ws.map .int), S') /\ Pn p S S' /\ ws.length = n /\ ∀ w ∈ ws, 1 ≤ w /\ w ≤ 99 := by
  obtain ⟨ys, S', e, hI, l, r⟩ := Kw (gs := []) (t := tNm 1) (f := (eOp (o2 Be) [(eC (.int 1)), (eOp (o2 wIx) [(GH [(AJ AH [(eV 0), (eC (.int 3))]), (AJ AH [(eV 0), (eC (.int 99))])]), (AJ AH [(eV 0), (eC (.int 2))])])])) (C := [Gc (.ref p)]) (m := 1) (I := Pn p S) (R := fun _ y => ∃ i : Int, y = .int i /\ 1 ≤ i /\ i ≤ 99)
    (fun _ _ => Ah) (ds := Kb 0 n) (acc := []) (os := [none]) rfl (Pn.refl h) (by rw [FA]; simp; exact AN (by lia)) fun d _ os S0 ho I0 => by
      obtain ⟨o, rfl⟩ := Og ho
      obtain ⟨r1, S1, e1, a1, b1, p1⟩ := Ad I0.pen (n := 3) (by decide) (by decide)
      obtain ⟨r2, S2, e2, a2, b2, p2⟩ := Ad p1.pen (n := 99) (by decide) (by decide)
      obtain ⟨r3, S3, e3, a3, b3, p3⟩ := Ad p2.pen (n := 2) (by decide) (by decide)
      obtain ⟨x, ex, hx⟩ := pick (xs := [.int r1, .int r2]) (r := r3) a3 (by simpa using b3)
      simp only [qA, qT, rP] at hx
      rcases hx with rfl | rfl
      · exact ⟨[Gc d], .int (1 + r1), S3, rfl, by simp, by simp [e1, e2, e3, ex], ((I0.trans p1).trans p2).trans p3, _, rfl, by lia, by lia⟩
      · exact ⟨[Gc d], .int (1 + r2), S3, rfl, by simp, by simp [e1, e2, e3, ex], ((I0.trans p1).trans p2).trans p3, _, rfl, by lia, by lia⟩
  obtain ⟨ns, rfl, hns⟩ := Qc (IE r)
  have r1 : Ho (n : Int) = true := C4 (by lia) (by lia)
  have e' : CC [] (tNm 1) By (eOp (o2 Be) [(eC (.int 1)), (eOp (o2 wIx) [(GH [(AJ AH [(eV 0), (eC (.int 3))]), (AJ AH [(eV 0), (eC (.int 99))])]), (AJ AH [(eV 0), (eC (.int 2))])])]) (Kb 0 n) [] [Gc (.ref p), none] S = Gc (ns.map D.int, S') := by simpa using e
  exact ⟨ns, S', by simp [Dl, KD, r1, e'], hI, by simpa [FA] using l, hns⟩
def HA(t:Tr)(ls:List Ld):Prop:=(∀l∈ls,l.k<t.k/\1<=l.n/\l.n<2^131/\l.ow.length=t.p/\l.ow.sum=1)/\∃G:Nat,0<G/\G<=32^ls.length/\∀l∈ls,∀r∈l.ow,Ok G G r
theorem HA.snoc{t:Tr}{ls:List Ld}{l:Ld}(h:HA t ls)(h1:l.k<t.k/\1<=l.n/\l.n<2^131/\l.ow.length=t.p/\l.ow.sum=1){g:Nat}(g0:0<g)(g1:g<=32)(g2:∀r∈l.ow,Ok g g r):HA t (ls++[l]):=by
 obtain⟨ha,G,G0,G1,G2⟩:=h
 refine⟨λx hx=>?_,G*g,x9 G0 g0,?_,λx hx r hr=>?_⟩
 .rcases qW.mp hx with hx|hx
  .exact ha x hx
  .rw[qV.mp hx];exact h1
 .rw[qw,yw,Nat.pow_succ]
  exact zV G1 g1
 .rcases qW.mp hx with hx|hx
  .exact(G2 x hx r hr).up (p9 _)
  .rw[qV.mp hx]at hr
   have:=(g2 r hr).up (t:=G) (B':=G*g) (by rw[vG];exact p9 _)
   rwa [vG g G]at this
end
section
variable{S:Sto}{p:Nat}
theorem HA.nil{t:Tr}:HA t []:=⟨λl hl=>(nomatch hl),1,by decide,by simp,λl hl=>(nomatch hl)⟩
theorem WG(h:Bg p S){t:Tr}(ht:Ji t):∃(ls:List Ld) (S':Sto),G6 [.ref p,t.d] S=Gc (.tup (ls.map Ld.d),S')/\Pn p S S'/\HA t ls/\ls.length<=4:=by
 obtain⟨t1,t2,t3,t4,t5,t6⟩:=ht
 have hlt:=h.lt
 have hq:(S++[Cl.lst []])[S.length]?=Gc (.lst []):=qQ
 obtain⟨r1,S1,e1,a1,b1,p1⟩:=Ad (h.app [Cl.lst []]) (n:=5) (by decide) (by decide)
 obtain⟨r2,S2,e2,a2,b2,p2⟩:=Ad p1.pen (n:=3) (by decide) (by decide)
 obtain⟨n,en,hn⟩:∃n:Nat,atI [D.int 0,.int 1,.int r1] r2=Gc (.int n)/\n<=4:=by
  obtain⟨x,ex,hx⟩:=pick (xs:=[D.int 0,.int 1,.int r1]) (r:=r2) a2 (by simpa using b2)
  simp only[qA,qT,rP]at hx
  rcases hx with rfl|rfl|rfl
  .exact⟨0,ex,by decide⟩
  .exact⟨1,ex,by decide⟩
  .exact⟨r1.toNat,by rw[ex,rJ a1],by lia⟩
 have q2:S2[S.length]?=Gc (.lst []):=(p1.trans p2).get hq (by lia)
 have rn:Ho (n:Int)=true:=C4 (by lia) (by lia)
 obtain⟨E',S',ef,ls,o,rfl,f1,f2,f3,f4,f5⟩:=HV (gs:=[]) (t:=tNm 3) (b:=Cb (Jv Ka (eV 2) [BL [AJ AH [eV 0,eOp (o2 wIx) [eV 1,eC (.int 1)]],AJ BF [eV 0],AJ De [eV 0,eOp (o2 wIx) [eV 1,eC (.int 0)]]]]))
  (I:=λds E S'=>∃(ls:List Ld) (o:pY D),E=[Gc (.ref p),Gc t.d,Gc (.ref S.length),o]/\S'[S.length]?=Gc (.lst (ls.map Ld.d))/\Bg p S'/\Ca [p] S S'/\HA t ls/\ls.length+ds.length<=4)
  (λ_ _ _ _=>Ah) (ds:=Kb 0 n) (E:=[Gc (.ref p),Gc t.d,Gc (.ref S.length),none]) (S:=S2)
  ⟨[],none,rfl,q2,p2.pen,Ca.app.trans (p1.trans p2).same,HA.nil,by simp[FA];exact hn⟩ (by
    rintro d ds E S0 ⟨ls,o,rfl,i1,i2,i3,i4,i5⟩
    obtain⟨x1,T1,g1,c1,d1,k1⟩:=Ad i2 (n:=t.k) (by lia) (by lia)
    obtain⟨x2,T2,g2,k2,c2,d2⟩:=Lv k1.pen
    obtain⟨rs,T3,g3,k3,l3,G,G0,G1,G2⟩:=RJ k2.pen (n:=t.p) t1 t2
    obtain⟨m1,rfl⟩:=Eu c1
    have kk:=(k1.trans k2).trans k3
    have j1:T3[S.length]?=Gc (.lst (ls.map Ld.d)):=kk.get i1 (by lia)
    have hz:ls.length<sizeLine:=qB (show ls.length<5 by lia) (AN (by decide))
    refine⟨[Gc (.ref p),Gc t.d,Gc (.ref S.length),Gc d],[Gc (.ref p),Gc t.d,Gc (.ref S.length),Gc d],T3.set S.length (.lst ((ls++[Ld.mk m1 x2 rs]).map Ld.d)),by simp,?_,ls++[Ld.mk m1 x2 rs],Gc d,rfl,qL (Af j1),?_,?_,i4.snoc (l:=Ld.mk m1 x2 rs) ⟨show m1<t.k by lia,c2,d2,l3⟩ G0 G1 G2,by simp at i5 ⊢; lia⟩
    .have e3:atI [D.int t.p,.int t.k,.int t.b,shD t.ho,.int t.h,.int t.l] 1=Gc (.int t.k):=by simp
     simp[Tr.d,g1,g2,g3,AR i1,AR j1,hz,Ld.d]
    .obtain⟨ds',ed,hd⟩:=kk.pen
     exact⟨ds',by rw[qE (by lia)];exact ed,hd⟩
    .refine⟨qD (i3.trans kk.same).len (by simp),λm hm hmp=>?_⟩
     rw[qE (by lia)]
     exact(i3.trans kk.same).keep m hm hmp)
 refine⟨ls,S',?_,⟨f3,f2⟩,f4,by simpa using f5⟩
 simp[G6,LU,e1,e2,en,rn,ef,Aq f1]
noncomputable def CY(x:Ld):Cl:=.lst [.int x.k,.int x.n,shD x.ow]
structure SAt(S:Sto)(s l m:Nat)(as:List Nat)(st:Stt):Prop where
 root:S[s]?=Gc (.lst [.ref l,shD st.hold,.ref m])
 lo:S[l]?=Gc (.lst (as.map .ref))
 nu:S[m]?=Gc (.lst (st.nums.map .int))
 ld:∀(i a:Nat) (x:Ld),as[i]?=Gc a->st.AF[i]?=Gc x->S[a]?=Gc (CY x)
 len:as.length=st.AF.length
 nd:(s::l::m::as).Nodup
theorem Yw:∀{ls:List Ld} {acc:List D} {o:pY D} {S:Sto},acc.length+ls.length<=100->CC [] (tNm 0) By (cn (o1 Jq) [eV 0]) (ls.map Ld.d) acc [o] S=Gc (acc++(List.range' S.length ls.length).map D.ref,S++ls.map CY)
 | [],acc,o,S,h=>by rw[sG,Fj Ah];simp
 |x::ls,acc,o,S,h=>by
  rw[qS,Ia (E1:=[Gc x.d]) Ah (qB (show acc.length<101 by simp at h;lia) (AN (by decide))) (by simp) Hn]
  have:cn (o1 Jq) [eV 0] [Gc x.d] S=Gc (.ref S.length,S++[CY x]):=by simp[Ld.d,CY]
  rw[this,Ar,Yw (by simp at h ⊢; lia)]
  simp[List.range'_succ]
theorem getElem?_at{α:Type}{xs:List α}{x:α}{n:Nat}(h:n=xs.length):(xs++[x])[n]?=Gc x:=by subst h;exact qQ
theorem OF{t:Tr}{ls:List Ld}{x:D}(hl:ls.length<=20):∃s l m as S',Cv [.tup [t.d,.tup (ls.map Ld.d),x]] S=Gc (.ref s,S')/\SAt S' s l m as ⟨ls,t.ho,[]⟩/\Ca [] S S'/\(∀n∈s::l::m::as,S.length<=n):=by
 have e:=Yw (ls:=ls) (acc:=[]) (o:=none) (S:=S) (by simp;lia)
 refine⟨S.length+ls.length+2,S.length+ls.length,S.length+ls.length+1,List.range' S.length ls.length,S++ls.map CY++[.lst ((List.range' S.length ls.length).map D.ref)]++[.lst []]++[.lst [.ref (S.length+ls.length),shD t.ho,.ref (S.length+ls.length+1)]],?_,⟨?_,?_,?_,?_,?_,?_⟩,?_,?_⟩
 .simp[Cv,LH,Tr.d,e,shD]
  lia
 .exact getElem?_at (by simp;lia)
 .rw[pq (by simp),pq (by simp)]
  exact getElem?_at (by simp)
 .rw[pq (by simp;lia)]
  exact getElem?_at (by simp;lia)
 .intro i a y ha hy
  have hi:i<ls.length:=(qF.mp hy).1
  have:a=S.length+i:=by
   rw[List.getElem?_range' hi]at ha
   simp at ha;lia
  subst this
  rw[pq (by simp;lia),pq (by simp;lia),pq (by simp;lia),qy (by lia)]
  have hy':ls[i]?=Gc y:=hy
  simp[hy']
 .simp
 .rw[tj,tj,tj]
  refine⟨?_,?_,?_,List.nodup_range'⟩
  .simp only[qA,wW];lia
  .simp only[qA,wW];lia
  .simp only[wW];lia
 .rw[rz,rz,rz]
  exact .app
 .intro n hn
  simp only[qA,wW]at hn
  lia
end
section
variable{S:Sto}{p:Nat}
@[simp] theorem nK{rs:List Rat}{S:Sto}:sqD S (shD rs)=some (rs.map aD,[]):=nr rfl
@[simp] theorem oq{rs:List Rat}{S:Sto}:dr S (shD rs)=.val (shD rs):=nr rfl
@[simp] theorem l7{rs:List Rat}:asS (.val (shD rs))=some (rs.map aD):=nr rfl
@[simp] theorem lL{S:Sto}{r:List D}:dr (S++[.lst r]) (.ref S.length)=.own r:=Aq List.getElem?_concat_length
@[simp] theorem cw{S:Sto}{r:List D}:Ep (S++[.lst r]) S.length=some r:=AR List.getElem?_concat_length
theorem set_same{S:Sto}{q:Nat}{c:Cl}(h:S[q]?=Gc c):S.set q c=S:=by
 apply List.ext_getElem?
 intro i
 by_cases e:q=i
 .subst e;rw[qL (Af h),h]
 .rw[qE e]
theorem P7{gs:Gd}{t:Tf}{b:Ex}{C:En}{m q:Nat}{h:D->D}{I:Sto->Prop}(hg:∀S,I S->gOk gs S)(hI:∀S c,I S->I (S.set q c)):∀{ds acc:List D} {os:En} {S:Sto},os.length=m->I S->S[q]?=Gc (.lst acc)->acc.length+ds.length<=1000->(∀d∈ds,∀os S acc,os.length=m->I S->S[q]?=Gc (.lst acc)->acc.length<sizeLine->∃us us',t d (C++os) S=Gc (C++us)/\b (C++us) S=Gc (.nx,C++us',S.set q (.lst (acc++[h d])))/\us'.length=m)->∃os',os'.length=m/\IV gs t b ds (C++os) S=Gc (.nx,C++os',S.set q (.lst (acc++ds.map h)))
 | [],acc,os,S,ho,hS,hq,hz,H=>⟨os,ho,by
     rw[EI (hg S hS)]
     have:S.set q (.lst (acc++List.map h []))=S:=by
      rw[sG,uX]
      exact set_same hq
     rw[this]⟩
 |d::ds,acc,os,S,ho,hS,hq,hz,H=>by
  have hl:=Af hq
  obtain⟨us,us',e1,e2,hu⟩:=H d qH os S acc ho hS hq (qB (show acc.length<1001 by simp at hz;lia) (qD (by decide) (show 1001<=sizeLine by decide)))
  obtain⟨os',ho',e3⟩:=P7 hg hI (ds:=ds) (acc:=acc++[h d]) (os:=us') (S:=S.set q (.lst (acc++[h d]))) hu (hI S _ hS) (qL hl) (by simp at hz ⊢; lia) λd' hd=>H d' (qC _ hd)
  refine⟨os',ho',?_⟩
  rw[Bq (hg S hS),e1,Ar,e2,Ar,La,e3,List.set_set]
  simp
noncomputable def un:D->Rat
 | .tup [.int n,.int d]=>(n:Rat) / (d:Rat)
 |_=>0
theorem cC(r:Rat):un (aD r)=r:=F0 r
noncomputable def QF(f:Rat->Rat->Rat):D->D
 | .tup [a,b]=>aD (f (un a) (un b))
 |d=>d
theorem N5{f:Rat->Rat->Rat}:∀{ss os:List Rat},(O2 (ss.map aD) (os.map aD)).map (QF f)=(yj f ss os).map aD
 | [],os=>by simp[O2]
 |s::ss,[]=>by simp[O2]
 |s::ss,o::os=>by
  have ih:=N5 (f:=f) (ss:=ss) (os:=os)
  unfold O2 at ih⊢
  simp only[qS,xZ,List.zipWith_cons_cons]at ih⊢
  rw[ih]
  simp[QF,cC]
theorem UR{ss os:List Rat}{d:D}(h:d∈O2 (ss.map aD) (os.map aD)):∃s∈ss,∃o∈os,d=.tup [aD s,aD o]:=by
 unfold O2 at h
 obtain⟨⟨a,b⟩,h1,rfl⟩:=qi.mp h
 have h2:=uY h1
 obtain⟨s,hs,rfl⟩:=qi.mp h2.1
 obtain⟨o,ho,rfl⟩:=qi.mp h2.2
 exact⟨s,hs,o,ho,rfl⟩
theorem Zf:aD 1=.tup [.int 1,.int 1]:=rfl
theorem gf(n:Int):aD (n:Rat)=.tup [.int n,.int 1]:=by
 unfold aD
 simp
theorem ZJ{n:Int}{k:Nat}(h:n.natAbs<2^k)(hk:1<=k):Sz k (n:Rat):=by
 unfold Sz
 have:1<2^k:=xc (by lia)
 simp[h,this]
theorem ZA{k:Nat}(hk:1<=k):Sz k (1:Rat):=by
 have:1<2^k:=xc (by lia)
 exact⟨by simpa using this,by simpa using this⟩
theorem RD{x:Rat}{ss os:List Rat}{j i:Nat}(hs:∀r∈ss,Sz j r)(ho:∀r∈os,Sz j r)(hx:Sz i x)(hj:2*j+2*i<=7900)(hl:ss.length<=10):∃S',EA [shD ss,aD x,shD os] S=Gc (shD (Jb x os ss),S')/\Ca [] S S':=by
 have hq:(S++[Cl.lst []])[S.length]?=Gc (.lst []):=qQ
 obtain⟨os',ho',e⟩:=P7 (gs:=[]) (t:=tTp [tNm 4,tNm 5]) (b:=Cb (Jv Ka (eV 3) [AJ CN [AJ A1 [eV 4,AJ Dp [BL [eC (.int 1),eC (.int 1)],eV 1]],AJ A1 [eV 5,eV 1]]])) (C:=[Gc (shD ss),Gc (aD x),Gc (shD os),Gc (.ref S.length)]) (m:=2) (q:=S.length) (h:=QF λs o=>s*(1-x)+o*x) (I:=λ_=>yu) (λ_ _=>Ah) (λ_ _ _=>trivial)
  (ds:=O2 (ss.map aD) (os.map aD)) (acc:=[]) (os:=[none,none]) (S:=S++[Cl.lst []]) rfl trivial hq (by simp[Kr];lia) (by
    intro d hd os0 S0 acc h0 _ hq0 hz
    obtain⟨o1,o2,rfl⟩:=kh h0
    obtain⟨s,hs',o,ho',rfl⟩:=UR hd
    have l1:=Zr (S:=S0) (ZA (k:=1) (by decide)) hx (by lia)
    have s1:=(dG (ZA (k:=1) (by decide)) hx)
    have l2:=Jm (S:=S0) (hs s hs') s1 (by lia)
    have l3:=Jm (S:=S0) (ho o ho') hx (by lia)
    have l4:=Qr (S:=S0) (PH (hs s hs') s1) (PH (ho o ho') hx) (by lia)
    rw[Zf]at l1
    refine⟨[Gc (aD s),Gc (aD o)],[Gc (aD s),Gc (aD o)],by simp,?_,rfl⟩
    simp[l1,l2,l3,l4,AR hq0,hz,QF,cC])
 rw[N5]at e
 refine⟨(S++[Cl.lst []]).set S.length (.lst ((Jb x os ss).map aD)),?_,?_⟩
 .have e':IV [] (tTp [tNm 4,tNm 5]) (Cb (Jv Ka (eV 3) [AJ CN [AJ A1 [eV 4,AJ Dp [BL [eC (.int 1),eC (.int 1)],eV 1]],AJ A1 [eV 5,eV 1]]])) (O2 (ss.map aD) (os.map aD)) [Gc (shD ss),Gc (aD x),Gc (shD os),Gc (.ref S.length),none,none] (S++[Cl.lst []])=Gc (.nx,[Gc (shD ss),Gc (aD x),Gc (shD os),Gc (.ref S.length)]++os',(S++[Cl.lst []]).set S.length (.lst ((Jb x os ss).map aD))):=by simpa[Jb]using e
  simp[EA,Lp,e']
  rfl
 .refine⟨by simp,λn hn _=>?_⟩
  rw[qE (by lia),pq hn]
end
section
variable{S:Sto}{p:Nat}
theorem getD_get{α:Type}{xs:List α}{n:Nat}{d:α}(h:n<xs.length):xs[n]?=Gc (xs.getD n d):=by
 rw[qJ,pf h]
 rfl
theorem getD_mem{α:Type}{xs:List α}{n:Nat}{d:α}(h:n<xs.length):xs.getD n d∈xs:=qX (getD_get h)
theorem dH{ss:List Rat}{n:Nat}(h:n<ss.length):atI (ss.map aD) (n:Int)=Gc (aD (ss.getD n 0)):=C9 (by rw[qf,getD_get h];rfl)
theorem eN{ss:List Rat}{n:Nat}(h:n<ss.length):ixN (ss.map aD).length (n:Int)=Gc n:=Qd (by simpa using h)
theorem U2{p q:Nat}{x:Rat}{ss:List Rat}{j i:Nat}(hs:∀r∈ss,Sz j r)(hx:Sz i x)(hj:2*j+i<=7900)(hp:p<ss.length)(hq:q<ss.length)(hpq:p≠q):∃S',FD [shD ss,(AV.Ks p q x).d] S=Gc (shD (JA p q x ss),S')/\Ca [] S S':=by
 have sp:=hs _ (getD_mem (d:=0) hp)
 have sq:=hs _ (getD_mem (d:=0) hq)
 have l1:∀S,A1 [aD (ss.getD p 0),aD x] S=Gc (aD (ss.getD p 0*x),S):=λS=>Jm sp hx (by lia)
 have s1:=PH sp hx
 have l2:∀S,Dp [aD (ss.getD p 0),aD (ss.getD p 0*x)] S=Gc (aD (ss.getD p 0-ss.getD p 0*x),S):=λS=>Zr sp s1 (by lia)
 have l3:∀S,CN [aD (ss.getD q 0),aD (ss.getD p 0*x)] S=Gc (aD (ss.getD q 0+ss.getD p 0*x),S):=λS=>Qr sq s1 (by lia)
 have a1:=dH hp
 have i1:=eN hp
 have i2:ixN (((ss.map aD).set p (aD (ss.getD p 0-ss.getD p 0*x))).length) (q:Int)=Gc q:=Qd (by simpa using hq)
 have a2:atI ((ss.map aD).set p (aD (ss.getD p 0-ss.getD p 0*x))) (q:Int)=Gc (aD (ss.getD q 0)):=C9 (by
  rw[qE hpq,qf,getD_get hq];rfl)
 refine⟨S++[.lst ((JA p q x ss).map aD)],?_,.app⟩
 simp only[tm,qP]at i1 i2
 have em:(JA p q x ss).map aD=((ss.map aD).set p (aD (ss.getD p 0-ss.getD p 0*x))).set q (aD (ss.getD q 0+ss.getD p 0*x)):=by rw[JA,yk,yk]
 unfold shD
 rw[em]
 generalize aD (ss.getD p 0-ss.getD p 0*x)=d1 at*
 generalize aD (ss.getD q 0+ss.getD p 0*x)=d2 at*
 generalize aD (ss.getD p 0*x)=d3 at*
 generalize aD (ss.getD p 0)=d4 at*
 generalize aD (ss.getD q 0)=d5 at*
 simp[FD,NM,AV.d,a1,l1,l2,l3,i1,i2,a2]
theorem Us{x y:Ld}{a b:Nat}{j i:Nat}(ha:S[a]?=Gc (CY x))(hb:S[b]?=Gc (CY y))(hs:∀r∈x.ow,Sz j r)(ho:∀r∈y.ow,Sz j r)(hx:x.n.natAbs<2^i)(hy:y.n.natAbs<2^i)(h0:0<x.n+y.n)(h1:1<=i)(hj:2*j+4*i<=7900)(hl:x.ow.length<=10):∃S',F1 [.ref a,.ref b] S=Gc (shD (Et x.n y.n x.ow y.ow),S')/\Ca [] S S':=by
 have la:=Af ha
 have lb:=Af hb
 have hq:(S++[Cl.lst []])[S.length]?=Gc (.lst []):=qQ
 have ha':(S++[Cl.lst []])[a]?=Gc (CY x):=by rw[pq la];exact ha
 have hb':(S++[Cl.lst []])[b]?=Gc (CY y):=by rw[pq lb];exact hb
 obtain⟨os',ho',e⟩:=P7 (gs:=[]) (t:=tTp [tNm 3,tNm 4]) (b:=AU (A4 5 (AJ CN [AJ A1 [BL [eOp (o2 wIx) [eV 0,eC (.int 1)],eC (.int 1)],eV 3],AJ A1 [BL [eOp (o2 wIx) [eV 1,eC (.int 1)],eC (.int 1)],eV 4]]))
  (Cb (Jv Ka (eV 2) [AJ A1 [eV 5,AJ Bm [eC (.int 1),eOp (o2 Be) [eOp (o2 wIx) [eV 0,eC (.int 1)],eOp (o2 wIx) [eV 1,eC (.int 1)]]]]]))) (C:=[Gc (.ref a),Gc (.ref b),Gc (.ref S.length)]) (m:=3) (q:=S.length) (h:=QF λs o=>(s*x.n+o*y.n) / (x.n+y.n:Int)) (I:=λS'=>S'[a]?=Gc (CY x)/\S'[b]?=Gc (CY y)) (λ_ _=>Ah) (λS' c h=>⟨by rw[qE (by lia)];exact h.1,by rw[qE (by lia)];exact h.2⟩)
  (ds:=O2 (x.ow.map aD) (y.ow.map aD)) (acc:=[]) (os:=[none,none,none]) (S:=S++[Cl.lst []]) rfl ⟨ha',hb'⟩ hq (by simp[Kr];lia) (by
    intro d hd os0 S0 acc h0' hI hq0 hz
    obtain⟨o1,o2,o3,rfl⟩:=iw h0'
    obtain⟨s,hs',o,ho',rfl⟩:=UR hd
    have d1:=Aq hI.1
    have d2:=Aq hI.2
    have z1:=ZJ hx h1
    have z2:=ZJ hy h1
    have l1:=Jm (S:=S0) z1 (hs s hs') (by lia)
    have l2:=Jm (S:=S0) z2 (ho o ho') (by lia)
    have s1:=PH z1 (hs s hs')
    have s2:=PH z2 (ho o ho')
    have l3:=Qr (S:=S0) s1 s2 (by lia)
    have b1:=R0 hx hy
    have l4:=WI (S:=S0) (t:=1) h0 (Hs b1 (by lia))
    have s4:Sz (i+1) (((1:Int):Rat) / ((x.n+y.n:Int):Rat)):=Mu h0 (show(1:Int).natAbs<2^(i+1)from xc (by lia)) b1
    have l5:=Jm (S:=S0) (dP s1 s2) s4 (by lia)
    rw[gf]at l1 l2
    refine⟨[Gc (aD s),Gc (aD o),o3],[Gc (aD s),Gc (aD o),Gc (aD (x.n*s+y.n*o))],by simp,?_,rfl⟩
    have ev:(((x.n:Rat)*s+(y.n:Rat)*o)*(((1:Int):Rat) / ((x.n+y.n:Int):Rat)))=(s*x.n+o*y.n) / (x.n+y.n:Int):=by
     push_cast
     grind
    rw[ev]at l5
    have lf:(QF λs o=>(s*x.n+o*y.n) / (x.n+y.n:Int)) (.tup [aD s,aD o])=aD ((s*x.n+o*y.n) / (x.n+y.n:Int)):=by simp only[QF,cC]
    rw[lf]
    generalize aD ((s*x.n+o*y.n) / (x.n+y.n:Int))=e5 at*
    generalize aD (((1:Int):Rat) / ((x.n+y.n:Int):Rat))=e4 at*
    generalize aD (x.n*s+y.n*o)=e3 at*
    simp[d1,d2,CY,l1,l2,l3,l4,l5,AR hq0,hz])
 rw[N5]at e
 refine⟨(S++[Cl.lst []]).set S.length (.lst ((Et x.n y.n x.ow y.ow).map aD)),?_,?_⟩
 .have e':=e
  simp only[rF,qU]at e'
  have d1:=Aq ha'
  have d2:=Aq hb'
  change IV _ _ _ _ _ _=Gc (_,_,List.set _ _ (Cl.lst (List.map aD (Et x.n y.n x.ow y.ow))))at e'
  generalize Et x.n y.n x.ow y.ow=rs at*
  simp[F1,KU,d1,d2,e',shD]
 .refine⟨by simp,λn hn _=>?_⟩
  rw[qE (by lia),pq hn]
end
section
variable{S:Sto}{p:Nat}
theorem DU{α:Type}{gs:Gd}{t:Tf}{f:Ev}{C:En}{m:Nat}{e g:α->D}{S:Sto}(hg:gOk gs S):∀{xs:List α} {acc:List D} {os:En},os.length=m->acc.length+xs.length<=sizeLine->(∀x∈xs,∀os,os.length=m->∃us,us.length=m/\t (e x) (C++os) S=Gc (C++us)/\f (C++us) S=Gc (g x,S))->CC gs t By f (xs.map e) acc (C++os) S=Gc (acc++xs.map g,S)
 | [],acc,os,ho,hz,h=>by rw[sG,Fj hg];simp
 |x::xs,acc,os,ho,hz,h=>by
  obtain⟨us,hu,e1,e2⟩:=h x qH os ho
  rw[qS,Ia hg (by simp at hz;lia) e1 Hn,e2,Ar]
  rw[DU hg hu (by simp at hz ⊢; lia) λx' hx=>h x' (qC _ hx)]
  simp
theorem DK{α:Type}{gs:Gd}{t:Tf}{c f:Ev}{C:En}{m:Nat}{e g:α->D}{b:α->qk}{S:Sto}(hg:gOk gs S):∀{xs:List α} {acc:List D} {os:En},os.length=m->acc.length+xs.length<=sizeLine->(∀x∈xs,∀os,os.length=m->∃us,us.length=m/\t (e x) (C++os) S=Gc (C++us)/\c (C++us) S=Gc (.bl (b x),S)/\f (C++us) S=Gc (g x,S))->CC gs t c f (xs.map e) acc (C++os) S=Gc (acc++(xs.filter b).map g,S)
 | [],acc,os,ho,hz,h=>by rw[sG,Fj hg];simp
 |x::xs,acc,os,ho,hz,h=>by
  obtain⟨us,hu,e1,e2,e3⟩:=h x qH os ho
  cases hb:b x with
  |true=>
   rw[hb]at e2
   rw[qS,Ia hg (by simp at hz;lia) e1 e2,e3,Ar,DK hg hu (by simp at hz ⊢; lia) λd' hd=>h d' (qC _ hd)]
   simp[hb]
  |false=>
   rw[hb]at e2
   rw[qS,IY hg (by simp at hz;lia) e1 e2,DK hg hu (by simp at hz ⊢; lia) λd' hd=>h d' (qC _ hd)]
   simp[hb]
theorem Qx{as:List Nat}{ls:List Ld}(h:as.length=ls.length):as.map D.ref=(as.zip ls).map λz=>D.ref z.1:=by
 have:as=(as.zip ls).map Prod.fst:=(List.map_fst_zip (by lia)).symm
 conv=>lhs;rw[this]
 rw[sR];rfl
theorem TV{β:Type}{as:List Nat}{ls:List Ld}(h:as.length=ls.length)(g:Ld->β):ls.map g=(as.zip ls).map λz=>g z.2:=by
 have:ls=(as.zip ls).map Prod.snd:=(List.map_snd_zip (by lia)).symm
 conv=>lhs;rw[this]
 rw[sR];rfl
section
variable{s l m:Nat}{as:List Nat}{st:Stt}
theorem SAt.l8(h:SAt S s l m as st){z:Nat×Ld}(hz:z∈as.zip st.AF):S[z.1]?=Gc (CY z.2):=by
 obtain⟨i,hi⟩:=vR.mp hz
 have:=xh.mp hi
 exact h.ld i z.1 z.2 this.1 this.2
theorem SAt.at(h:SAt S s l m as st){i:Nat}(hi:i<st.AF.length):∃a,as[i]?=Gc a/\S[a]?=Gc (CY (AQ st.AF i))/\atI (as.map D.ref) (i:Int)=Gc (.ref a):=by
 have h1:i<as.length:=by rw[h.len];exact hi
 refine⟨as[i],pf h1,h.ld i _ _ (pf h1) (Ft hi),C9 (by rw[qf,pf h1];rfl)⟩
theorem SAt.guard(h:SAt S s l m as st):gOk [(l,as.map D.ref)] S:=by
 intro g hg
 simp only[qA,qT,rP]at hg
 subst hg
 exact AR h.lo
end
theorem UB{M:Int}(hM:0<=M):∀{xs:List Int},(∀x∈xs,0<=x/\x<=M)->0<=xs.sum/\xs.sum<=xs.length*M
 | [],_=>by simp
 |x::xs,h=>by
  have h1:=h x qH
  have h2:=UB hM λy hy=>h y (qC _ hy)
  simp only[vP,qg]
  refine⟨by lia,?_⟩
  have:((xs.length+1:Nat):Int)*M=xs.length*M+M:=by push_cast;grind
  lia
theorem Ml:∀{xs:List Int} {y:Int},(∀x∈xs,0<=x)->y∈xs->y<=xs.sum
 |x::xs,y,h,hy=>by
  have h1:=h x qH
  have h2:0<=xs.sum:=by
   clear hy
   induction xs with
   |nil=>simp
   |cons z zs ih=>
    have:=h z (by simp)
    have:=ih λw hw=>h w (by simp at hw ⊢; rcases hw with hw|hw<;>simp[hw])
    simp only[vP];lia
  simp only[vP]
  rcases qA.mp hy with e|e
  .lia
  .have:=Ml (λz hz=>h z (qC _ hz)) e
   lia
section
variable{t:Tr}{k:Nat}{st:Stt}{ws:List Int}{n:Int}{l:Nat}
theorem Pq{i:Nat}(hw:∀w∈ws,1<=w/\w<=99)(hi:i<ws.length):1<=ws.getD i 0/\ws.getD i 0<=99:=hw _ (getD_mem hi)
theorem Yv{i:Nat}(hi:i<ws.length):atI (ws.map D.int) (i:Int)=Gc (.int (ws.getD i 0)):=C9 (by rw[qf,getD_get hi];rfl)
theorem RV(hi:ws.length=k+1):atI (ws.map D.int) (-1:Int)=Gc (.int (ws.getD k 0)):=by
 have ix:ixN (ws.map D.int).length (-1)=Gc k:=by
  rw[qP,hi]
  unfold ixN
  simp
  lia
 unfold atI
 rw[ix]
 show(ws.map D.int)[k]?=_
 rw[qf,getD_get (d:=(0:Int)) (by lia)]
 rfl
theorem Kv(ht:Ji t)(h:Fo t k st)(hk:k<=20)(hl:ws.length=t.k+1)(hw:∀w∈ws,1<=w/\w<=99):0<Ff t st.AF ws/\Ff t st.AF ws<2^(145+k):=by
 obtain⟨t1,t2,t3,t4,t5,t6⟩:=ht
 have hP:(0:Int)<=2^(131+k):=Int.le_of_lt (Int.pow_pos (by decide))
 have hs:=UB (M:=2^(131+k)*99) (by lia) (xs:=st.AF.map λl=>l.n*ws.getD l.k 0) (by
  intro x hx
  obtain⟨y,hy,rfl⟩:=qi.mp hx
  have h1:=h.pcs y hy
  have h2:=Pq hw (i:=y.k) (by have:=h.kind y hy;lia)
  refine⟨Int.mul_nonneg h1.1 (by lia),Int.mul_le_mul (by lia) h2.2 (by lia) hP⟩)
 have hb:=Pq hw (i:=t.k) (by lia)
 have hlen:=h.len
 rw[qP]at hs
 have h3:(st.AF.length:Int)*(2^(131+k)*99)<=24*(2^(131+k)*99):=we (by lia) (by lia)
 have h4:(1:Int)<=t.b*ws.getD t.k 0:=by
  have:0<(t.b:Int)*ws.getD t.k 0:=uf (by lia) (by lia)
  lia
 have h5:t.b*ws.getD t.k 0<=20*99:=Int.mul_le_mul (by lia) hb.2 (by lia) (by decide)
 have h6:(2:Int)^(145+k)=2^(131+k)*16384:=by rw[show 145+k=(131+k)+14 by lia,Int.pow_add];rfl
 have h7:(1:Int)<=2^(131+k):=by have:(0:Int)<2^(131+k):=Int.pow_pos (by decide);lia
 have h7':(2:Int)^11<=2^(131+k):=by
  have:(2^11:Nat)<=2^(131+k):=tE (by decide) (by lia)
  exact_mod_cast this
 unfold Ff
 rw[h6]
 generalize (2:Int)^(131+k)=P at*
 lia
theorem UK(ht:Ji t)(h:Fo t k st)(hl:ws.length=t.k+1)(hw:∀w∈ws,1<=w/\w<=99)(hi:l<st.AF.length)(h1:1<=n)(h2:n<=(AQ st.AF l).n):0<n*ws.getD (AQ st.AF l).k 0/\n*ws.getD (AQ st.AF l).k 0<Ff t st.AF ws:=by
 obtain⟨t1,t2,t3,t4,t5,t6⟩:=ht
 have hw1:=Pq hw (i:=(AQ st.AF l).k) (by have:=h.kind _ (BG hi);lia)
 have hb:=Pq hw (i:=t.k) (by lia)
 have h4:(1:Int)<=t.b*ws.getD t.k 0:=by
  have:0<(t.b:Int)*ws.getD t.k 0:=uf (by lia) (by lia)
  lia
 have h5:=Ml (xs:=st.AF.map λl=>l.n*ws.getD l.k 0) (y:=(AQ st.AF l).n*ws.getD (AQ st.AF l).k 0) (by
  intro x hx
  obtain⟨y,hy,rfl⟩:=qi.mp hx
  have h1:=h.pcs y hy
  have h2:=Pq hw (i:=y.k) (by have:=h.kind y hy;lia)
  exact Int.mul_nonneg h1.1 (by lia)) (qi.mpr ⟨_,BG hi,rfl⟩)
 have h6:n*ws.getD (AQ st.AF l).k 0<=(AQ st.AF l).n*ws.getD (AQ st.AF l).k 0:=we h2 (by lia)
 refine⟨uf (by lia) (by lia),?_⟩
 unfold Ff
 lia
theorem Nj(hi:l<st.AF.length):Kk t st.AF l n ws=((n*ws.getD (AQ st.AF l).k 0:Int):Rat) / (Ff t st.AF ws:Rat):=by
 unfold Kk
 rw[Ft hi]
 rfl
theorem LR{x:Int}{j:Nat}(h0:0<=x)(h1:x<2^j):x.natAbs<2^j:=by
 have:((x.natAbs:Nat):Int)<((2^j:Nat):Int):=by
  rw[Int.natAbs_of_nonneg h0];push_cast;exact h1
 exact_mod_cast this
theorem bS(ht:Ji t)(h:Fo t k st)(hk:k<=20)(hl:ws.length=t.k+1)(hw:∀w∈ws,1<=w/\w<=99)(hi:l<st.AF.length)(h1:1<=n)(h2:n<=(AQ st.AF l).n):Sz (145+k) (Kk t st.AF l n ws):=by
 have a:=Kv ht h hk hl hw
 have b:=UK ht h hl hw hi h1 h2
 rw[Nj hi]
 exact Mu a.1 (LR (by lia) (by lia)) (LR (by lia) a.2)
theorem Z8{s r m:Nat}{as:List Nat}(hS:SAt S s r m as st)(ht:Ji t)(h:Fo t k st)(hk:k<=20)(hl:ws.length=t.k+1)(hw:∀w∈ws,1<=w/\w<=99)(hi:l<st.AF.length)(h1:1<=n)(h2:n<=(AQ st.AF l).n):Hz [t.d,.ref r,(AV.thr l n ws).d] S=Gc (aD (Kk t st.AF l n ws),S):=by
 have a:=Kv ht h hk hl hw
 obtain⟨x,x1,x2,x3⟩:=hS.at hi
 have hlen:=h.len
 have e:=DU (gs:=[(r,as.map D.ref)]) (t:=tTp [tNm 1,tNm 2,tNm 3]) (f:=eOp (o2 HB) [eV 2,eOp (o2 wIx) [eV 0,eV 1]]) (C:=[Gc (.tup (ws.map D.int))]) (m:=3) (e:=λz:Nat×Ld=>D.ref z.1) (g:=λz=>D.int (z.2.n*ws.getD z.2.k 0)) hS.guard (xs:=as.zip st.AF) (acc:=[]) (os:=[none,none,none]) rfl (qD (show _<=24 by simp;lia) (AN (by decide))) (by
  intro z hz os ho
  obtain⟨q1,q2,q3,rfl⟩:=iw ho
  have c1:=hS.l8 hz
  have hm:z.2∈st.AF:=(uY (a:=z.1) (b:=z.2) hz).2
  have hk:=h.kind _ hm
  have w1:=Yv (ws:=ws) (i:=z.2.k) (by lia)
  have w2:=Pq hw (i:=z.2.k) (by lia)
  have m1:E7 z.2.n (ws.getD z.2.k 0)=true:=mulR (by lia) (by lia)
  generalize ws.getD z.2.k 0=wz at*
  refine⟨[Gc (.int z.2.k),Gc (.int z.2.n),Gc (shD z.2.ow)],rfl,?_,?_⟩
  .simp[AR c1,CY]
  .simp[w1,m1])
 rw[<-Qx hS.len,<-TV hS.len (λx=>D.int (x.n*ws.getD x.k 0))]at e
 have e':=e
 simp only[rF,qU]at e'
 rw[Nj hi]
 have es:Kn (st.AF.map λx=>D.int (x.n*ws.getD x.k 0))=Gc (st.AF.map λx=>x.n*ws.getD x.k 0):=by
  have:=GQ (st.AF.map λx=>x.n*ws.getD x.k 0)
  rwa [sR]at this
 have w1:=Yv (ws:=ws) (i:=(AQ st.AF l).k) (by have:=h.kind _ (BG hi);lia)
 have w3:=Pq hw (i:=(AQ st.AF l).k) (by have:=h.kind _ (BG hi);lia)
 have w2:=RV hl
 have w4:=Pq hw (i:=t.k) (by lia)
 have m1:E7 n (ws.getD (AQ st.AF l).k 0)=true:=mulR (by lia) (by lia)
 have m2:E7 (t.b:Int) (ws.getD t.k 0)=true:=mulR (by lia) (by lia)
 have l1:=WI (S:=S) (t:=n*ws.getD (AQ st.AF l).k 0) a.1 (Hs (LR (by lia) a.2) (by lia))
 have e2:Ff t st.AF ws=(st.AF.map λx=>x.n*ws.getD x.k 0).sum+t.b*ws.getD t.k 0:=rfl
 rw[e2]at l1⊢
 generalize aD (((n*ws.getD (AQ st.AF l).k 0:Int):Rat) / (((st.AF.map λx=>x.n*ws.getD x.k 0).sum+t.b*ws.getD t.k 0:Int):Rat))=R at*
 generalize (st.AF.map λx=>x.n*ws.getD x.k 0)=es' at*
 generalize (st.AF.map λx=>D.int (x.n*ws.getD x.k 0))=es2 at*
 generalize ws.getD (AQ st.AF l).k 0=wa at*
 generalize ws.getD t.k 0=wb at*
 have dx:=Aq x2
 have dl:=Aq hS.lo
 simp[Hz,Mp,AV.d,Tr.d,Dv hS.lo,e',es,w2,m2,dl,x3,dx,CY,w1,m1,l1]
theorem VA{G B:Nat}(ht:Ji t)(h:Fo t k st)(hk:k<=20)(hl:ws.length=t.k+1)(hw:∀w∈ws,1<=w/\w<=99)(hi:l<st.AF.length)(h1:1<=n)(h2:n<=(AQ st.AF l).n){os ss:List Rat}(ho:∀r∈os,Ok G B r)(hs:∀r∈ss,Ok G B r):∀r∈Jb (Kk t st.AF l n ws) os ss,Ok (G*(Ff t st.AF ws).toNat) (B*(Ff t st.AF ws).toNat) r:=by
 have a:=Kv ht h hk hl hw
 have b:=UK ht h hl hw hi h1 h2
 intro r hr
 unfold Jb at hr
 rw[vR]at hr
 obtain⟨i,hi'⟩:=hr
 rw[wt]at hi'
 obtain⟨x,y,hx,hy,rfl⟩:=hi'
 rw[Nj hi]
 generalize n*ws.getD (AQ st.AF l).k 0=c at*
 generalize Ff t st.AF ws=W at*
 have:=Ok.mix (a:=(W-c).toNat) (b:=c.toNat) (t:=W.toNat) (hs x (qX hx)) (ho y (qX hy)) (by lia) (by lia)
 have e1:(((W-c).toNat:Nat):Rat)=(W:Rat)-(c:Rat):=by
  have:(((W-c).toNat:Nat):Int)=W-c:=rJ (by lia)
  have:((((W-c).toNat:Nat):Int):Rat)=((W-c:Int):Rat):=by rw[this]
  push_cast at this
  exact this
 have e2:((c.toNat:Nat):Rat)=(c:Rat):=by
  have:((c.toNat:Nat):Int)=c:=rJ (by lia)
  have:(((c.toNat:Nat):Int):Rat)=(c:Rat):=by rw[this]
  exact this
 have e3:((W.toNat:Nat):Rat)=(W:Rat):=by
  have:((W.toNat:Nat):Int)=W:=rJ (by lia)
  have:(((W.toNat:Nat):Int):Rat)=(W:Rat):=by rw[this]
  exact this
 rw[e1,e2,e3]at this
 have ne:(W:Rat)≠0:=by
  intro z
  have:=wC.mp z
  lia
 have ev:(x*((W:Rat)-(c:Rat))+y*(c:Rat)) / (W:Rat)=x*(1-(c:Rat) / (W:Rat))+y*((c:Rat) / (W:Rat)):=by grind
 rw[ev]at this
 exact this
end
end
section
variable{S:Sto}
theorem Ax{x y:Str}(h:sD x=true)(g:sD y=true):Dq (.str x) (.str y)=true:=by
 unfold Dq
 show(sD x && sD y && _)=true
 rw[h,g]
 rfl
theorem DP:sD (rK "bring")=true:=by decide+kernel
theorem FK:sD (rK "pool")=true:=by decide+kernel
theorem FX:sD (rK "swap")=true:=by decide+kernel
theorem DM:sD (rK "trade")=true:=by decide+kernel
theorem E9:sD (rK "spoil")=true:=by decide+kernel
theorem C8:sD (rK "throw")=true:=by decide+kernel
theorem Js:sD (rK "sell")=true:=by decide+kernel
@[simp] theorem Vp:Dq (.str (Str.ofString "bring")) (.str (Str.ofString "bring"))=true:=Ax DP DP
@[simp] theorem V4:deq (.str (Str.ofString "bring")) (.str (Str.ofString "bring"))=true:=nr rfl
@[simp] theorem Xx:Dq (.str (Str.ofString "bring")) (.str (Str.ofString "pool"))=true:=Ax DP FK
@[simp] theorem WV:deq (.str (Str.ofString "bring")) (.str (Str.ofString "pool"))=false:=nr rfl
@[simp] theorem XT:Dq (.str (Str.ofString "bring")) (.str (Str.ofString "swap"))=true:=Ax DP FX
@[simp] theorem XI:deq (.str (Str.ofString "bring")) (.str (Str.ofString "swap"))=false:=nr rfl
@[simp] theorem Vw:Dq (.str (Str.ofString "bring")) (.str (Str.ofString "trade"))=true:=Ax DP DM
@[simp] theorem Vq:deq (.str (Str.ofString "bring")) (.str (Str.ofString "trade"))=false:=nr rfl
@[simp] theorem Vn:Dq (.str (Str.ofString "bring")) (.str (Str.ofString "throw"))=true:=Ax DP C8
@[simp] theorem Vv:deq (.str (Str.ofString "bring")) (.str (Str.ofString "throw"))=false:=nr rfl
@[simp] theorem Xy:wIn false (.val (.str "bring")) (.val (.tup [.str "spoil",.str "throw"]))=some (.val (.bl false)):=nr rfl
@[simp] theorem YG:Dq (.str (Str.ofString "pool")) (.str (Str.ofString "bring"))=true:=Ax FK DP
@[simp] theorem X3:deq (.str (Str.ofString "pool")) (.str (Str.ofString "bring"))=false:=nr rfl
@[simp] theorem ZE:Dq (.str (Str.ofString "pool")) (.str (Str.ofString "pool"))=true:=Ax FK FK
@[simp] theorem ZO:deq (.str (Str.ofString "pool")) (.str (Str.ofString "pool"))=true:=nr rfl
@[simp] theorem XN:Dq (.str (Str.ofString "pool")) (.str (Str.ofString "trade"))=true:=Ax FK DM
@[simp] theorem YW:deq (.str (Str.ofString "pool")) (.str (Str.ofString "trade"))=false:=nr rfl
@[simp] theorem XM:Dq (.str (Str.ofString "pool")) (.str (Str.ofString "throw"))=true:=Ax FK C8
@[simp] theorem XG:deq (.str (Str.ofString "pool")) (.str (Str.ofString "throw"))=false:=nr rfl
@[simp] theorem WQ:Dq (.str (Str.ofString "swap")) (.str (Str.ofString "bring"))=true:=Ax FX DP
@[simp] theorem YA:deq (.str (Str.ofString "swap")) (.str (Str.ofString "bring"))=false:=nr rfl
@[simp] theorem ZH:Dq (.str (Str.ofString "swap")) (.str (Str.ofString "pool"))=true:=Ax FX FK
@[simp] theorem Y3:deq (.str (Str.ofString "swap")) (.str (Str.ofString "pool"))=false:=nr rfl
@[simp] theorem ZS:Dq (.str (Str.ofString "swap")) (.str (Str.ofString "swap"))=true:=Ax FX FX
@[simp] theorem ZN:deq (.str (Str.ofString "swap")) (.str (Str.ofString "swap"))=true:=nr rfl
@[simp] theorem XR:Dq (.str (Str.ofString "swap")) (.str (Str.ofString "trade"))=true:=Ax FX DM
@[simp] theorem Xt:deq (.str (Str.ofString "swap")) (.str (Str.ofString "trade"))=false:=nr rfl
@[simp] theorem Xo:Dq (.str (Str.ofString "swap")) (.str (Str.ofString "throw"))=true:=Ax FX C8
@[simp] theorem WW:deq (.str (Str.ofString "swap")) (.str (Str.ofString "throw"))=false:=nr rfl
@[simp] theorem bw:wIn false (.val (.str "swap")) (.val (.tup [.str "swap",.str "trade"]))=some (.val (.bl true)):=nr rfl
@[simp] theorem Vk:Dq (.str (Str.ofString "trade")) (.str (Str.ofString "bring"))=true:=Ax DM DP
@[simp] theorem WA:deq (.str (Str.ofString "trade")) (.str (Str.ofString "bring"))=false:=nr rfl
@[simp] theorem Wz:Dq (.str (Str.ofString "trade")) (.str (Str.ofString "pool"))=true:=Ax DM FK
@[simp] theorem X6:deq (.str (Str.ofString "trade")) (.str (Str.ofString "pool"))=false:=nr rfl
@[simp] theorem Wo:Dq (.str (Str.ofString "trade")) (.str (Str.ofString "swap"))=true:=Ax DM FX
@[simp] theorem YH:deq (.str (Str.ofString "trade")) (.str (Str.ofString "swap"))=false:=nr rfl
@[simp] theorem V0:Dq (.str (Str.ofString "trade")) (.str (Str.ofString "trade"))=true:=Ax DM DM
@[simp] theorem WE:deq (.str (Str.ofString "trade")) (.str (Str.ofString "trade"))=true:=nr rfl
@[simp] theorem V6:Dq (.str (Str.ofString "trade")) (.str (Str.ofString "throw"))=true:=Ax DM C8
@[simp] theorem Vo:deq (.str (Str.ofString "trade")) (.str (Str.ofString "throw"))=false:=nr rfl
@[simp] theorem Ym:wIn false (.val (.str "trade")) (.val (.tup [.str "swap",.str "trade"]))=some (.val (.bl true)):=nr rfl
@[simp] theorem V2:Dq (.str (Str.ofString "spoil")) (.str (Str.ofString "bring"))=true:=Ax E9 DP
@[simp] theorem WB:deq (.str (Str.ofString "spoil")) (.str (Str.ofString "bring"))=false:=nr rfl
@[simp] theorem YD:Dq (.str (Str.ofString "spoil")) (.str (Str.ofString "pool"))=true:=Ax E9 FK
@[simp] theorem Wa:deq (.str (Str.ofString "spoil")) (.str (Str.ofString "pool"))=false:=nr rfl
@[simp] theorem XW:Dq (.str (Str.ofString "spoil")) (.str (Str.ofString "swap"))=true:=Ax E9 FX
@[simp] theorem YI:deq (.str (Str.ofString "spoil")) (.str (Str.ofString "swap"))=false:=nr rfl
@[simp] theorem V8:Dq (.str (Str.ofString "spoil")) (.str (Str.ofString "trade"))=true:=Ax E9 DM
@[simp] theorem V3:deq (.str (Str.ofString "spoil")) (.str (Str.ofString "trade"))=false:=nr rfl
@[simp] theorem V5:Dq (.str (Str.ofString "spoil")) (.str (Str.ofString "spoil"))=true:=Ax E9 E9
@[simp] theorem Vt:deq (.str (Str.ofString "spoil")) (.str (Str.ofString "spoil"))=true:=nr rfl
@[simp] theorem Vy:Dq (.str (Str.ofString "spoil")) (.str (Str.ofString "throw"))=true:=Ax E9 C8
@[simp] theorem Vl:deq (.str (Str.ofString "spoil")) (.str (Str.ofString "throw"))=false:=nr rfl
@[simp] theorem Zc:wIn false (.val (.str "spoil")) (.val (.tup [.str "swap",.str "trade"]))=some (.val (.bl false)):=nr rfl
@[simp] theorem Xi:wIn false (.val (.str "spoil")) (.val (.tup [.str "spoil",.str "throw"]))=some (.val (.bl true)):=nr rfl
@[simp] theorem Vx:Dq (.str (Str.ofString "throw")) (.str (Str.ofString "bring"))=true:=Ax C8 DP
@[simp] theorem Vz:deq (.str (Str.ofString "throw")) (.str (Str.ofString "bring"))=false:=nr rfl
@[simp] theorem Yi:Dq (.str (Str.ofString "throw")) (.str (Str.ofString "pool"))=true:=Ax C8 FK
@[simp] theorem YZ:deq (.str (Str.ofString "throw")) (.str (Str.ofString "pool"))=false:=nr rfl
@[simp] theorem X8:Dq (.str (Str.ofString "throw")) (.str (Str.ofString "swap"))=true:=Ax C8 FX
@[simp] theorem Wr:deq (.str (Str.ofString "throw")) (.str (Str.ofString "swap"))=false:=nr rfl
@[simp] theorem Vm:Dq (.str (Str.ofString "throw")) (.str (Str.ofString "trade"))=true:=Ax C8 DM
@[simp] theorem V9:deq (.str (Str.ofString "throw")) (.str (Str.ofString "trade"))=false:=nr rfl
@[simp] theorem Vs:Dq (.str (Str.ofString "throw")) (.str (Str.ofString "spoil"))=true:=Ax C8 E9
@[simp] theorem WC:deq (.str (Str.ofString "throw")) (.str (Str.ofString "spoil"))=false:=nr rfl
@[simp] theorem Vu:Dq (.str (Str.ofString "throw")) (.str (Str.ofString "throw"))=true:=Ax C8 C8
@[simp] theorem V7:deq (.str (Str.ofString "throw")) (.str (Str.ofString "throw"))=true:=nr rfl
@[simp] theorem Zw:wIn false (.val (.str "throw")) (.val (.tup [.str "swap",.str "trade"]))=some (.val (.bl false)):=nr rfl
@[simp] theorem WN:wIn false (.val (.str "throw")) (.val (.tup [.str "spoil",.str "throw"]))=some (.val (.bl true)):=nr rfl
@[simp] theorem WT:Dq (.str (Str.ofString "sell")) (.str (Str.ofString "bring"))=true:=Ax Js DP
@[simp] theorem Xq:deq (.str (Str.ofString "sell")) (.str (Str.ofString "bring"))=false:=nr rfl
@[simp] theorem ZM:Dq (.str (Str.ofString "sell")) (.str (Str.ofString "pool"))=true:=Ax Js FK
@[simp] theorem Zb:deq (.str (Str.ofString "sell")) (.str (Str.ofString "pool"))=false:=nr rfl
@[simp] theorem Y4:Dq (.str (Str.ofString "sell")) (.str (Str.ofString "swap"))=true:=Ax Js FX
@[simp] theorem Zv:deq (.str (Str.ofString "sell")) (.str (Str.ofString "swap"))=false:=nr rfl
@[simp] theorem X5:Dq (.str (Str.ofString "sell")) (.str (Str.ofString "trade"))=true:=Ax Js DM
@[simp] theorem YJ:deq (.str (Str.ofString "sell")) (.str (Str.ofString "trade"))=false:=nr rfl
@[simp] theorem Xd:Dq (.str (Str.ofString "sell")) (.str (Str.ofString "spoil"))=true:=Ax Js E9
@[simp] theorem Xv:deq (.str (Str.ofString "sell")) (.str (Str.ofString "spoil"))=false:=nr rfl
@[simp] theorem XD:Dq (.str (Str.ofString "sell")) (.str (Str.ofString "throw"))=true:=Ax Js C8
@[simp] theorem Wx:deq (.str (Str.ofString "sell")) (.str (Str.ofString "throw"))=false:=nr rfl
@[simp] theorem aP:wIn false (.val (.str "sell")) (.val (.tup [.str "swap",.str "trade"]))=some (.val (.bl false)):=nr rfl
@[simp] theorem Zu:wIn false (.val (.str "sell")) (.val (.tup [.str "spoil",.str "throw"]))=some (.val (.bl false)):=nr rfl
section
variable{a b c d e f:D}{r:List D}
@[simp] theorem iH:Gx [a,b,c,d,e] (some (-4)) none=[b,c,d,e]:=nr rfl
@[simp] theorem ir:Gx [a,b,c,d,e,f] (some (-4)) none=[c,d,e,f]:=nr rfl
@[simp] theorem ic:Gx [a,b,c,d,e] (some 1) (some 2)=[b]:=nr rfl
@[simp] theorem iU:Gx [a,b,c,d,e,f] (some 1) (some 2)=[b]:=nr rfl
@[simp] theorem ib{ds zs:List D}:ie S ds [.tup zs]=if ds.length+zs.length<=sizeLine then some (.non,ds++zs)else none:=nr rfl
end
end
section
variable{S S':Sto}{s l m:Nat}{as:List Nat}{st:Stt}
theorem SAt.same(h:SAt S s l m as st)(g:Ca A S S')(hA:∀n∈A,n∉s::l::m::as):SAt S' s l m as st where
 root:=g.get h.root λz=>hA _ z (by simp)
 lo:=g.get h.lo λz=>hA _ z (by simp)
 nu:=g.get h.nu λz=>hA _ z (by simp)
 ld:=λi a x ha hx=>g.get (h.ld i a x ha hx) λz=>hA _ z (by simp[qX ha])
 len:=h.len
 nd:=h.nd
theorem SAt.SV(h:SAt S s l m as st)(g:Ca [] S S'):SAt S' s l m as st:=h.same g λ_ z=>(nomatch z)
theorem SAt.ne(h:SAt S s l m as st):s≠l/\s≠m/\l≠m/\s∉as/\l∉as/\m∉as/\as.Nodup:=by
 have:=h.nd
 simp only[tj,qA,yc]at this
 obtain⟨⟨a,b,c⟩,⟨d,e⟩,f,g⟩:=this
 exact⟨a,b,d,c,e,f,g⟩
theorem SAt.QS(h:SAt S s l m as st){i a:Nat}{y:Ld}(ha:as[i]?=Gc a):SAt (S.set a (CY y)) s l m as {st with AF:=st.AF.set i y}:=by
 obtain⟨n1,n2,n3,n4,n5,n6,n7⟩:=h.ne
 have ma:=qX ha
 have q1:a≠s:=λe=>n4 (e▸ma)
 have q2:a≠l:=λe=>n5 (e▸ma)
 have q3:a≠m:=λe=>n6 (e▸ma)
 have hi:i<as.length:=(qF.mp ha).1
 have hi':i<st.AF.length:=by rw[<-h.len];exact hi
 refine⟨by rw[qE q1];exact h.root,by rw[qE q2];exact h.lo,by rw[qE q3];exact h.nu,?_,by simp[h.len],h.nd⟩
 intro j b x hb hx
 by_cases e:i=j
 .subst e
  rw[ha]at hb
  cases hb
  have hx':(st.AF.set i y)[i]?=Gc x:=hx
  rw[qL hi']at hx'
  cases hx'
  have hl:a<S.length:=Af (h.ld i a _ ha (pf hi'))
  exact qL hl
 .have hx':(st.AF.set i y)[j]?=Gc x:=hx
  rw[qE e]at hx'
  have:a≠b:=by
   intro z
   subst z
   exact e ((wN hi n7).mp (ha.trans hb.symm))
  rw[qE this]
  exact h.ld j b x hb hx'
theorem SAt.lts(h:SAt S s l m as st):∀n∈s::l::m::as,n<S.length:=by
 intro n hn
 simp only[qA]at hn
 rcases hn with rfl|rfl|rfl|hn
 .exact Af h.root
 .exact Af h.lo
 .exact Af h.nu
 .obtain⟨i,hi⟩:=vR.mp hn
  have:i<st.AF.length:=by rw[<-h.len];exact(qF.mp hi).1
  exact Af (h.ld i n _ hi (pf this))
theorem SAt.app(h:SAt S s l m as st)(y:Ld):SAt ((S++[CY y]).set l (.lst (as.map D.ref++[.ref S.length]))) s l m (as++[S.length]) {st with AF:=st.AF++[y]}:=by
 obtain⟨n1,n2,n3,n4,n5,n6,n7⟩:=h.ne
 have lt:=h.lts
 have ls:=lt s (by simp);have ll:=lt l (by simp);have lm:=lt m (by simp)
 have la:∀a∈as,a<S.length:=λa ha=>lt a (by simp[ha])
 refine⟨?_,?_,?_,?_,by simp[h.len],?_⟩
 .rw[qE (rm n1),pq ls];exact h.root
 .rw[qL (by simp;lia)];simp
 .rw[qE n3,pq lm];exact h.nu
 .intro i a x ha hx
  by_cases e:i<as.length
  .rw[pq e]at ha
   have hx':(st.AF++[y])[i]?=Gc x:=hx
   rw[pq (by rw[<-h.len];exact e)]at hx'
   have ma:=qX ha
   rw[qE (show l≠a by rintro rfl;exact n5 ma),pq (la a ma)]
   exact h.ld i a x ha hx'
  .have hx':(st.AF++[y])[i]?=Gc x:=hx
   have:i=as.length:=by
    have:=(qF.mp ha).1
    simp at this;lia
   subst this
   rw[qQ]at ha
   cases ha
   rw[h.len,qQ]at hx'
   cases hx'
   rw[qE (by lia),qQ]
 .have:(s::l::m::(as++[S.length]))=(s::l::m::as)++[S.length]:=by simp
  rw[this,sN]
  refine⟨h.nd,by simp,?_⟩
  intro a ha b hb e
  simp only[qA,qT,rP]at hb
  have:=lt a ha
  lia
theorem SAt.hold(h:SAt S s l m as st)(rs:List Rat):SAt (S.set s (.lst [.ref l,shD rs,.ref m])) s l m as {st with hold:=rs}:=by
 obtain⟨n1,n2,n3,n4,n5,n6,n7⟩:=h.ne
 refine⟨qL (h.lts s (by simp)),by rw[qE n1];exact h.lo,by rw[qE n2];exact h.nu,?_,h.len,h.nd⟩
 intro i a x ha hx
 rw[qE (show s≠a by rintro rfl;exact n4 (qX ha))]
 exact h.ld i a x ha hx
theorem SAt.nums(h:SAt S s l m as st)(us:List Int):SAt (S.set m (.lst (us.map D.int))) s l m as {st with nums:=us}:=by
 obtain⟨n1,n2,n3,n4,n5,n6,n7⟩:=h.ne
 refine⟨by rw[qE (rm n2)];exact h.root,by rw[qE (rm n3)];exact h.lo,qL (h.lts m (by simp)),?_,h.len,h.nd⟩
 intro i a x ha hx
 rw[qE (show m≠a by rintro rfl;exact n6 (qX ha))]
 exact h.ld i a x ha hx
theorem Pj{f:Ld->Ld}{body:Ex}{C:En}{i8:Nat}{o0:pY D}(h:SAt S s l m as st)(hi:C.length=i8)(hb:∀(S':Sto) (a:Nat) (x:Ld),x∈st.AF->S'[a]?=Gc (CY x)->∃S2,body (C++[Gc (.ref a)]) S'=Gc (.nx,C++[Gc (.ref a)],S2.set a (CY (f x)))/\Ca [] S' S2):∃o S',IV [(l,as.map D.ref)] (tNm i8) body (as.map D.ref) (C++[o0]) S=Gc (.nx,C++[o],S')/\SAt S' s l m as {st with AF:=st.AF.map f}/\Ca as S S':=by
 obtain⟨E',S',e,i,o,i1,i2,rfl,i3,i4⟩:=HV (gs:=[(l,as.map D.ref)]) (t:=tNm i8) (b:=body)
  (I:=λds E S'=>∃(i:Nat) (o:pY D),ds=(as.drop i).map D.ref/\i<=as.length/\E=C++[o]/\SAt S' s l m as {st with AF:=(st.AF.take i).map f++st.AF.drop i}/\Ca as S S')
  (λds E S' hI=>by obtain⟨i,o,_,_,_,h1,_⟩:=hI;exact h1.guard) (ds:=as.map D.ref) (E:=C++[o0]) (S:=S)
  ⟨0,o0,by simp,rS _,rfl,by simpa using h,.refl⟩ (by
    rintro d ds E S1 ⟨i,o,i1,i2,rfl,i3,i4⟩
    have hlt:i<as.length:=by
     rcases yl i as.length with w|w
     .exact w
     .rw[uC w]at i1;cases i1
    rw[sE hlt,qS]at i1
    injection i1 with e1 e2
    subst e1 e2
    have hl2:i<st.AF.length:=by rw[<-h.len];exact hlt
    have ha:=pf hlt
    have hx:((st.AF.take i).map f++st.AF.drop i)[i]?=Gc st.AF[i]:=by
     rw[qy (by simp;lia)]
     simp[Nat.min_eq_left (sF hl2)]
    obtain⟨S2,e3,g3⟩:=hb S1 as[i] st.AF[i] (tS hl2) (i3.ld i _ _ ha hx)
    have k:=(i3.SV g3).QS (y:=f st.AF[i]) ha
    refine⟨C++[Gc (.ref as[i])],C++[Gc (.ref as[i])],S2.set as[i] (CY (f st.AF[i])),?_,e3,i+1,Gc (.ref as[i]),rfl,hlt,rfl,?_,?_⟩
    .rw[bL]
     congr 1
     subst hi
     rw[yz _ _ (p9 _)]
     simp
    .have:((st.AF.take i).map f++st.AF.drop i).set i (f st.AF[i])=(st.AF.take (i+1)).map f++st.AF.drop (i+1):=by
      rw[yz _ _ (by simp;lia)]
      have e0:i-((st.AF.take i).map f).length=0:=by simp;lia
      rw[e0,sE hl2,List.set_cons_zero,List.take_succ_eq_append_getElem hl2,sf]
      simp
     rw[<-this]
     exact k
    .exact(i4.trans (g3.mono λ_ z=>(nomatch z))).trans (.set (tS hlt)))
 refine⟨o,S',e,?_,i4⟩
 have hz:i=as.length:=by
  have:=congrArg xp i1
  simp at this
  lia
 have:(st.AF.take i).map f++st.AF.drop i=st.AF.map f:=by
  rw[hz,h.len];simp
 rw[this]at i3
 exact i3
end
section
variable{S S':Sto}{s l m:Nat}{as:List Nat}{st:Stt}{t:Tr}{k:Nat}
theorem bW{i:Nat}{n:Int}{j:Nat}(hi:i<st.AF.length)(h:∀x∈st.AF,∀r∈x.ow,Sz j r):∀x∈less st.AF i n,∀r∈x.ow,Sz j r:=by
 intro x hx
 rcases OH hx hi with h1|h1
 .exact h x h1
 .rw[h1];exact h (AQ st.AF i) (BG hi)
theorem Sw{i:Nat}{n:Int}{j:Nat}(hi:i<st.AF.length)(h:∀x∈st.AF,x.ow.length=j):∀x∈less st.AF i n,x.ow.length=j:=by
 intro x hx
 rcases OH hx hi with h1|h1
 .exact h x h1
 .rw[h1];exact h (AQ st.AF i) (BG hi)
theorem W3(hS:SAt S s l m as st)(ht:Ji t)(h:Fo t k st)(hk:k<=16){i:Nat}{n:Int}{ws:List Int}(hc:Can t st (.thr i n ws)):∃S',FF [t.d,.ref s,(AV.thr i n ws).d] S=Gc (.non,S')/\SAt S' s l m as (step t st (.thr i n ws))/\Ca (s::l::m::as) S S':=by
 obtain⟨hi,h1,h2,hl,hw⟩:=hc
 have cO:=Z8 hS ht h (by lia) hl hw hi h1 h2
 have cz:=bS ht h (by lia) hl hw hi h1 h2
 have sz:=h.sz
 obtain⟨a,a1,a2,a3⟩:=hS.at hi
 have hS1:=hS.QS (y:=⟨(AQ st.AF i).k,(AQ st.AF i).n-n,(AQ st.AF i).ow⟩) a1
 have o1:=sz.1 _ (BG hi)
 have tp:=ht.2.1
 have hdef:step t st (.thr i n ws)={st with AF:=(less st.AF i n).map λx=>{x with ow:=Jb (Kk t st.AF i n ws) (AQ st.AF i).ow x.ow},hold:=Jb (Kk t st.AF i n ws) (AQ st.AF i).ow st.hold}:=rfl
 rw[hdef]
 generalize hX:Kk t st.AF i n ws=X at*
 obtain⟨o,S2,f1,f2,f3⟩:=Pj (f:=λx=>{x with ow:=Jb X (AQ st.AF i).ow x.ow}) (body:=Od (AJ EA [eOp (o2 wIx) [eV 8,eC (.int 2)],eV 6,eV 7]) (eV 8) (eC (.int 2))) (C:=[Gc t.d,Gc (.ref s),Gc (AV.thr i n ws).d,Gc (.ref l),Gc (shD st.hold),Gc (.ref m),Gc (aD X),Gc (shD (AQ st.AF i).ow)]) (i8:=8) (o0:=none) hS1 rfl (by
  intro S' b x hx hb
  obtain⟨S2,e2,g2⟩:=RD (S:=S') (x:=X) (ss:=x.ow) (os:=(AQ st.AF i).ow) (j:=30+170*k) (i:=145+k) (bW (n:=n) hi sz.1 x hx) o1 cz (by lia) (by rw[Sw (n:=n) hi h.own x hx];lia)
  have hb2:=g2.get hb (by simp)
  refine⟨S2,?_,g2⟩
  simp[Aq hb,CY,e2,AR hb2])
 obtain⟨S3,e3,g3⟩:=RD (S:=S2) (x:=X) (ss:=st.hold) (os:=(AQ st.AF i).ow) (j:=30+170*k) (i:=145+k) sz.2 o1 cz (by lia) (by rw[h.hold];lia)
 have f4:=(f2.SV g3)
 have rt:=f4.root
 refine⟨S3.set s (.lst [.ref l,shD (Jb X (AQ st.AF i).ow st.hold),.ref m]),?_,f4.hold _,?_⟩
 .have f1':=f1
  simp only[rF,qU]at f1'
  have rt':Ep S3 s=Gc [.ref l,shD st.hold,.ref m]:=AR rt
  have r0:=AR hS.root
  have lo:=Aq hS.lo
  have xx:=Aq a2
  have c2:=AR a2
  have sq1:=Dv hS1.lo
  simp only[CY]at f1' sq1 c2 xx
  simp only[AV.d]at f1' cO⊢
  simp[FF,Jx,r0,cO,lo,a3,xx,c2,sq1,f1',e3,rt']
 .have q1:Ca (s::l::m::as) S (S.set a (CY ⟨(AQ st.AF i).k,(AQ st.AF i).n-n,(AQ st.AF i).ow⟩)):=.set (by simp[qX a1])
  exact((q1.trans (f3.mono λn hn=>by simp[hn])).trans (g3.mono λ_ z=>(nomatch z))).trans (.set (by simp))
theorem TC(hS:SAt S s l m as st)(ht:Ji t)(h:Fo t k st)(hk:k<=16){p q:Nat}{x:Rat}(hc:Can t st (.Ks p q x)):∃S',FF [t.d,.ref s,(AV.Ks p q x).d] S=Gc (.non,S')/\SAt S' s l m as (step t st (.Ks p q x))/\Ca (s::l::m::as) S S':=by
 obtain⟨hpq,hp,hq,x1,x2,x3⟩:=hc
 have sz:=h.sz
 have hx:Sz 4 x:=by
  refine⟨?_,by lia⟩
  show x.num.natAbs<16
  lia
 have hdef:step t st (.Ks p q x)={st with AF:=st.AF.map λy=>{y with ow:=JA p q x y.ow},hold:=JA p q x st.hold}:=rfl
 rw[hdef]
 obtain⟨o,S2,f1,f2,f3⟩:=Pj (f:=λy=>{y with ow:=JA p q x y.ow}) (body:=Od (AJ FD [eOp (o2 wIx) [eV 8,eC (.int 2)],eV 2]) (eV 8) (eC (.int 2))) (C:=[Gc t.d,Gc (.ref s),Gc (AV.Ks p q x).d,Gc (.ref l),Gc (shD st.hold),Gc (.ref m),none,none]) (i8:=8) (o0:=none) hS rfl (by
  intro S' b y hy hb
  obtain⟨S2,e2,g2⟩:=U2 (S:=S') (p:=p) (q:=q) (x:=x) (ss:=y.ow) (j:=30+170*k) (i:=4) (sz.1 y hy) hx (by lia) (by rw[h.own y hy];exact hp) (by rw[h.own y hy];exact hq) hpq
  have hb2:=g2.get hb (by simp)
  refine⟨S2,?_,g2⟩
  simp[Aq hb,CY,e2,AR hb2])
 obtain⟨S3,e3,g3⟩:=U2 (S:=S2) (p:=p) (q:=q) (x:=x) (ss:=st.hold) (j:=30+170*k) (i:=4) sz.2 hx (by lia) (by rw[h.hold];exact hp) (by rw[h.hold];exact hq) hpq
 have f4:=(f2.SV g3)
 have rt:=f4.root
 refine⟨S3.set s (.lst [.ref l,shD (JA p q x st.hold),.ref m]),?_,f4.hold _,?_⟩
 .have f1':=f1
  simp only[rF,qU]at f1'
  have rt':Ep S3 s=Gc [.ref l,shD st.hold,.ref m]:=AR rt
  have r0:=AR hS.root
  have sq1:=Dv hS.lo
  simp only[AV.d]at f1' e3⊢
  simp[FF,Jx,r0,sq1,f1',e3,rt']
 .exact((f3.mono λn hn=>by simp[hn]).trans (g3.mono λ_ z=>(nomatch z))).trans (.set (by simp))
end
section
variable{S S':Sto}{s l m:Nat}{as:List Nat}{st:Stt}{t:Tr}{k:Nat}
theorem Uw{ls:List Ld}{l:Nat}{n:Int}:less ls l n=ls.set l ⟨(AQ ls l).k,(AQ ls l).n-n,(AQ ls l).ow⟩:=rfl
theorem Wq{P p:Nat}{cond:Int}{C:En}{dd:D}{f:Ev}(hP:P<=50)(hf:∀(i:Nat),f [Gc dd,Gc (.int i)] S=Gc (aD (if i=p then 1 else 0),S)):CC [] (tNm 1) By f (Kb 0 P) [] [Gc dd,none] S=Gc ((Su P p).map aD,S):=by
 have:=DU (gs:=[]) (t:=tNm 1) (f:=f) (C:=[Gc dd]) (m:=1) (e:=λi:Nat=>D.int (0+(i:Int))) (g:=λi=>aD (if i=p then 1 else 0)) (S:=S) Ah (xs:=qR P) (acc:=[]) (os:=[none]) rfl (qD (show _<=50 by simp;lia) (AN (by decide))) (by
  intro i _ os ho
  obtain⟨o,rfl⟩:=Og ho
  refine⟨[Gc (.int i)],rfl,by simp,hf i⟩)
 simp only[rF,qU]at this
 rw[Su,sR]
 exact this
theorem Wi(hS:SAt S s l m as st)(ht:Ji t)(h:Fo t k st)(hk:k<=16){p kd:Nat}{n:Int}(hc:Can t st (.D4 p kd n)):∃S' as',A5 [t.d,.ref s,(AV.D4 p kd n).d] S=Gc (.non,S')/\SAt S' s l m as' (step t st (.D4 p kd n))/\Ca (s::l::m::as) S S'/\∀n∈as',n∈as\/S.length<=n:=by
 have tp:=ht.2.1
 have e:=Wq (S:=S) (P:=t.p) (p:=p) (cond:=0) (C:=[]) (dd:=(AV.D4 p kd n).d) (f:=BL [eOp (o1 YO) [eOp (o2 wEq) [eV 1,eOp (o2 wIx) [eV 0,eC (.int 1)]]],eC (.int 1)]) (by lia) (by
  intro i
  by_cases hi:i=p
  .subst hi;simp[AV.d];rfl
  .have:((i:Int)==(p:Int))=false:=by simp;lia
   simp[AV.d,this,hi];rfl)
 have rn:Ho (t.p:Int)=true:=C4 (by lia) (by lia)
 have hz:as.length<sizeLine:=qB (show as.length<50 by rw[hS.len];have:=h.len;lia) (AN (by decide))
 refine⟨_,_,?_,hS.app ⟨kd,n,Su t.p p⟩,?_,?_⟩
 .have r0:=AR hS.root
  have c0:=AR hS.lo
  have c1:Ep (S++[CY ⟨kd,n,Su t.p p⟩]) l=Gc (as.map D.ref):=AR (by rw[pq (Af hS.lo)];exact hS.lo)
  simp only[CY]at c1⊢
  simp only[AV.d]at e⊢
  simp[A5,Fs,r0,Tr.d,rn,e,c0,shD]at c1⊢
  simp[c1,hz]
 .exact Ca.app.trans (.set (by simp))
 .intro n hn
  rcases qW.mp hn with w|w
  .exact .inl w
  .simp at w;exact .inr (by lia)
theorem XO(hS:SAt S s l m as st)(ht:Ji t)(h:Fo t k st)(hk:k<=16){i:Nat}{n:Int}(hc:Can t st (.Hf i n)):∃S' as',A5 [t.d,.ref s,(AV.Hf i n).d] S=Gc (.non,S')/\SAt S' s l m as' (step t st (.Hf i n))/\Ca (s::l::m::as) S S'/\∀n∈as',n∈as\/S.length<=n:=by
 obtain⟨hi,h1,h2⟩:=hc
 obtain⟨a,a1,a2,a3⟩:=hS.at hi
 refine⟨_,as,?_,hS.QS (y:=⟨(AQ st.AF i).k,(AQ st.AF i).n-n,(AQ st.AF i).ow⟩) a1,.set (by simp[qX a1]),λn hn=>.inl hn⟩
 have r0:=AR hS.root
 have lo:=Aq hS.lo
 have xx:=Aq a2
 have c2:=AR a2
 simp only[CY]at c2 xx⊢
 simp[A5,Fs,AV.d,r0,lo,a3,xx,c2]
theorem eA(hS:SAt S s l m as st)(ht:Ji t)(h:Fo t k st)(hk:k<=16){i:Nat}{n:Int}{ws:List Int}(hc:Can t st (.thr i n ws)):∃S' as',A5 [t.d,.ref s,(AV.thr i n ws).d] S=Gc (.non,S')/\SAt S' s l m as' (step t st (.thr i n ws))/\Ca (s::l::m::as) S S'/\∀n∈as',n∈as\/S.length<=n:=by
 obtain⟨S',e,g1,g2⟩:=W3 hS ht h hk hc
 refine⟨S',as,?_,g1,g2,λn hn=>.inl hn⟩
 have r0:=AR hS.root
 simp only[AV.d]at e⊢
 simp[A5,Fs,r0,e]
theorem a9(hS:SAt S s l m as st)(ht:Ji t)(h:Fo t k st)(hk:k<=16){p q:Nat}{x:Rat}(hc:Can t st (.Ks p q x)):∃S' as',A5 [t.d,.ref s,(AV.Ks p q x).d] S=Gc (.non,S')/\SAt S' s l m as' (step t st (.Ks p q x))/\Ca (s::l::m::as) S S'/\∀n∈as',n∈as\/S.length<=n:=by
 obtain⟨S',e,g1,g2⟩:=TC hS ht h hk hc
 refine⟨S',as,?_,g1,g2,λn hn=>.inl hn⟩
 have r0:=AR hS.root
 simp only[AV.d]at e⊢
 simp[A5,Fs,r0,e]
theorem aw(hS:SAt S s l m as st)(ht:Ji t)(h:Fo t k st)(hk:k<=16){i kd:Nat}{g n:Int}(hc:Can t st (.swap i g kd n)):∃S' as',A5 [t.d,.ref s,(AV.swap i g kd n).d] S=Gc (.non,S')/\SAt S' s l m as' (step t st (.swap i g kd n))/\Ca (s::l::m::as) S S'/\∀n∈as',n∈as\/S.length<=n:=by
 obtain⟨hi,h1,h2,h3,h4,h5,h6⟩:=hc
 obtain⟨a,a1,a2,a3⟩:=hS.at hi
 have hS1:=hS.QS (y:=⟨(AQ st.AF i).k,(AQ st.AF i).n-g,(AQ st.AF i).ow⟩) a1
 have hS2:=hS1.app ⟨kd,n,(AQ st.AF i).ow⟩
 have hz:as.length<sizeLine:=qB (show as.length<50 by rw[hS.len];have:=h.len;lia) (AN (by decide))
 have hz2:st.nums.length<=sizeLine:=qD (show _<=20 by have:=h.nm;lia) (AN (by decide))
 refine⟨_,_,?_,hS2,?_,?_⟩
 .have r0:=AR hS.root
  have lo:=Aq hS.lo
  have xx:=Aq a2
  have c2:=AR a2
  have lo1:=Aq hS1.lo
  have co1:=AR hS1.lo
  have x1:=Aq (qL (a:=CY ⟨(AQ st.AF i).k,(AQ st.AF i).n-g,(AQ st.AF i).ow⟩) (Af a2))
  have c4:Ep ((S.set a (CY ⟨(AQ st.AF i).k,(AQ st.AF i).n-g,(AQ st.AF i).ow⟩))++[CY ⟨kd,n,(AQ st.AF i).ow⟩]) l=Gc (as.map D.ref):=AR (by rw[pq (Af hS1.lo)];exact hS1.lo)
  have nu:=hS2.nu
  have c5:=AR nu
  have st5:∀{T:Sto},T[m]?=Gc (.lst (st.nums.map D.int))->T.set m (.lst (st.nums.map D.int))=T:=λh=>set_same h
  have st6:=st5 nu
  simp only[CY]at c2 xx lo1 co1 x1 c4 c5 st6⊢
  have hz':(as.map D.ref).length<sizeLine:=by simpa using hz
  generalize (as.map D.ref)=refs at*
  simp[A5,Fs,AV.d,r0,lo,a3,xx,c2,lo1,x1,co1]at c4 c5 st6⊢
  simp[c4,hz',c5,hz2,st6]
 .exact((Ca.set (by simp[qX a1])).trans .app).trans (.set (by simp))
 .intro n hn
  rcases qW.mp hn with w|w
  .exact .inl w
  .simp at w;exact .inr (by lia)
theorem YE(hS:SAt S s l m as st)(ht:Ji t)(h:Fo t k st)(hk:k<=16){i kd:Nat}{u g n:Int}(hc:Can t st (.B5 u i g kd n)):∃S' as',A5 [t.d,.ref s,(AV.B5 u i g kd n).d] S=Gc (.non,S')/\SAt S' s l m as' (step t st (.B5 u i g kd n))/\Ca (s::l::m::as) S S'/\∀n∈as',n∈as\/S.length<=n:=by
 obtain⟨hi,h1,h2,h3,h4,h5,h6,h7,h8⟩:=hc
 obtain⟨a,a1,a2,a3⟩:=hS.at hi
 have hS1:=hS.QS (y:=⟨(AQ st.AF i).k,(AQ st.AF i).n-g,(AQ st.AF i).ow⟩) a1
 have hS2:=hS1.app ⟨kd,n,(AQ st.AF i).ow⟩
 have hz:as.length<sizeLine:=qB (show as.length<50 by rw[hS.len];have:=h.len;lia) (AN (by decide))
 have hz2:st.nums.length+1<=sizeLine:=qD (show _<=20 by have:=h.nm;lia) (AN (by decide))
 refine⟨_,_,?_,hS2.nums (st.nums++[u]),?_,?_⟩
 .have r0:=AR hS.root
  have lo:=Aq hS.lo
  have xx:=Aq a2
  have c2:=AR a2
  have lo1:=Aq hS1.lo
  have co1:=AR hS1.lo
  have x1:=Aq (qL (a:=CY ⟨(AQ st.AF i).k,(AQ st.AF i).n-g,(AQ st.AF i).ow⟩) (Af a2))
  have c4:Ep ((S.set a (CY ⟨(AQ st.AF i).k,(AQ st.AF i).n-g,(AQ st.AF i).ow⟩))++[CY ⟨kd,n,(AQ st.AF i).ow⟩]) l=Gc (as.map D.ref):=AR (by rw[pq (Af hS1.lo)];exact hS1.lo)
  have nu:=hS2.nu
  have c5:=AR nu
  simp only[CY]at c2 xx lo1 co1 x1 c4 c5⊢
  have hz':(as.map D.ref).length<sizeLine:=by simpa using hz
  generalize (as.map D.ref)=refs at*
  simp[A5,Fs,AV.d,r0,lo,a3,xx,c2,lo1,x1,co1]at c4 c5⊢
  simp[c4,hz',c5,hz2]
 .exact(((Ca.set (by simp[qX a1])).trans .app).trans (.set (by simp))).trans (.set (by simp))
 .intro n hn
  rcases qW.mp hn with w|w
  .exact .inl w
  .simp at w;exact .inr (by lia)
theorem cY(hS:SAt S s l m as st)(ht:Ji t)(h:Fo t k st)(hk:k<=16){i j:Nat}(hc:Can t st (.Oh i j)):∃S' as',A5 [t.d,.ref s,(AV.Oh i j).d] S=Gc (.non,S')/\SAt S' s l m as' (step t st (.Oh i j))/\Ca (s::l::m::as) S S'/\∀n∈as',n∈as\/S.length<=n:=by
 obtain⟨hij,hi,hj,h1,h2,h3⟩:=hc
 obtain⟨a,a1,a2,a3⟩:=hS.at hi
 obtain⟨b,b1,b2,b3⟩:=hS.at hj
 have sz:=h.sz
 have pi:=h.pcs _ (BG hi)
 have pj:=h.pcs _ (BG hj)
 obtain⟨S1,e1,g1⟩:=Us (S:=S) (x:=AQ st.AF i) (y:=AQ st.AF j) (j:=30+170*k) (i:=131+k) a2 b2 (sz.1 _ (BG hi)) (sz.1 _ (BG hj)) (LR pi.1 pi.2) (LR pj.1 pj.2) (by lia) (by lia) (by lia) (by rw[h.own _ (BG hi)];have:=ht.2.1;lia)
 have hS1:=hS.SV g1
 have hab:a≠b:=by
  rintro rfl
  exact hij ((wN (qF.mp a1).1 hS.ne.2.2.2.2.2.2).mp (a1.trans b1.symm))
 have hS2:=hS1.app ⟨(AQ st.AF i).k,(AQ st.AF i).n+(AQ st.AF j).n,Et (AQ st.AF i).n (AQ st.AF j).n (AQ st.AF i).ow (AQ st.AF j).ow⟩
 have ai:i<as.length:=(qF.mp a1).1
 have bj:j<as.length:=(qF.mp b1).1
 have a1':(as++[S1.length])[i]?=Gc a:=by rw[pq ai];exact a1
 have b1':(as++[S1.length])[j]?=Gc b:=by rw[pq bj];exact b1
 have hS3:=hS2.QS (y:=⟨(AQ st.AF i).k,0,(AQ st.AF i).ow⟩) a1'
 have hS4:=hS3.QS (y:=⟨(AQ st.AF j).k,0,(AQ st.AF j).ow⟩) b1'
 have hz:as.length<sizeLine:=qB (show as.length<50 by rw[hS.len];have:=h.len;lia) (AN (by decide))
 have est:step t st (.Oh i j)={st with AF:=((st.AF++[Ld.mk (AQ st.AF i).k ((AQ st.AF i).n+(AQ st.AF j).n) (Et (AQ st.AF i).n (AQ st.AF j).n (AQ st.AF i).ow (AQ st.AF j).ow)]).set i ⟨(AQ st.AF i).k,0,(AQ st.AF i).ow⟩).set j ⟨(AQ st.AF j).k,0,(AQ st.AF j).ow⟩}:=by
  have e0:AQ (less st.AF i (AQ st.AF i).n) j=AQ st.AF j:=by
   unfold AQ less
   rw[qJ,qE hij,<-qJ]
  have e1:less st.AF i (AQ st.AF i).n=st.AF.set i ⟨(AQ st.AF i).k,0,(AQ st.AF i).ow⟩:=by
   unfold less
   rw[Int.sub_self]
  have e2:less (less st.AF i (AQ st.AF i).n) j (AQ st.AF j).n=(st.AF.set i ⟨(AQ st.AF i).k,0,(AQ st.AF i).ow⟩).set j ⟨(AQ st.AF j).k,0,(AQ st.AF j).ow⟩:=by
   rw[Uw (ls:=less st.AF i (AQ st.AF i).n),e0,Int.sub_self,e1]
  show{st with AF:=less (less st.AF i (AQ st.AF i).n) j (AQ st.AF j).n++_}=_
  rw[e2,zW _ _ hi,zW _ _ (by simpa using hj)]
 refine⟨_,_,?_,est▸hS4,?_,?_⟩
 .have r0:=AR hS.root
  have lo:=Aq hS.lo
  have c0:=AR hS.lo
  have xa:=Aq a2
  have xb:=Aq b2
  have c1:=AR hS1.lo
  have c4:Ep (S1++[CY ⟨(AQ st.AF i).k,(AQ st.AF i).n+(AQ st.AF j).n,Et (AQ st.AF i).n (AQ st.AF j).n (AQ st.AF i).ow (AQ st.AF j).ow⟩]) l=Gc (as.map D.ref):=AR (by rw[pq (Af hS1.lo)];exact hS1.lo)
  have c5:=AR (hS2.ld i a (AQ st.AF i) a1' (by show(st.AF++_)[i]?=_;rw[pq hi];exact Ft hi))
  have c6:=AR (hS3.ld j b (AQ st.AF j) b1' (by show((st.AF++_).set i _)[j]?=_;rw[qE hij,pq hj];exact Ft hj))
  simp only[CY]at xa xb c4 c5 c6⊢
  have hz':(as.map D.ref).length<sizeLine:=by simpa using hz
  generalize (as.map D.ref)=refs at*
  generalize Et (AQ st.AF i).n (AQ st.AF j).n (AQ st.AF i).ow (AQ st.AF j).ow=pr at*
  simp[A5,Fs,AV.d,r0,lo,a3,b3,xa,xb,c0,e1]at c4 c5 c6⊢
  simp[c4,hz',c5,c6]
 .exact(((g1.mono λ_ z=>(nomatch z)).trans .app).trans (.set (by simp))).trans ((Ca.set (by simp[qX a1])).trans (.set (by simp[qX b1])))
 .intro n hn
  rcases qW.mp hn with w|w
  .exact .inl w
  .simp at w;subst w;exact .inr g1.len
theorem ao(hS:SAt S s l m as st)(ht:Ji t)(h:Fo t k st)(hk:k<=16){d:AV}(hc:Can t st d):∃S' as',A5 [t.d,.ref s,d.d] S=Gc (.non,S')/\SAt S' s l m as' (step t st d)/\Ca (s::l::m::as) S S'/\∀n∈as',n∈as\/S.length<=n:=by
 cases d with
 |D4=>exact Wi hS ht h hk hc
 |Oh=>exact cY hS ht h hk hc
 |swap=>exact aw hS ht h hk hc
 |B5=>exact YE hS ht h hk hc
 |Hf=>exact XO hS ht h hk hc
 |thr=>exact eA hS ht h hk hc
 |Ks=>exact a9 hS ht h hk hc
end
section
variable{st:Stt}{t:Tr}{k:Nat}
theorem Lm{a b:Nat}(h:a<=b):2^a<=2^b:=tE (by decide) h
theorem Ht{a b:Nat}(h:a<=b):(2:Int)^a<=2^b:=by
 have:=Lm h
 exact_mod_cast this
theorem JL{c:Int}(h:0<=c):((c.toNat:Nat):Rat)=(c:Rat):=by
 have:((c.toNat:Nat):Int)=c:=rJ h
 have:(((c.toNat:Nat):Int):Rat)=(c:Rat):=by rw[this]
 exact this
theorem Tq{B T k j:Nat}(hB:B<2^(30+170*k))(hT:T<2^j)(hj:j<=170):B*T<2^(30+170*(k+1)):=by
 have:=Ga hB hT
 exact qB this (Lm (by lia))
theorem eK{G B P p:Nat}(h:G<=B):∀r∈Su P p,Ok G B r:=by
 intro r hr
 obtain⟨i,_,rfl⟩:=qi.mp hr
 split
 .exact Ok.one h
 .exact Ok.zero
theorem TL{G B:Nat}{n m:Int}{ss os:List Rat}(hn:0<n)(hm:0<m)(hs:∀r∈ss,Ok G B r)(ho:∀r∈os,Ok G B r):∀r∈Et n m ss os,Ok (G*(n+m).toNat) (B*(n+m).toNat) r:=by
 intro r hr
 unfold Et at hr
 rw[vR]at hr
 obtain⟨i,hi'⟩:=hr
 rw[wt]at hi'
 obtain⟨x,y,hx,hy,rfl⟩:=hi'
 have:=Ok.mix (a:=n.toNat) (b:=m.toNat) (t:=(n+m).toNat) (hs x (qX hx)) (ho y (qX hy)) (by lia) (by lia)
 rwa [JL (by lia),JL (by lia),JL (by lia)]at this
theorem Sy{G B p q:Nat}{x:Rat}{ss:List Rat}(hp:p<ss.length)(hq:q<ss.length)(x1:0<x.num)(x2:x.num<=x.den)(hs:∀r∈ss,Ok G B r):∀r∈JA p q x ss,Ok (G*x.den) (2*B*x.den) r:=by
 have dp:=x.den_pos
 have hsp:=hs _ (getD_mem (d:=0) hp)
 have hsq:=hs _ (getD_mem (d:=0) hq)
 have xs:=F0 x
 have ex:(x.num:Rat)=((x.num.toNat:Nat):Rat):=(JL (by lia)).symm
 have nz:=ME x
 intro r hr
 unfold JA at hr
 rcases tQ hr with hr|hr
 .rcases tQ hr with hr|hr
  .exact(hs r hr).up (by rw[yI];lia)
  .rw[hr]
   obtain⟨z,e,hz⟩:=Ok.mix (a:=x.den-x.num.toNat) (b:=x.num.toNat) (t:=x.den) hsp (Ok.zero (G:=G) (B:=B)) (by lia) dp
   refine⟨z,?_,qD hz (by rw[yI];lia)⟩
   rw[<-e]
   have e2:((x.den-x.num.toNat:Nat):Rat)=(x.den:Rat)-(x.num:Rat):=by
    have:(((x.den-x.num.toNat:Nat):Int):Rat)=((x.den-x.num:Int):Rat):=by
     congr 1;lia
    push_cast at this
    exact this
   rw[e2]
   generalize ss.getD p 0=sp at*
   congr 1
   grind
 .rw[hr]
  obtain⟨z,e1,hz⟩:=hsp
  obtain⟨y,e2,hy⟩:=hsq
  refine⟨y*x.den+z*x.num.toNat,?_,?_⟩
  .generalize ss.getD p 0=sp at*
   generalize ss.getD q 0=sq at*
   push_cast
   rw[<-ex,<-e1,<-e2]
   grind
  .have h1:y*x.den<=B*x.den:=tF _ hy
   have h2:z*x.num.toNat<=B*x.den:=zV hz (by lia)
   rw[yI];lia
theorem Ig{f:Rat->Rat->Rat}{a b:List Rat}{n:Nat}(h:a.length=n)(g:b.length=n):(yj f a b).length=n:=by rw[List.length_zipWith,h,g];lia
theorem Hy{P:Ld->Prop}{i:Nat}{n:Int}(hi:i<st.AF.length)(h:∀x∈st.AF,P x)(g:P ⟨(AQ st.AF i).k,(AQ st.AF i).n-n,(AQ st.AF i).ow⟩):∀x∈less st.AF i n,P x:=by
 intro x hx
 rcases OH hx hi with h1|h1
 .exact h x h1
 .rw[h1];exact g
theorem OX{P:Ld->Prop}{ls:List Ld}{y:Ld}(h:∀x∈ls,P x)(g:P y):∀x∈ls++[y],P x:=by
 intro x hx
 rcases qW.mp hx with w|w
 .exact h x w
 .simp at w;rw[w];exact g
structure LOk(t:Tr)(k G B:Nat)(x:Ld):Prop where
 kd:x.k<t.k
 n0:0<=x.n
 n1:x.n<2^(131+k)
 own:x.ow.length=t.p
 ok:∀r∈x.ow,Ok G B r
theorem LOk.up{G B T B':Nat}{x:Ld}(h:LOk t k G B x)(hT:B*T<=B'):LOk t (k+1) (G*T) B' x:=⟨h.kd,h.n0,uS h.n1 (Ht (by lia)),h.own,λr hr=>(h.ok r hr).up hT⟩
theorem LOk.up1{G B:Nat}{x:Ld}(h:LOk t k G B x):LOk t (k+1) G B x:=⟨h.kd,h.n0,uS h.n1 (Ht (by lia)),h.own,h.ok⟩
theorem LOk.less{G B:Nat}{x:Ld}{n:Int}(h:LOk t k G B x)(h0:0<=n)(h1:n<=x.n):LOk t k G B ⟨x.k,x.n-n,x.ow⟩:=⟨h.kd,show 0<=x.n-n by lia,show x.n-n<_ by have:=h.n1;lia,h.own,h.ok⟩
theorem Fo.of{G B:Nat}(h1:st.AF.length<=4+k)(h2:∀x∈st.AF,LOk t k G B x)(h3:st.hold.length=t.p)(h4:st.nums.length<=k)(g0:0<G)(g1:G<=B)(g2:B<2^(30+170*k))(h5:∀r∈st.hold,Ok G B r):Fo t k st:=⟨h1,λx hx=>(h2 x hx).kd,λx hx=>⟨(h2 x hx).n0,(h2 x hx).n1⟩,λx hx=>(h2 x hx).own,h3,h4,G,B,g0,g1,g2,λx hx=>(h2 x hx).ok,h5⟩
theorem iP{n:Int}(h:n<2^131):n<2^(131+k):=uS h (Ht (by lia))
theorem Qm(ht:Ji t)(h:Fo t k st)(hk:k<=16){d:AV}(hc:Can t st d):Fo t (k+1) (step t st d):=by
 obtain⟨G,B,g0,g1,g2,hl,hh⟩:=h.gb
 have L:∀x∈st.AF,LOk t k G B x:=λx hx=>⟨h.kind x hx,(h.pcs x hx).1,(h.pcs x hx).2,h.own x hx,hl x hx⟩
 have g2':B<2^(30+170*(k+1)):=qB g2 (Lm (by lia))
 have hlen:=h.len
 have hnm:=h.nm
 cases d with
 |D4 p kd n=>
  obtain⟨h1,h2,h3,h4⟩:=hc
  refine Fo.of (G:=G) (B:=B) (by simp[step];lia) (OX (λx hx=>(L x hx).up1) ⟨h2,by show 0<=n;lia,iP h4,by simp[Su],eK g1⟩) h.hold (ug hnm) g0 g1 g2' hh
 |Oh i j=>
  obtain⟨hij,hi,hj,h1,h2,h3⟩:=hc
  have li:=L _ (BG hi)
  have lj:=L _ (BG hj)
  have tl:((AQ st.AF i).n+(AQ st.AF j).n).toNat<2^(132+k):=by
   have a:=li.n1;have b:=lj.n1
   have e:(2:Int)^(132+k)=2^(131+k)*2:=by rw[show 132+k=(131+k)+1 by lia,Int.pow_succ]
   have:(((AQ st.AF i).n+(AQ st.AF j).n).toNat:Int)<((2^(132+k):Nat):Int):=by
    rw[rJ (by lia)]
    push_cast
    rw[e];lia
   exact_mod_cast this
  have t0:0<((AQ st.AF i).n+(AQ st.AF j).n).toNat:=by lia
  refine Fo.of (G:=G*((AQ st.AF i).n+(AQ st.AF j).n).toNat) (B:=B*((AQ st.AF i).n+(AQ st.AF j).n).toNat) (by simp[step,B8];lia) (OX ?_ ⟨li.kd,by show 0<=(AQ st.AF i).n+(AQ st.AF j).n;lia,?_,?_,TL h1 h2 li.ok lj.ok⟩) h.hold (ug hnm) (x9 g0 t0) (tF _ g1) (Tq g2 tl (by lia)) (λr hr=>(hh r hr).up (p9 _))
  .have e0:AQ (less st.AF i (AQ st.AF i).n) j=AQ st.AF j:=by
    unfold AQ less
    rw[qJ,qE hij,<-qJ]
   have A:=Hy (P:=LOk t (k+1) (G*((AQ st.AF i).n+(AQ st.AF j).n).toNat) (B*((AQ st.AF i).n+(AQ st.AF j).n).toNat)) (n:=(AQ st.AF i).n) hi (λx hx=>(L x hx).up (p9 _)) ((li.up (p9 _)).less (by lia) (Int.le_refl _))
   have A2:=Hy (st:={st with AF:=less st.AF i (AQ st.AF i).n}) (i:=j) (n:=(AQ st.AF j).n) (by simpa[B8]using hj) A (by
    show LOk _ _ _ _ ⟨(AQ (less st.AF i (AQ st.AF i).n) j).k,(AQ (less st.AF i (AQ st.AF i).n) j).n-_,(AQ (less st.AF i (AQ st.AF i).n) j).ow⟩
    rw[e0]
    exact(lj.up (p9 _)).less (by lia) (Int.le_refl _))
   exact A2
  .show(AQ st.AF i).n+(AQ st.AF j).n<2^(131+(k+1))
   have a:=li.n1;have b:=lj.n1
   rw[show 131+(k+1)=(131+k)+1 by lia,Int.pow_succ];lia
  .exact Ig li.own lj.own
 |swap i g kd n=>
  obtain⟨hi,h1,h2,h3,h4,h5,h6⟩:=hc
  have li:=L _ (BG hi)
  refine Fo.of (G:=G) (B:=B) (by simp[step,B8];lia) (OX (Hy hi (λx hx=>(L x hx).up1) (li.up1.less (by lia) h2)) ⟨h3,by show 0<=n;lia,iP h6,li.own,li.ok⟩) h.hold (ug hnm) g0 g1 g2' hh
 |B5 u i g kd n=>
  obtain⟨hi,h1,h2,h3,h4,h5,h6,h7⟩:=hc
  have li:=L _ (BG hi)
  refine Fo.of (G:=G) (B:=B) (by simp[step,B8];lia) (OX (Hy hi (λx hx=>(L x hx).up1) (li.up1.less (by lia) h2)) ⟨h3,by show 0<=n;lia,iP h6,li.own,li.ok⟩) h.hold (by simp[step];lia) g0 g1 g2' hh
 |Hf i n=>
  obtain⟨hi,h1,h2⟩:=hc
  have li:=L _ (BG hi)
  refine Fo.of (G:=G) (B:=B) (by simp[step,B8];lia) (Hy hi (λx hx=>(L x hx).up1) (li.up1.less (by lia) h2)) h.hold (ug hnm) g0 g1 g2' hh
 |thr i n ws=>
  obtain⟨hi,h1,h2,h3,h4⟩:=hc
  have li:=L _ (BG hi)
  have W:=Kv ht h (by lia) h3 h4
  have wl:(Ff t st.AF ws).toNat<2^(145+k):=by
   have:((Ff t st.AF ws).toNat:Int)<((2^(145+k):Nat):Int):=by
    rw[rJ (by lia)];push_cast;exact W.2
   exact_mod_cast this
  have bo:=λ{ss:List Rat} (hs:∀r∈ss,Ok G B r)=>VA ht h (by lia) h3 h4 hi h1 h2 li.ok hs
  refine Fo.of (G:=G*(Ff t st.AF ws).toNat) (B:=B*(Ff t st.AF ws).toNat) (by simp[step,B8];lia) ?_ (Ig h.hold li.own) (ug hnm) (x9 g0 (by lia)) (tF _ g1) (Tq g2 wl (by lia)) (bo hh)
  intro x hx
  obtain⟨y,hy,rfl⟩:=qi.mp hx
  have ly:=Hy (P:=LOk t k G B) hi L (li.less (n:=n) (by lia) h2) y hy
  exact⟨ly.kd,ly.n0,ly.up1.n1,Ig ly.own li.own,bo ly.ok⟩
 |Ks p q x=>
  obtain⟨h1,h2,h3,h4,h5,h6⟩:=hc
  have dp:=x.den_pos
  refine Fo.of (G:=G*x.den) (B:=2*B*x.den) (by simp[step];lia) ?_ (by simp[step,JA,h.hold]) (ug hnm) (x9 g0 dp) (tF _ (by lia)) ?_ (Sy (by rw[h.hold];exact h2) (by rw[h.hold];exact h3) h4 h5 hh)
  .intro y hy
   obtain⟨z,hz,rfl⟩:=qi.mp hy
   have lz:=L z hz
   exact⟨lz.kd,lz.n0,lz.up1.n1,by simp[JA,lz.own],Sy (by rw[lz.own];exact h2) (by rw[lz.own];exact h3) h4 h5 lz.ok⟩
  .have:=Tq (B:=B) (T:=2*x.den) (j:=5) g2 (by lia) (by lia)
   rw[show 2*B*x.den=B*(2*x.den) by rw[<-yI,vG 2 B]]
   exact this
end
theorem Ey{α:Type}{f:α->D}:∀{xs:List α},(∀x∈xs,(f x).lay=true)->D.Km (xs.map f)=true
 | [],_=>rfl
 |x::xs,h=>by
  show((f x).lay && D.Km (xs.map f))=true
  rw[h x qH,Ey λy hy=>h y (qC _ hy)]
  rfl
theorem RE{ds:List D}(h:D.Km ds=true):Dq (.lst ds) (.lst [])=true:=by
 unfold Dq
 show(D.Km ds && true && _)=true
 rw[h]
 simp only[zv,decide_eq_true_eq]
 exact qD (Nat.min_le_right _ _) (by decide)
noncomputable def Bi(is:List Nat):List D:=is.map λ(i:Nat)=>D.int i
theorem LF{is:List Nat}:Dq (.lst (Bi is)) (.lst [])=true:=RE (Ey λ_ _=>rfl)
theorem Yd{d:D}{ds:List D}:deq (.lst (d::ds)) (.lst [])=false:=rfl
theorem aE:deq (.lst []) (.lst [])=true:=rfl
theorem Nr{is:List Nat}:deq (.lst (Bi is)) (.lst [])=is.isEmpty:=by
 cases is with
 |nil=>exact aE
 |cons i is=>exact Yd
theorem L7{ds:List D}:QX 0 ds=(qR ds.length).map λ(i:Nat)=>D.tup [.int i,ds.getD i .non]:=by
 apply List.ext_getElem?
 intro i
 rw[K0,qf]
 by_cases h:i<ds.length
 .rw[pf h,List.getElem?_range h]
  simp[pf h]
 .rw[y0 (by lia),y0 (by simp;lia)]
  rfl
theorem GL{is:List Nat}:(Bi is).length=is.length:=by simp[Bi]
theorem HW{is:List Nat}{r:Int}(h0:0<=r)(h1:r<is.length):∃i∈is,atI (Bi is) r=Gc (.int (i:Nat)):=by
 have h2:r.toNat<is.length:=by lia
 refine⟨is[r.toNat],tS h2,?_⟩
 have:=Yx (xs:=Bi is) h0 (by rw[GL];exact h1)
 rw[this]
 simp[Bi]
theorem Qj{x K:Int}(h0:0<=x)(h1:x<2*K):x % K=if x<K then x else x-K:=by
 split
 .exact Int.emod_eq_of_lt h0 (by assumption)
 .have:x % K=(x-K) % K:=by rw[Int.sub_emod_right]
  rw[this]
  exact Int.emod_eq_of_lt (by lia) (by lia)
section
variable{S:Sto}{p s l m:Nat}{as:List Nat}{st:Stt}{t:Tr}{k:Nat}
noncomputable def A6(st:Stt):List Nat:=(qR st.AF.length).filter λi=>decide (0<(AQ st.AF i).n)
theorem Uh(hS:SAt S s l m as st)(hl:st.AF.length<=50):CC [(l,as.map D.ref)] (tTp [tNm 0,tNm 1]) (eOp (o2 wGt) [eOp (o2 wIx) [eV 1,eC (.int 1)],eC (.int 0)]) (eV 0) (QX 0 (as.map D.ref)) [] [none,none] S=Gc (Bi (A6 st),S):=by
 have:=DK (gs:=[(l,as.map D.ref)]) (t:=tTp [tNm 0,tNm 1]) (c:=eOp (o2 wGt) [eOp (o2 wIx) [eV 1,eC (.int 1)],eC (.int 0)]) (f:=eV 0) (C:=[]) (m:=2) (e:=λi:Nat=>D.tup [.int i,(as.map D.ref).getD i .non]) (g:=λi:Nat=>D.int i) (b:=λi=>decide (0<(AQ st.AF i).n)) (S:=S) hS.guard (xs:=qR st.AF.length) (acc:=[]) (os:=[none,none]) rfl (qD (show _<=50 by simp;lia) (AN (by decide))) (by
  intro i hi os ho
  obtain⟨o1,o2,rfl⟩:=kh ho
  obtain⟨a,a1,a2,a3⟩:=hS.at (uu.mp hi)
  have e:(as.map D.ref).getD i .non=.ref a:=by simp[a1]
  rw[e]
  refine⟨[Gc (.int i),Gc (.ref a)],rfl,by simp,?_,by simp⟩
  simp[Aq a2,CY])
 rw[L7,qP,hS.len]
 exact this
theorem Jg{i:Nat}(h:i∈A6 st):i<st.AF.length/\0<(AQ st.AF i).n:=by
 unfold A6 at h
 rw[se]at h
 exact⟨uu.mp h.1,by simpa using h.2⟩
noncomputable def Ew(st:Stt)(j:Nat):List Nat:=(A6 st).filter λi=> !(i==j) && ((AQ st.AF i).k==(AQ st.AF j).k)
theorem Kt:(A6 st).length<=st.AF.length:=by
 unfold A6
 exact qD (uV _ _) (by simp)
theorem Xj{a b:Nat}:((a:Int)==(b:Int))=(a==b):=by
 by_cases h:a=b
 .subst h;simp
 .have:((a:Int)==(b:Int))=false:=by simp;lia
  rw[this];simp[h]
theorem cQ(hS:SAt S s l m as st)(hl:st.AF.length<=50){j:Nat}(hj:j∈A6 st):CC [] (tNm 2) (GG (eOp (o2 wNe) [eV 2,eV 1]) (eOp (o2 wEq) [eOp (o2 wIx) [eOp (o2 wIx) [eV 0,eV 2],eC (.int 0)],eOp (o2 wIx) [eOp (o2 wIx) [eV 0,eV 1],eC (.int 0)]])) (eV 2) (Bi (A6 st)) [] [Gc (.ref l),Gc (.int j),none] S=Gc (Bi (Ew st j),S):=by
 have fl:=Kt (st:=st)
 exact DK (gs:=[]) (t:=tNm 2) (f:=eV 2) (C:=[Gc (.ref l),Gc (.int j)]) (m:=1) (e:=λi:Nat=>D.int i) (g:=λi:Nat=>D.int i) (b:=λi=> !(i==j) && ((AQ st.AF i).k==(AQ st.AF j).k)) (S:=S) Ah (xs:=A6 st) (acc:=[]) (os:=[none]) rfl (qD (show _<=50 by simp;lia) (AN (by decide))) (by
  intro i hi os ho
  obtain⟨o1,rfl⟩:=Og ho
  obtain⟨a,a1,a2,a3⟩:=hS.at (Jg hi).1
  obtain⟨b,b1,b2,b3⟩:=hS.at (Jg hj).1
  refine⟨[Gc (.int i)],rfl,by simp,?_,by simp⟩
  by_cases e:i=j
  .subst e
   simp
  .have e':((i:Int)==(j:Int))=false:=by simp;lia
   have e2:(i==j)=false:=by simp[e]
   simp[e',e2,Aq hS.lo,a3,b3,Aq a2,Aq b2,CY,Xj])
theorem Wd{i j:Nat}(h:i∈Ew st j):i∈A6 st/\i≠j/\(AQ st.AF i).k=(AQ st.AF j).k:=by
 unfold Ew at h
 rw[se]at h
 simp at h
 exact⟨h.1,h.2.1,h.2.2⟩
noncomputable def FT(st:Stt):List Nat:=(qR 10).filter λi=> !(st.nums.any λu=>u==(i:Int))
theorem OJ{us:List Int}{i:Int}:inD (.int i) (us.map D.int)=us.any λu=>u==i:=by
 unfold inD
 rw[List.any_map]
 rfl
@[simp] theorem jW{b:Bool}{w:Wv}{r:List D}:wIn b w (.own r)=if(Iv (fz w) && r.all Iv)=true then some (.val (.bl (if b then !inD (fz w) r else inD (fz w) r)))else none:=nr rfl
@[simp] theorem lB{b:Bool}{w:Wv}{r:List D}:wIn b w (.val (.lst r))=if(Iv (fz w) && r.all Iv)=true then some (.val (.bl (if b then !inD (fz w) r else inD (fz w) r)))else none:=nr rfl
theorem L9{us:List Int}:(us.map D.int).all Iv=true:=by
 rw[yd,List.all_eq_true]
 intro x _;rfl
@[simp] theorem mZ{i:Int}:Iv (.int i)=true:=nr rfl
theorem cb(hS:SAt S s l m as st):CC [] (tNm 1) (eOp (o2 (wIn true)) [eV 1,eV 0]) (eV 1) (Kb 0 10) [] [Gc (.ref m),none] S=Gc (Bi (FT st),S):=by
 exact DK (gs:=[]) (t:=tNm 1) (f:=eV 1) (C:=[Gc (.ref m)]) (m:=1) (e:=λi:Nat=>D.int (0+(i:Int))) (g:=λi:Nat=>D.int i) (b:=λi=> !(st.nums.any λu=>u==(i:Int))) (S:=S) Ah (xs:=qR 10) (acc:=[]) (os:=[none]) rfl (qD (show _<=50 by simp) (AN (by decide))) (by
  intro i hi os ho
  obtain⟨o1,rfl⟩:=Og ho
  refine⟨[Gc (.int i)],rfl,by simp,?_,by simp⟩
  have nu:=Aq hS.nu
  have fi:=L9 (us:=st.nums)
  have ii:=OJ (us:=st.nums) (i:=(i:Int))
  generalize st.nums.map D.int=ud at*
  generalize (st.nums.any λu=>u==(i:Int))=bb at*
  simp[nu,fi,ii])
theorem XJ{i:Nat}(h:i∈FT st):(i:Int)∉st.nums/\i<=9:=by
 unfold FT at h
 rw[se]at h
 have h1:=uu.mp h.1
 refine⟨?_,by lia⟩
 intro z
 have h2:=h.2
 have:(st.nums.any λu=>u==(i:Int))=true:=uI.mpr ⟨_,z,by simp⟩
 rw[this]at h2
 cases h2
theorem Wn:(FT st).length<=10:=by
 unfold FT
 exact qD (uV _ _) (by simp)
theorem Xl{j:Nat}:(Ew st j).length<=st.AF.length:=by
 unfold Ew
 exact qD (uV _ _) Kt
end
section
variable{S:Sto}{p s l m:Nat}{as:List Nat}{st:Stt}{t:Tr}{k:Nat}
def Va:Ex:=(AU (xIf (GG (eOp (o2 wEq) [eV 7,eC (.int 7)]) (eOp (o2 wNe) [eV 12,GH []])) (BR (BL [eC (.str "trade"),eOp (o2 wIx) [eV 12,AJ AH [eV 0,eOp (o1 HP) [eV 12]]],eV 8,eV 9,eV 11,AJ BF [eV 0]])) CZ)
    (BR (BL [eC (.str "swap"),eV 8,eV 9,eV 11,AJ BF [eV 0]])))
def Rz:Ex:=(AU (xIf (eOp (o2 wEq) [eV 7,eC (.int 8)]) (BR (BL [eC (.str "spoil"),eV 8,eV 9])) CZ)
    (AU (xIf (GG (eOp (o2 wEq) [eV 7,eC (.int 9)]) (eOp (o2 wGt) [eOp (o2 wIx) [eV 1,eC (.int 0)],eC (.int 1)])) (AU (A4 13 (AJ AH [eV 0,eOp (o2 wIx) [eV 1,eC (.int 0)]]))
    (BR (BL [eC (.str "sell"),eV 13,eOp (o2 P2) [eOp (o2 Be) [eOp (o2 Be) [eV 13,eC (.int 1)],AJ AH [eV 0,eOp (o2 MK) [eOp (o2 wIx) [eV 1,eC (.int 0)],eC (.int 1)]]],eOp (o2 wIx) [eV 1,eC (.int 0)]],AJ FW [eV 0]]))) CZ)
    (BR (BL [eC (.str "throw"),eV 8,eV 9,AJ Dl [eV 0,eOp (o2 Be) [eOp (o2 wIx) [eV 1,eC (.int 1)],eC (.int 1)]]]))))
def PK:Ex:=(AU (xIf (GG (eOp (o2 wLt) [eV 7,eC (.int 8)]) (eOp (o2 wGt) [eOp (o2 wIx) [eV 1,eC (.int 1)],eC (.int 1)])) (AU (A4 11 (eOp (o2 P2) [eOp (o2 Be) [eOp (o2 Be) [eOp (o2 wIx) [eOp (o2 wIx) [eV 3,eV 8],eC (.int 0)],eC (.int 1)],AJ AH [eV 0,eOp (o2 MK) [eOp (o2 wIx) [eV 1,eC (.int 1)],eC (.int 1)]]],eOp (o2 wIx) [eV 1,eC (.int 1)]]))
    (AU (A4 12 (Cc [5] 1 (K8 [eC (.int 10)]) (tNm 1) (eOp (o2 (wIn true)) [eV 1,eV 0]) (eV 1)))
    Va)) CZ) Rz)
def Uv:Ex:=(xIf (eOp (o2 wLt) [eV 7,eC (.int 5)]) (AU (A4 10 (Cc [3,8] 1 (Fp (eV 6)) (tNm 2) (GG (eOp (o2 wNe) [eV 2,eV 1]) (eOp (o2 wEq) [eOp (o2 wIx) [eOp (o2 wIx) [eV 0,eV 2],eC (.int 0)],eOp (o2 wIx) [eOp (o2 wIx) [eV 0,eV 1],eC (.int 0)]])) (eV 2)))
    (xIf (eOp (o2 wNe) [eV 10,GH []]) (BR (BL [eC (.str "pool"),eV 8,eOp (o2 wIx) [eV 10,AJ AH [eV 0,eOp (o1 HP) [eV 10]]]])) CZ)) CZ)
def Sm:AV->Prop
 | .B5 _ _ g _ n=>g<=2000/\n<2^130
 |_=>yu
def Yh:Ex:=(AU (xIf (eOr (eOp (o2 wLt) [eV 7,eC (.int 2)]) (eOp (o2 wEq) [eV 6,GH []])) (BR (BL [eC (.str "bring"),AJ AH [eV 0,eOp (o2 wIx) [eV 1,eC (.int 0)]],AJ AH [eV 0,eOp (o2 wIx) [eV 1,eC (.int 1)]],AJ BF [eV 0]])) CZ)
    (AU (A4 8 (eOp (o2 wIx) [eV 6,AJ AH [eV 0,eOp (o1 HP) [eV 6]]]))
    (AU (A4 9 (eOp (o2 Be) [eC (.int 1),AJ AH [eV 0,eOp (o2 Y6) [eOp (o2 wIx) [eOp (o2 wIx) [eV 3,eV 8],eC (.int 1)],eC (.int 2000)]]]))
    (AU Uv PK))))
theorem Xz:NR=(AU (Nz (tTp [tNm 3,tNm 4,tNm 5]) (eV 2)) (AU (A4 6 (Cc [] 2 (Zx (eV 3)) (tTp [tNm 0,tNm 1]) (eOp (o2 wGt) [eOp (o2 wIx) [eV 1,eC (.int 1)],eC (.int 0)]) (eV 0))) (AU (A4 7 (AJ AH [eV 0,eC (.int 12)])) Yh))):=rfl
theorem Xw(hp:Bg p S)(hS:SAt S s l m as st)(hps:p∉s::l::m::as)(ht:Ji t)(h:Fo t k st)(hk:k<=16):∃d S',EH [.ref p,t.d,.ref s] S=Gc (AV.d d,S')/\Pn p S S'/\Can t st d/\Sm d:=by
 obtain⟨t1,t2,t3,t4,t5,t6⟩:=ht
 have hlen:=h.len
 have st':∀{S':Sto},Pn p S S'->SAt S' s l m as st:=λg=>hS.same g.same (by simpa using hps)
 have r0:=AR hS.root
 have cf:=Uh hS (by lia)
 have fl:=Kt (st:=st)
 have sq:=Dv hS.lo
 obtain⟨way,S1,e1,a1,b1,p1⟩:=Ad hp (n:=12) (by decide) (by decide)
 have okF:=LF (is:=A6 st)
 have dqF:=Nr (is:=A6 st)
 have pr0:EH [.ref p,t.d,.ref s] S=(Yh [Gc (.ref p),Gc t.d,Gc (.ref s),Gc (.ref l),Gc (shD st.hold),Gc (.ref m),Gc (.lst (Bi (A6 st))),Gc (.int way),none,none,none,none,none,none] S1).map λr=>(flD r.1,r.2.2):=by
  simp[EH,Xz,r0,sq,cf,e1]
 by_cases hb:way<2\/(A6 st).isEmpty=true
 .obtain⟨x2,S2,e2,a2,b2,p2⟩:=Ad p1.pen (n:=t.p) (by lia) (by lia)
  obtain⟨x3,S3,e3,a3,b3,p3⟩:=Ad p2.pen (n:=t.k) (by lia) (by lia)
  obtain⟨x4,S4,e4,p4,a4,b4⟩:=Lv p3.pen
  obtain⟨x2,rfl⟩:=Eu a2
  obtain⟨x3,rfl⟩:=Eu a3
  refine⟨.D4 x2 x3 x4,S4,?_,((p1.trans p2).trans p3).trans p4,⟨by lia,by lia,a4,b4⟩,trivial⟩
  rw[pr0]
  have ho:∀(x y:Ex),xIf (eOr (eOp (o2 wLt) [eV 7,eC (.int 2)]) (eOp (o2 wEq) [eV 6,GH []])) x y [Gc (.ref p),Gc t.d,Gc (.ref s),Gc (.ref l),Gc (shD st.hold),Gc (.ref m),Gc (.lst (Bi (A6 st))),Gc (.int way),none,none,none,none,none,none] S1=x [Gc (.ref p),Gc t.d,Gc (.ref s),Gc (.ref l),Gc (shD st.hold),Gc (.ref m),Gc (.lst (Bi (A6 st))),Gc (.int way),none,none,none,none,none,none] S1:=by
   intro x y
   by_cases hw:way<2
   .simp[hw]
   .simp[hw,okF,dqF,hb.resolve_left hw]
  simp[Yh,-N6,ho]
  simp[Tr.d,e2,e3,e4,AV.d]
 .have hw2:¬way<2:=λz=>hb (.inl z)
  have hf:(A6 st).isEmpty=false:=by
   cases z:(A6 st).isEmpty with
   |true=>exact absurd (.inr z) hb
   |false=>rfl
  have hfl:0<(A6 st).length:=by
   cases z:A6 st with
   |nil=>rw[z]at hf;cases hf
   |cons a b=>simp
  obtain⟨rl,S2,e2,a2,b2,p2⟩:=Ad p1.pen (n:=(A6 st).length) (by lia) (by lia)
  obtain⟨i,mi,ei⟩:=HW a2 b2
  have fi:=Jg mi
  have hS1:=st' p1
  have hS2:=st' (p1.trans p2)
  obtain⟨a,x1,x2,x3⟩:=hS2.at fi.1
  have n1:=fi.2
  obtain⟨rs,S3,e3,a3,b3,p3⟩:=Ad p2.pen (n:=if 2000<(AQ st.AF i).n then 2000 else(AQ st.AF i).n) (by split<;>lia) (by split<;>lia)
  have hsome:1<=1+rs/\1+rs<=(AQ st.AF i).n:=by split at b3<;>lia
  have p23:=(p1.trans p2).trans p3
  have hS3:=st' p23
  have lo2:=Aq hS2.lo
  have lo3:=Aq hS3.lo
  have x2':=Aq x2
  have x4:S3[a]?=Gc (CY (AQ st.AF i)):=hS3.ld i a _ x1 (Ft fi.1)
  have x4':=Aq x4
  have kd:=h.kind _ (BG fi.1)
  have nl:=GL (is:=A6 st)
  have cs:=cQ hS3 (by lia) mi
  have okS:=LF (is:=Ew st i)
  have dqS:=Nr (is:=Ew st i)
  have sl:=Xl (st:=st) (j:=i)
  have nls:=GL (is:=Ew st i)
  have pre:EH [.ref p,t.d,.ref s] S=((Uv [Gc (.ref p),Gc t.d,Gc (.ref s),Gc (.ref l),Gc (shD st.hold),Gc (.ref m),Gc (.lst (Bi (A6 st))),Gc (.int way),Gc (.int i),Gc (.int (1+rs)),none,none,none,none] S3).bind (cc PK)).map λr=>(flD r.1,r.2.2):=by
   rw[pr0]
   simp[Yh,hw2,okF,dqF,hf,nl,e2,ei,lo2,x3,x2',e3]
  have tail:∀o10,(way<5->(Ew st i).isEmpty=true)->∃d S',(PK [Gc (.ref p),Gc t.d,Gc (.ref s),Gc (.ref l),Gc (shD st.hold),Gc (.ref m),Gc (.lst (Bi (A6 st))),Gc (.int way),Gc (.int i),Gc (.int (1+rs)),o10,none,none,none] S3).map (λr=>(flD r.1,r.2.2))=Gc (AV.d d,S')/\Pn p S S'/\Can t st d/\Sm d:=by
   intro o10 _
   generalize hE:([Gc (.ref p),Gc t.d,Gc (.ref s),Gc (.ref l),Gc (shD st.hold),Gc (.ref m),Gc (.lst (Bi (A6 st))),Gc (.int way),Gc (.int i),Gc (.int (1+rs)),o10,none,none,none]:En)=E
   clear pre cs okS dqS
   by_cases hsw:way<8/\1<t.k
   .obtain⟨hw8,hk1⟩:=hsw
    have hk1':(1:Int)<t.k:=by lia
    obtain⟨rk,S4,e4,a4,b4,p4⟩:=Ad p3.pen (n:=(t.k:Int)-1) (by lia) (by lia)
    have hS4:=st' (p23.trans p4)
    have hmod:=Qj (x:=((AQ st.AF i).k:Int)+1+rk) (K:=t.k) (by lia) (by lia)
    obtain⟨kd2,ekd⟩:∃q:Nat,((AQ st.AF i).k+1+rk) % (t.k:Int)=(q:Int):=⟨_,(rJ (tz _ (by lia))).symm⟩
    have hkd:kd2<t.k/\kd2≠(AQ st.AF i).k:=by
     rw[ekd]at hmod
     split at hmod<;>lia
    have kp:0<t.k:=by lia
    have cl:=cb hS4
    have okL:=LF (is:=FT st)
    have dqL:=Nr (is:=FT st)
    have ll:=Wn (st:=st)
    have nll:=GL (is:=FT st)
    have rt:Ho 10=true:=C4 (by decide) (by decide)
    have mid:PK E S3=(Va [Gc (.ref p),Gc t.d,Gc (.ref s),Gc (.ref l),Gc (shD st.hold),Gc (.ref m),Gc (.lst (Bi (A6 st))),Gc (.int way),Gc (.int i),Gc (.int (1+rs)),o10,Gc (.int kd2),Gc (.lst (Bi (FT st))),none] S4).bind (cc Rz):=by
     subst hE
     simp[PK,Tr.d,x3,hw8,hk1',lo3,x4',e4,kp,ekd,rt,cl]
    rw[mid]
    clear mid hE
    by_cases htr:way=7/\(FT st).isEmpty=false
    .obtain⟨hw7,hle⟩:=htr
     have hll:0<(FT st).length:=by
      cases z:FT st with
      |nil=>rw[z]at hle;cases hle
      |cons a b=>simp
     obtain⟨ru,S5,e5,a5,b5,p5⟩:=Ad p4.pen (n:=(FT st).length) (by lia) (by lia)
     obtain⟨u,mu,eu⟩:=HW a5 b5
     obtain⟨x6,S6,e6,p6,a6,b6⟩:=NZ p5.pen
     have fu:=XJ mu
     refine⟨.B5 u i (1+rs) kd2 x6,S6,?_,((p23.trans p4).trans p5).trans p6,⟨fi.1,hsome.1,hsome.2,hkd.1,hkd.2,a6,tK b6 (by decide),fu.1,by lia,by lia⟩,by split at b3<;>lia,b6⟩
     subst hw7
     simp[Va,okL,dqL,hle,nll,e5,eu,e6,AV.d]
    .obtain⟨x6,S6,e6,p6,a6,b6⟩:=Lv p4.pen
     refine⟨.swap i (1+rs) kd2 x6,S6,?_,(p23.trans p4).trans p6,⟨fi.1,hsome.1,hsome.2,hkd.1,hkd.2,a6,b6⟩,trivial⟩
     by_cases h7:way=7
     .subst h7
      have hle:(FT st).isEmpty=true:=by
       cases z:(FT st).isEmpty with
       |true=>rfl
       |false=>exact absurd ⟨rfl,z⟩ htr
      simp[Va,okL,dqL,hle,e6,AV.d]
     .have h7':(way==7)=false:=by simpa using h7
      simp[Va,h7',e6,AV.d]
   .have sw:PK E S3=Rz E S3:=by
     subst hE
     by_cases w8:way<8
     .have hk1:¬(1:Int)<t.k:=by lia
      simp[PK,Tr.d,w8,hk1]
     .simp[PK,w8]
    rw[sw]
    clear sw
    by_cases h8:way=8
    .subst h8
     refine⟨.Hf i (1+rs),S3,?_,p23,⟨fi.1,hsome.1,hsome.2⟩,trivial⟩
     subst hE
     simp[Rz,AV.d]
    .have h8':(way==8)=false:=by simpa using h8
     by_cases h9:way=9/\1<t.p
     .obtain⟨h9,hP⟩:=h9
      subst h9
      have hP':(1:Int)<t.p:=by lia
      obtain⟨rp,S4,e4,a4,b4,p4⟩:=Ad p3.pen (n:=t.p) (by lia) (by lia)
      obtain⟨rq,S5,e5,a5,b5,p5⟩:=Ad p4.pen (n:=(t.p:Int)-1) (by lia) (by lia)
      obtain⟨sh,S6,e6,p6,a6,b6,c6⟩:=Ya p5.pen
      have hmod:=Qj (x:=rp+1+rq) (K:=t.p) (by lia) (by lia)
      obtain⟨q,eq⟩:∃q:Nat,(rp+1+rq) % (t.p:Int)=(q:Int):=⟨_,(rJ (tz _ (by lia))).symm⟩
      obtain⟨rp,rfl⟩:=Eu a4
      have hq:q<t.p/\q≠rp:=by
       rw[eq]at hmod
       split at hmod<;>lia
      have pp:0<t.p:=by lia
      refine⟨.Ks rp q sh,S6,?_,((p23.trans p4).trans p5).trans p6,⟨λz=>hq.2 z.symm,by lia,hq.1,a6,b6,c6⟩,trivial⟩
      subst hE
      simp[Rz,Tr.d,hP',e4,e5,pp,eq,e6,AV.d]
     .have s9:∀(x y:Ex) (T:Sto),xIf (GG (eOp (o2 wEq) [eV 7,eC (.int 9)]) (eOp (o2 wGt) [eOp (o2 wIx) [eV 1,eC (.int 0)],eC (.int 1)])) x y E T=y E T:=by
       intro x y T
       subst hE
       by_cases z:way=9
       .have hP:¬(1:Int)<t.p:=by have:¬1<t.p:=λw=>h9 ⟨z,w⟩;lia
        subst z
        simp[Tr.d,hP]
       .have z':(way==9)=false:=by simpa using z
        simp[z']
      obtain⟨ws,S4,e4,p4,a4,b4⟩:=Vg p3.pen (n:=t.k+1) (by lia)
      have e4':Dl [.ref p,.int ((t.k:Int)+1)] S3=Gc (.tup (ws.map .int),S4):=e4
      refine⟨.thr i (1+rs) ws,S4,?_,p23.trans p4,⟨fi.1,hsome.1,hsome.2,a4,b4⟩,trivial⟩
      have s8:∀(x y:Ex) (T:Sto),xIf (eOp (o2 wEq) [eV 7,eC (.int 8)]) x y E T=y E T:=by
       intro x y T
       subst hE
       simp[h8']
      simp[Rz,-N6,s8,s9]
      subst hE
      simp[Tr.d,e4',AV.d]
  by_cases hpool:way<5/\(Ew st i).isEmpty=false
  .obtain⟨hw5,hse⟩:=hpool
   have hsl:0<(Ew st i).length:=by
    cases z:Ew st i with
    |nil=>rw[z]at hse;cases hse
    |cons a b=>simp
   obtain⟨rj,S4,e4,a4,b4,p4⟩:=Ad p3.pen (n:=(Ew st i).length) (by lia) (by lia)
   obtain⟨j,mj,ej⟩:=HW a4 b4
   have fj:=Wd mj
   have fj':=Jg fj.1
   refine⟨.Oh i j,S4,?_,p23.trans p4,⟨λz=>fj.2.1 z.symm,fi.1,fj'.1,n1,fj'.2,fj.2.2.symm⟩,trivial⟩
   rw[pre]
   simp[Uv,hw5,cs,okS,dqS,hse,nls,e4,ej,AV.d]
  .by_cases w5:way<5
   .have hse:(Ew st i).isEmpty=true:=by
     cases z:(Ew st i).isEmpty with
     |true=>rfl
     |false=>exact absurd ⟨w5,z⟩ hpool
    obtain⟨d,S',e,pn,hc⟩:=tail (Gc (.lst (Bi (Ew st i)))) (λ_=>hse)
    refine⟨d,S',?_,pn,hc⟩
    rw[pre,<-e]
    simp[Uv,w5,cs,okS,dqS,hse]
   .obtain⟨d,S',e,pn,hc⟩:=tail none (λz=>absurd z w5)
    refine⟨d,S',?_,pn,hc⟩
    rw[pre,<-e]
    simp[Uv,w5]
end
noncomputable def runs(t:Tr)(st:Stt)(ds:List AV):Stt:=ds.foldl (step t) st
def HY(t:Tr):Stt->List AV->Prop
 |_,[]=>yu
 |st,d::ds=>Can t st d/\HY t (step t st d) ds
theorem Jk{t:Tr}{d:AV}:∀{ds:List AV} {st:Stt},HY t st ds->Can t (runs t st ds) d->HY t st (ds++[d])
 | [],st,_,h=>⟨h,trivial⟩
 |x::ds,st,h,g=>⟨h.1,Jk h.2 g⟩
theorem JS{t:Tr}:∀{ds:List AV} {st:Stt} {i:Nat} {d:AV},HY t st ds->ds[i]?=Gc d->Can t (runs t st (ds.take i)) d
 |x::ds,st,0,d,h,g=>by
  simp at g;subst g
  exact h.1
 |x::ds,st,i+1,d,h,g=>by
  simp at g
  show Can t (runs t (step t st x) (ds.take i)) d
  exact JS h.2 g
theorem LS{t:Tr}{st:Stt}{ds:List AV}{d:AV}:runs t st (ds++[d])=step t (runs t st ds) d:=by simp[runs]
theorem LM{t:Tr}{st:Stt}{ds:List AV}{i:Nat}{d:AV}(h:ds[i]?=Gc d):runs t st (ds.take (i+1))=step t (runs t st (ds.take i)) d:=by
 rw[List.take_succ,h]
 exact LS
theorem K9{t:Tr}(ht:Ji t):∀{ds:List AV} {st:Stt} {k:Nat},Fo t k st->HY t st ds->k+ds.length<=17->Fo t (k+ds.length) (runs t st ds)
 | [],st,k,h,_,_=>h
 |d::ds,st,k,h,g,hl=>by
  have:=K9 ht (ds:=ds) (Qm ht h (by simp at hl;lia) g.1) g.2 (by simp at hl;lia)
  rw[show k+(d::ds).length=k+1+ds.length by simp;lia]
  exact this
theorem Mr{t:Tr}:∀{ds:List AV} {st:Stt} {i:Nat},HY t st ds->HY t st (ds.take i)
 | [],st,i,h=>by simp;exact trivial
 |d::ds,st,0,h=>trivial
 |d::ds,st,i+1,h=>⟨h.1,Mr h.2⟩
noncomputable def st0(t:Tr)(ls:List Ld):Stt:=⟨ls,t.ho,[]⟩
structure KY(t:Tr)(ls:List Ld)(ds:List AV):Prop where
 tr:Ji t
 inv:Fo t 0 (st0 t ls)
 good:HY t (st0 t ls) ds
 len:ds.length<=16
theorem KY.at{t:Tr}{ls:List Ld}{ds:List AV}(h:KY t ls ds)(i:Nat):Fo t (ds.take i).length (runs t (st0 t ls) (ds.take i)):=by
 have:=K9 h.tr (ds:=ds.take i) h.inv (Mr h.good) (by have:=h.len;simp;lia)
 rwa [xI]at this
noncomputable def Av(t:Tr)(ls:List Ld)(ds:List AV):D:=.tup [t.d,.tup (ls.map Ld.d),.tup (ds.map AV.d)]
theorem U5{t:Tr}{ls:List Ld}(h:HA t ls)(hl:ls.length<=4)(h1:t.ho.length=t.p){g:Nat}(g0:0<g)(g1:g<=32)(g2:∀r∈t.ho,Ok g g r):Fo t 0 (st0 t ls):=by
 obtain⟨ha,G,G0,G1,G2⟩:=h
 have hG:G<=32^4:=qD G1 (tE (by decide) hl)
 have hB:G*g<2^30:=by
  have:=zV hG g1
  lia
 refine Fo.of (G:=G*g) (B:=G*g) (by simpa[st0]using hl) ?_ h1 (p9 _) (x9 G0 g0) (p9 _) hB ?_
 .intro x hx
  have:=ha x hx
  exact⟨this.1,by lia,iP this.2.2.1,this.2.2.2.1,λr hr=>(G2 x hx r hr).up (p9 _)⟩
 .intro r hr
  have:=(g2 r hr).up (t:=G) (B':=G*g) (by rw[vG];exact p9 _)
  rwa [vG g G]at this
noncomputable def JE:AV->qk
 | .thr .. =>true
 |_=>false
section
variable{S:Sto}{p:Nat}
theorem X1(d:AV)(E:En)(h:E=[Gc d.d]):eOp (o2 wEq) [eOp (o2 wIx) [eV 0,eC (.int 0)],eC (.str "throw")] E S=Gc (.bl (JE d),S):=by
 subst h
 cases d<;>simp[AV.d,JE]
theorem oR{q:Nat}{ds:List AV}(hq:S[q]?=Gc (.lst (ds.map AV.d)))(hl:ds.length<=50):CC [(q,ds.map AV.d)] (tNm 0) (eOp (o2 wEq) [eOp (o2 wIx) [eV 0,eC (.int 0)],eC (.str "throw")]) (eV 0) (ds.map AV.d) [] [none] S=Gc ((ds.filter JE).map AV.d,S):=
 DK (gs:=[(q,ds.map AV.d)]) (t:=tNm 0) (f:=eV 0) (C:=[]) (m:=1) (e:=AV.d) (g:=AV.d) (b:=JE) (S:=S) (λg hg=>by rw[qV.mp hg];exact AR hq) (xs:=ds) (acc:=[]) (os:=[none]) rfl (qD (show _<=50 by simp;lia) (AN (by decide))) (by
  intro d _ os ho
  obtain⟨o1,rfl⟩:=Og ho
  exact⟨[Gc d.d],rfl,by simp,X1 d _ rfl,by simp⟩)
theorem WU{M:Nat}(hM:M<=16)(h:Bg p S):∃t ls ds S',C3 [.ref p,.int M] S=Gc (Av t ls ds,S')/\(KY t ls ds/\ds.length<=M/\∀d∈ds,Sm d)/\((∀l∈ls,l.ow.sum=1)/\t.ho.sum=1)/\Bg p S'/\∀n c,S[n]?=Gc c->n≠p->S'[n]?=Gc c:=by
 obtain⟨t,S1,e1,p1,ht,hh,g,g0,g1,g2⟩:=YT h
 obtain⟨ls,S2,e2,p2,hf,hl⟩:=WG p1.pen ht
 have hi:=U5 hf hl hh.1 g0 g1 g2
 obtain⟨s,l,m,as,S3,e3,hS,sm,hn⟩:=OF (S:=S2) (t:=t) (ls:=ls) (x:=.tup []) (by lia)
 have lp:=p2.pen.lt
 have l02:S.length<=S2.length:=qD p1.same.len p2.same.len
 have pen3:Bg p S3:=by
  obtain⟨ds,e,hp⟩:=p2.pen
  exact⟨ds,sm.get e (by simp),hp⟩
 have hq:(S3++[Cl.lst []])[S3.length]?=Gc (.lst []):=qQ
 obtain⟨rn,S4,e4,a4,b4,p4⟩:=Ad (pen3.app [Cl.lst []]) (n:=(M:Int)+1) (by lia) (by lia)
 have lt3:=hS.lts
 have pn:p∉s::l::m::as:=λz=>by have:=hn p z;lia
 have qn:S3.length∉s::l::m::as:=λz=>by have:=lt3 _ z;lia
 have hpq:S3.length≠p:=by have:=pen3.lt;lia
 have hS4:SAt S4 s l m as (st0 t ls):=(hS.SV (.app)).same p4.same (by simpa using pn)
 have hq4:S4[S3.length]?=Gc (.lst []):=p4.get hq hpq
 obtain⟨rn,rfl⟩:=Eu a4
 have rk:Ho (rn:Int)=true:=C4 (by lia) (by lia)
 have lqS:S.length<=S3.length:=qD l02 sm.len
 generalize hQ:S3.length=q at*
 obtain⟨E',S',ef,ds,as',o6,o7,rfl,f1,f2,f3,f4,f5,f6,f7,f8,f9,f10⟩:=HV (gs:=[]) (t:=tNm 6) (b:=AU (A4 7 (AJ EH [eV 0,eV 2,eV 4]))
  (xIf (eOr (eOp (o2 wNe) [eOp (o2 wIx) [eV 7,eC (.int 0)],eC (.str "throw")]) (eOp (o2 wLt) [eOp (o1 HP) [Cc [] 1 (Fp (eV 5)) (tNm 0) (eOp (o2 wEq) [eOp (o2 wIx) [eV 0,eC (.int 0)],eC (.str "throw")]) (eV 0)],eC (.int 3)])) (AU (Cb (AJ A5 [eV 2,eV 4,eV 7]))
  (Cb (Jv Ka (eV 5) [eV 7]))) CZ))
  (I:=λrs E S'=>∃(ds:List AV) (as':List Nat) (o6 o7:pY D),E=[Gc (.ref p),Gc (.int M),Gc t.d,Gc (.tup (ls.map Ld.d)),Gc (.ref s),Gc (.ref q),o6,o7]/\S'[q]?=Gc (.lst (ds.map AV.d))/\Bg p S'/\SAt S' s l m as' (runs t (st0 t ls) ds)/\HY t (st0 t ls) ds/\ds.length+rs.length<=M/\p∉s::l::m::as'/\q∉s::l::m::as'/\(∀n∈s::l::m::as',S.length<=n)/\(∀n c,S[n]?=Gc c->n≠p->S'[n]?=Gc c)/\∀d∈ds,Sm d)
  (λ_ _ _ _=>Ah) (ds:=Kb 0 rn) (E:=[Gc (.ref p),Gc (.int M),Gc t.d,Gc (.tup (ls.map Ld.d)),Gc (.ref s),Gc (.ref q),none,none]) (S:=S4)
  ⟨[],as,none,none,rfl,hq4,p4.pen,hS4,trivial,by rw[FA];simp;lia,pn,qn,λn z=>qD l02 (hn n z),λn c e ne=>p4.get (Ca.get (A:=[]) .app (sm.get (p2.get (p1.get e ne) ne) (by simp)) (by simp)) ne,λ_ z=>nomatch z⟩ (by
    rintro dd rs E T ⟨ds,as',o6,o7,rfl,i1,i2,i3,i4,i5,i6,i7,i8,i9,i10⟩
    simp only[qg]at i5
    have inv:=K9 ht hi i4 (by lia)
    rw[xI]at inv
    obtain⟨d,T1,d1,d2,d3,d4⟩:=Xw i2 i3 i6 ht inv (by lia)
    have lS:S.length<=T1.length:=by have:=i8 s qH;have:=Af i3.root;have:=d2.same.len;lia
    have j3:=i3.same d2.same (by simpa using i6)
    have j1:T1[q]?=Gc (.lst (ds.map AV.d)):=d2.get i1 hpq
    have tc:=oR j1 (by lia)
    have w1:∀(c:Ev),eOr (eOp (o2 wNe) [eOp (o2 wIx) [eV 7,eC (.int 0)],eC (.str "throw")]) c [Gc (.ref p),Gc (.int M),Gc t.d,Gc (.tup (ls.map Ld.d)),Gc (.ref s),Gc (.ref q),Gc dd,Gc d.d] T1=if JE d=true then c [Gc (.ref p),Gc (.int M),Gc t.d,Gc (.tup (ls.map Ld.d)),Gc (.ref s),Gc (.ref q),Gc dd,Gc d.d] T1 else Gc (.bl true,T1):=by
     intro c
     cases d<;>simp[AV.d,JE]
    by_cases hb:JE d=false\/(ds.filter JE).length<3
    .obtain⟨T2,as2,k1,k2,k3,k4⟩:=ao j3 ht inv (by lia) d3
     have lt:=j3.lts
     have q2:T2[q]?=Gc (.lst (ds.map AV.d)):=k3.get j1 i7
     have hz:ds.length<sizeLine:=qB (show ds.length<50 by lia) (AN (by decide))
     refine⟨_,[Gc (.ref p),Gc (.int M),Gc t.d,Gc (.tup (ls.map Ld.d)),Gc (.ref s),Gc (.ref q),Gc dd,Gc d.d],T2.set q (.lst ((ds++[d]).map AV.d)),by simp;rfl,?_,ds++[d],as2,Gc dd,Gc d.d,rfl,qL (Af q2),?_,?_,Jk i4 d3,by simp;lia,?_,?_,?_,?_,λx hx=>(qW.mp hx).elim (i10 x) λz=>by rw[qV.mp z];exact d4⟩
     .have kk:=AR q2
      have sq:=Dv j1
      have hz':(ds.map AV.d).length<sizeLine:=by simpa using hz
      have hfin:(ds++[d]).map AV.d=ds.map AV.d++[d.d]:=by simp
      rw[hfin]
      generalize hDD:ds.map AV.d=DD at*
      cases ht':JE d with
      |false=>
       simp[d1,-QD,w1,ht',k1,kk,hz']
      |true=>
       have h3:((ds.filter JE).length:Int)<3:=by
        have:=hb.resolve_left (by rw[ht'];simp)
        lia
       simp[d1,-QD,w1,ht',sq,tc,h3,k1,kk,hz']
     .obtain⟨pd,pe,ph⟩:=d2.pen
      exact⟨pd,by rw[qE hpq];exact k3.get pe i6,ph⟩
     .rw[LS]
      exact k2.same (A:=[q]) (.set (by simp)) (by
       intro n hn z
       simp at hn;subst hn
       simp only[qA]at z i7
       rcases z with z|z|z|z
       .exact i7 (.inl z)
       .exact i7 (.inr (.inl z))
       .exact i7 (.inr (.inr (.inl z)))
       .rcases k4 _ z with w|w
        .exact i7 (.inr (.inr (.inr w)))
        .have:=Af j1;lia)
     .intro z
      simp only[qA]at z i6
      rcases z with z|z|z|z
      .exact i6 (.inl z)
      .exact i6 (.inr (.inl z))
      .exact i6 (.inr (.inr (.inl z)))
      .rcases k4 _ z with w|w
       .exact i6 (.inr (.inr (.inr w)))
       .have:=d2.pen.lt;lia
     .intro z
      simp only[qA]at z i7
      rcases z with z|z|z|z
      .exact i7 (.inl z)
      .exact i7 (.inr (.inl z))
      .exact i7 (.inr (.inr (.inl z)))
      .rcases k4 _ z with w|w
       .exact i7 (.inr (.inr (.inr w)))
       .have:=Af j1;lia
     .intro n z
      simp only[qA]at z i8
      rcases z with z|z|z|z
      .exact i8 n (.inl z)
      .exact i8 n (.inr (.inl z))
      .exact i8 n (.inr (.inr (.inl z)))
      .rcases k4 _ z with w|w
       .exact i8 n (.inr (.inr (.inr w)))
       .exact qD lS w
     .intro n c e ne
      have ln:n<S.length:=Af e
      rw[qE (λz=>by have:=lqS;lia)]
      exact k3.get (d2.get (i9 n c e ne) ne) λz=>by have:=i8 n z;lia
    .have ht':JE d=true:=by
      cases z:JE d with
      |true=>rfl
      |false=>exact absurd (.inl z) hb
     have h3:¬((ds.filter JE).length:Int)<3:=by
      have:¬(ds.filter JE).length<3:=λz=>hb (.inr z)
      lia
     refine⟨_,[Gc (.ref p),Gc (.int M),Gc t.d,Gc (.tup (ls.map Ld.d)),Gc (.ref s),Gc (.ref q),Gc dd,Gc d.d],T1,by simp;rfl,?_,ds,as',Gc dd,Gc d.d,rfl,j1,d2.pen,j3,i4,by lia,i6,i7,i8,λn c e ne=>d2.get (i9 n c e ne) ne,i10⟩
     have sq:=Dv j1
     generalize hDD:ds.map AV.d=DD at*
     simp[d1,-QD,w1,ht',sq,tc,h3])
 refine⟨t,ls,ds,S',?_,⟨⟨ht,hi,f4,by simp at f5;lia⟩,by simpa using f5,f10⟩,⟨λx hx=>(hf.1 x hx).2.2.2.2,hh.2⟩,f2,f9⟩
 have df:=Aq f1
 simp[C3,Mh,e1,e2,e3,hQ,e4,rk,ef,df,Av]
end
noncomputable def stD(st:Stt):D:=.tup [.lst (st.AF.map Ld.d),shD st.hold]
section
variable{S:Sto}{s l m:Nat}{as:List Nat}{st:Stt}
theorem cM(hS:SAt S s l m as st)(hl:st.AF.length<=50):CC [(l,as.map D.ref)] (tNm 0) By (eOp (o1 Cj) [eV 0]) (as.map D.ref) [] [none] S=Gc (st.AF.map Ld.d,S):=by
 have e:=DU (gs:=[(l,as.map D.ref)]) (t:=tNm 0) (f:=eOp (o1 Cj) [eV 0]) (C:=[]) (m:=1) (e:=λz:Nat×Ld=>D.ref z.1) (g:=λz=>Ld.d z.2) hS.guard (xs:=as.zip st.AF) (acc:=[]) (os:=[none]) rfl (qD (show _<=50 by simp;lia) (AN (by decide))) (by
  intro z hz os ho
  obtain⟨q1,rfl⟩:=Og ho
  refine⟨[Gc (.ref z.1)],rfl,by simp,?_⟩
  simp[Aq (hS.l8 hz),Ld.d])
 rw[<-Qx hS.len,<-TV hS.len Ld.d]at e
 exact e
theorem Zz{rs:List Rat}:D.tup (rs.map aD)=shD rs:=rfl
def TR:Ev:=BL [Cc [] 1 (Fp (eOp (o2 wIx) [eV 1,eC (.int 0)])) (tNm 0) By (eOp (o1 Cj) [eV 0]),eOp (o1 Cj) [eOp (o2 wIx) [eV 1,eC (.int 1)]]]
theorem RO{E:En}(hS:SAt S s l m as st)(hl:st.AF.length<=50)(hE:at? E 1=Gc (.ref s)):TR E S=Gc (stD st,S):=by
 have r:=Aq hS.root
 have sq:=Dv hS.lo
 have e:=cM hS hl
 simp[TR,hE,r,sq,e,Zz,stD]
end
theorem QQ{n m d:Nat}(h:n<=m):HT.sIx m d (Gc (n:Int))=n:=by
 unfold HT.sIx
 have:¬((n:Int)<0):=by lia
 simp[this]
 lia
theorem Jf{α:Type}{ds:List α}{n:Nat}(h:n<=ds.length):Gx ds none (Gc (n:Int))=ds.take n:=by
 unfold Gx
 rw[QQ h]
 simp[HT.sIx]
theorem Wg{α:Type}{ds:List α}{n:Nat}(h:n<=ds.length):Gx ds (Gc (n:Int)) none=ds.drop n:=by
 unfold Gx
 rw[QQ h]
 simp[HT.sIx]
 exact uB (by simp)
noncomputable def hD(x:Ld):D:=.tup [.int x.k,.int x.n]
noncomputable def CH(ls:List Ld):D:=.lst (ls.map hD)
section
variable{S:Sto}{ls:List Ld}{i j:Nat}{n:Int}
@[simp] theorem jV:dr S (CH ls)=.val (CH ls):=nr rfl
@[simp] theorem jK:asS (.val (CH ls))=some (ls.map hD):=nr rfl
@[simp] theorem ip:HP (.val (CH ls))=some (.val (.int ls.length)):=by
  show HP (.val (.lst (ls.map hD)))=_
  rw[Wl,qP]
theorem IX(hi:i<ls.length):atI (ls.map hD) (i:Int)=Gc (hD (AQ ls i)):=C9 (by rw[qf,Ft hi];rfl)
@[simp] theorem oG{x:Ld}:dr S (hD x)=.val (.tup [.int x.k,.int x.n]):=nr rfl
@[simp] theorem mT{ts:List Tf}{x:Ld}{E:En}:tTp ts (hD x) E S=tMs ts [.int x.k,.int x.n] E S:=nr rfl
theorem PV(hi:i<ls.length)(hn:n<=(AQ ls i).n):CA [CH ls,.int i,.int n] S=Gc (.bl true,S):=by
 have hi':(i:Int)<ls.length:=by lia
 simp[CA,IM,hi',hi,IX hi,hn]
theorem Qe(hi:i<ls.length)(hj:j<ls.length)(h1:0<(AQ ls i).n)(h2:0<(AQ ls j).n)(hk:(AQ ls i).k=(AQ ls j).k):Fz [CH ls,.int i,.int j] S=Gc (.bl true,S):=by
 have e1:=PV (S:=S) (n:=1) hi (by lia)
 have e2:=PV (S:=S) (n:=1) hj (by lia)
 simp[Fz,KA,e1,e2,IX hi,IX hj,hk]
theorem LO{k:Nat}(hi:i<ls.length)(hn:n<=(AQ ls i).n)(hk:k≠(AQ ls i).k):EX [CH ls,.int i,.int n,.int k] S=Gc (.bl true,S):=by
 have e1:=PV (S:=S) hi hn
 have e2:(((AQ ls i).k:Int)==(k:Int))=false:=by simp;lia
 simp[EX,KJ,e1,IX hi,e2]
theorem Xa{lo hi:pY Int}:wSl lo hi (.val (CH ls))=Gc (.own (Gx (ls.map hD) lo hi)):=nr rfl
theorem FC(hi:i<ls.length)(hl:ls.length<=60):Bd [CH ls,.int i,.int n] S=Gc (CH (less ls i n),S):=by
 have c1:=Jf (ds:=ls.map hD) (n:=i) (by simp;lia)
 have c2:Gx (ls.map hD) (Gc ((i:Int)+1)) none=(ls.map hD).drop (i+1):=by
  have:=Wg (ds:=ls.map hD) (n:=i+1) (by simp;lia)
  simpa using this
 have ef:CH (less ls i n)=.lst ((ls.map hD).take i++[.tup [.int (AQ ls i).k,.int ((AQ ls i).n-n)]]++(ls.map hD).drop (i+1)):=by
  rw[Uw,CH,yk,List.set_eq_take_append_cons_drop,qc (by simpa using hi)]
  simp[hD]
 have z1:(List.take i (ls.map hD)).length+1<=sizeLine:=qD (show _<=100 by simp;lia) (AN (by decide))
 have z2:(List.take i (ls.map hD)++[D.tup [.int (AQ ls i).k,.int ((AQ ls i).n-n)]]).length+(List.drop (i+1) (ls.map hD)).length<=sizeLine:=qD (show _<=100 by simp;lia) (AN (by decide))
 rw[ef]
 have ah:=IX hi
 have ws:=λ{lo hi:pY Int}=>Xa (ls:=ls) (lo:=lo) (hi:=hi)
 generalize List.take i (ls.map hD)=A at*
 generalize List.drop (i+1) (ls.map hD)=B at*
 simp only[qw,qg,vM]at z2
 simp[Bd,HG,ah,ws,c1,c2,z1,z2]
end
section
variable{S:Sto}{st:Stt}{t:Tr}{k:Nat}
@[simp] theorem ER{ls:List Ld}{r:List D}:Be (.val (CH ls)) (.val (.lst r))=if(ls.map hD).length+r.length<=sizeLine then some (.own (ls.map hD++r))else none:=nr rfl
theorem K7{ls:List Ld}{y:Ld}:D.lst (ls.map hD++[.tup [.int y.k,.int y.n]])=CH (ls++[y]):=by simp[CH,hD]
theorem O9(h:Fo t k st)(hk:k<=17){d:AV}(hc:Can t st d):Au [CH st.AF,d.d] S=Gc (CH (step t st d).AF,S):=by
 have hlen:=h.len
 have hz:(st.AF.map hD).length+1<=sizeLine:=qD (show _<=100 by simp;lia) (AN (by decide))
 have hz2:∀{i:Nat} {n:Int},((less st.AF i n).map hD).length+1<=sizeLine:=λ{i n}=>qD (show _<=100 by simp[B8];lia) (AN (by decide))
 cases d with
 |D4 p kd n=>
  have e:=K7 (ls:=st.AF) (y:=⟨kd,n,Su t.p p⟩)
  show _=Gc (CH (st.AF++[⟨kd,n,Su t.p p⟩]),S)
  rw[<-e]
  have wA:=ER (ls:=st.AF) (r:=[.tup [.int kd,.int n]])
  rw[qc (by simpa using hz)]at wA
  simp[Au,BX,AV.d,-ER,wA]
 |Oh i j=>
  obtain⟨hij,hi,hj,h1,h2,h3⟩:=hc
  have e0:AQ (less st.AF i (AQ st.AF i).n) j=AQ st.AF j:=by
   unfold AQ less
   rw[qJ,qE hij,<-qJ]
  have w1:=FC (S:=S) (n:=(AQ st.AF i).n) hi (by lia)
  have w2:=FC (S:=S) (ls:=less st.AF i (AQ st.AF i).n) (i:=j) (n:=(AQ st.AF j).n) (by rw[B8];exact hj) (by rw[B8];lia)
  have z3:((less (less st.AF i (AQ st.AF i).n) j (AQ st.AF j).n).map hD).length+1<=sizeLine:=qD (show _<=100 by simp[B8];lia) (AN (by decide))
  have e:=K7 (ls:=less (less st.AF i (AQ st.AF i).n) j (AQ st.AF j).n) (y:=⟨(AQ st.AF i).k,(AQ st.AF i).n+(AQ st.AF j).n,Et (AQ st.AF i).n (AQ st.AF j).n (AQ st.AF i).ow (AQ st.AF j).ow⟩)
  show _=Gc (CH (less (less st.AF i (AQ st.AF i).n) j (AQ st.AF j).n++[_]),S)
  rw[<-e]
  have a1:=IX hi
  have a2:=IX hj
  have wA:=ER (ls:=less (less st.AF i (AQ st.AF i).n) j (AQ st.AF j).n) (r:=[.tup [.int (AQ st.AF i).k,.int ((AQ st.AF i).n+(AQ st.AF j).n)]])
  rw[qc (by simpa using z3)]at wA
  generalize (less (less st.AF i (AQ st.AF i).n) j (AQ st.AF j).n).map hD=A at*
  simp[Au,BX,AV.d,a1,a2,w1,w2,-ER,wA]
 |swap i g kd n=>
  obtain⟨hi,h1,h2,h3,h4,h5,h6⟩:=hc
  have w1:=FC (S:=S) (n:=g) hi (by lia)
  have e:=K7 (ls:=less st.AF i g) (y:=⟨kd,n,(AQ st.AF i).ow⟩)
  show _=Gc (CH (less st.AF i g++[⟨kd,n,(AQ st.AF i).ow⟩]),S)
  rw[<-e]
  have wA:=ER (ls:=less st.AF i g) (r:=[.tup [.int kd,.int n]])
  rw[qc (by simpa using hz2)]at wA
  simp[Au,BX,AV.d,w1,-ER,wA]
 |B5 u i g kd n=>
  obtain⟨hi,h1,h2,h3,h4,h5,h6,h7⟩:=hc
  have w1:=FC (S:=S) (n:=g) hi (by lia)
  have e:=K7 (ls:=less st.AF i g) (y:=⟨kd,n,(AQ st.AF i).ow⟩)
  show _=Gc (CH (less st.AF i g++[⟨kd,n,(AQ st.AF i).ow⟩]),S)
  rw[<-e]
  have wA:=ER (ls:=less st.AF i g) (r:=[.tup [.int kd,.int n]])
  rw[qc (by simpa using hz2)]at wA
  simp[Au,BX,AV.d,w1,-ER,wA]
 |Hf i n=>
  obtain⟨hi,h1,h2⟩:=hc
  have w1:=FC (S:=S) (n:=n) hi (by lia)
  show _=Gc (CH (less st.AF i n),S)
  simp[Au,BX,AV.d,w1]
 |thr i n ws=>
  obtain⟨hi,h1,h2,h3,h4⟩:=hc
  have w1:=FC (S:=S) (n:=n) hi (by lia)
  have e:CH (step t st (.thr i n ws)).AF=CH (less st.AF i n):=by
   show D.lst (((less st.AF i n).map _).map hD)=_
   rw[sR];rfl
  rw[e]
  simp[Au,BX,AV.d,w1]
 |Ks p q x=>
  have e:CH (step t st (.Ks p q x)).AF=CH st.AF:=by
   show D.lst ((st.AF.map _).map hD)=_
   rw[sR];rfl
  rw[e]
  simp[Au,BX,AV.d]
noncomputable def DH:AV->pY Int
 | .B5 u .. =>Gc u
 |_=>none
theorem O7{ls:List Ld}:∀{ds:List AV},(runs t (st0 t ls) ds).nums=ds.filterMap DH:=by
 intro ds
 have:∀(ds:List AV) (st:Stt),(runs t st ds).nums=st.nums++ds.filterMap DH:=by
  intro ds
  induction ds with
  |nil=>intro st;simp[runs]
  |cons d ds ih=>
   intro st
   show(runs t (step t st d) ds).nums=_
   rw[ih]
   cases d<;>simp[step,DH,qY]
 rw[this];rfl
theorem J5:∀{ds:List AV} {acc:List D} {o:pY D},acc.length+ds.length<=100->CC [] (tNm 0) (eOp (o2 wEq) [eOp (o2 wIx) [eV 0,eC (.int 0)],eC (.str "trade")]) (eOp (o2 wIx) [eV 0,eC (.int 1)]) (ds.map AV.d) acc [o] S=Gc (acc++(ds.filterMap DH).map D.int,S)
 | [],acc,o,h=>by rw[sG,Fj Ah];simp
 |d::ds,acc,o,h=>by
  have hz:acc.length<sizeLine:=qB (show acc.length<101 by simp at h;lia) (AN (by decide))
  have ht:tNm 0 d.d [o] S=Gc [Gc d.d]:=by simp
  rw[qS]
  cases d with
  |B5 u i g kd n=>
   rw[Ia Ah hz ht (S1:=S) (by simp[AV.d])]
   have:eOp (o2 wIx) [eV 0,eC (.int 1)] [Gc (AV.B5 u i g kd n).d] S=Gc (.int u,S):=by simp[AV.d]
   rw[this,Ar,J5 (by simp at h ⊢; lia)]
   simp[DH,qY]
  |D4=>rw[IY Ah hz ht (S1:=S) (by simp[AV.d]),J5 (by simp at h ⊢; lia)];simp[DH,qY]
  |Oh=>rw[IY Ah hz ht (S1:=S) (by simp[AV.d]),J5 (by simp at h ⊢; lia)];simp[DH,qY]
  |swap=>rw[IY Ah hz ht (S1:=S) (by simp[AV.d]),J5 (by simp at h ⊢; lia)];simp[DH,qY]
  |Hf=>rw[IY Ah hz ht (S1:=S) (by simp[AV.d]),J5 (by simp at h ⊢; lia)];simp[DH,qY]
  |thr=>rw[IY Ah hz ht (S1:=S) (by simp[AV.d]),J5 (by simp at h ⊢; lia)];simp[DH,qY]
  |Ks=>rw[IY Ah hz ht (S1:=S) (by simp[AV.d]),J5 (by simp at h ⊢; lia)];simp[DH,qY]
theorem Ts{ds:List AV}{d:AV}(hd:ds.length<=50)(hn:st.nums=ds.filterMap DH)(hc:Can t st d):CF [CH st.AF,.tup (ds.map AV.d),d.d] S=Gc (.bl true,S):=by
 cases d with
 |D4 p kd n=>simp[CF,Dh,AV.d]
 |Oh i j=>
  obtain⟨hij,hi,hj,h1,h2,h3⟩:=hc
  have e:=Qe (S:=S) hi hj h1 h2 h3
  simp[CF,Dh,AV.d,e]
 |swap i g kd n=>
  obtain⟨hi,h1,h2,h3,h4,h5,h6⟩:=hc
  have e:=LO (S:=S) (k:=kd) hi h2 h4
  simp[CF,Dh,AV.d,e]
 |B5 u i g kd n=>
  obtain⟨hi,h1,h2,h3,h4,h5,h6,h7,h8⟩:=hc
  have e:=LO (S:=S) (k:=kd) hi h2 h4
  have tc:=J5 (S:=S) (ds:=ds) (acc:=[]) (o:=none) (by simp;lia)
  rw[<-hn]at tc
  have fi:=L9 (us:=st.nums)
  have ii:=OJ (us:=st.nums) (i:=u)
  have iu:(st.nums.any λx=>x==u)=false:=by
   rw[List.any_eq_false]
   intro x hx z
   have:x=u:=by simpa using z
   exact h7 (this▸hx)
  rw[iu]at ii
  generalize st.nums.map D.int=ud at*
  simp[CF,Dh,AV.d,tc,fi,ii,e]
 |Hf i n=>
  obtain⟨hi,h1,h2⟩:=hc
  have e:=PV (S:=S) hi h2
  simp[CF,Dh,AV.d,e]
 |thr i n ws=>
  obtain⟨hi,h1,h2,h3,h4⟩:=hc
  have e:=PV (S:=S) hi h2
  simp[CF,Dh,AV.d,e]
 |Ks p q x=>simp[CF,Dh,AV.d]
end
section
variable{S:Sto}{st:Stt}{t:Tr}{k:Nat}
theorem NS{ls:List Ld}{x y:D}(hl:ls.length<=50):CK [.tup [x,.tup (ls.map Ld.d),y]] S=Gc (CH ls,S):=by
 have e:=DU (gs:=[]) (t:=tNm 0) (f:=BL [eOp (o2 wIx) [eV 0,eC (.int 0)],eOp (o2 wIx) [eV 0,eC (.int 1)]]) (C:=[]) (m:=1) (e:=Ld.d) (g:=hD) (S:=S) Ah (xs:=ls) (acc:=[]) (os:=[none]) rfl (qD (show _<=50 by simp;lia) (AN (by decide))) (by
  intro x hx os ho
  obtain⟨q1,rfl⟩:=Og ho
  refine⟨[Gc x.d],rfl,by simp,?_⟩
  simp[Ld.d,hD])
 simp only[qU]at e
 simp[CK,Gi,e,CH]
end
section
variable{S:Sto}
theorem az{ns:List Int}{k:Nat}:∃c,C2 [.scr ns,.int k] S=Gc (.int c,S):=by
 by_cases h:k<ns.length
 .have h':(k:Int)<ns.length:=by lia
  refine⟨ns[k],?_⟩
  have e:atI (ns.map D.int) (k:Int)=Gc (.int ns[k]):=C9 (by rw[qf,pf h];rfl)
  simp[C2,HC,h,h',e]
 .have h':¬(k:Int)<ns.length:=by lia
  exact⟨0,by simp[C2,HC,h,h']⟩
end
structure Eg(t:Tr)(ls:List Ld)(ds:List AV):Prop where
 tr:Ji t
 few:ls.length<=4
 inv:∀i,i<=ds.length->∃k,k<=16/\Fo t k (runs t (st0 t ls) (ds.take i))
 good:HY t (st0 t ls) ds
 len:ds.length<=20
theorem KY.g{t:Tr}{ls:List Ld}{ds:List AV}(h:KY t ls ds):Eg t ls ds:=
 ⟨h.tr,h.inv.len,λi _=>⟨_,by have:=h.len;simp;lia,h.at i⟩,h.good,by have:=h.len;lia⟩
section
variable{S:Sto}{t:Tr}{ls:List Ld}{ds:List AV}{n:Nat}
theorem Po(h:Eg t ls ds):Dz [Av t ls ds] S=Gc (.non,S):=by
 have hl0:=h.few
 have hd:=h.len
 obtain⟨E',S',ef,i,o1,o2,f1,f2,rfl,rfl⟩:=HV (gs:=[]) (t:=tTp [tNm 3,tNm 4]) (b:=AU (xIf (ZQ (AJ CF [eV 1,eOp (Gm false true) [eV 2,eV 3],eV 4])) (BR (eV 3)) CZ)
  (A4 1 (AJ Au [eV 1,eV 4])))
  (I:=λrs E S'=>∃(i:Nat) (o1 o2:pY D),rs=(QX 0 (ds.map AV.d)).drop i/\i<=ds.length/\E=[Gc (Av t ls ds),Gc (CH (runs t (st0 t ls) (ds.take i)).AF),Gc (.tup (ds.map AV.d)),o1,o2]/\S'=S)
  (λ_ _ _ _=>Ah) (ds:=QX 0 (ds.map AV.d)) (E:=[Gc (Av t ls ds),Gc (CH ls),Gc (.tup (ds.map AV.d)),none,none]) (S:=S)
  ⟨0,none,none,by simp,rS _,by simp[runs,st0],rfl⟩ (by
    rintro dd rs E T ⟨i,o1,o2,i1,i2,rfl,rfl⟩
    have el:(QX 0 (ds.map AV.d)).length=ds.length:=by rw[L7];simp
    have hlt:i<ds.length:=by
     rcases yl i ds.length with w|w
     .exact w
     .rw[uC (by lia)]at i1;cases i1
    rw[sE (by lia)]at i1
    injection i1 with z1 z2
    have hd1:dd=.tup [.int i,ds[i].d]:=by
     have:=K0 (ds:=ds.map AV.d) (k:=0) (i:=i)
     rw[pf (by lia),<-z1,qf,pf hlt]at this
     simpa using this
    subst z2
    subst hd1
    obtain⟨k,hk,inv⟩:=h.inv i (by lia)
    have il:(ds.take i).length<=20:=by simp;lia
    have can:=JS h.good (pf hlt)
    have cd:=Ts (S:=T) (ds:=ds.take i) (by lia) O7 can
    have e3:=O9 (S:=T) inv (by lia) can
    have rt:=LM (t:=t) (st:=st0 t ls) (pf hlt)
    have ct:=Jf (ds:=ds.map AV.d) (n:=i) (by simp;lia)
    rw[zw]at cd
    refine⟨_,[Gc (Av t ls ds),Gc (CH (runs t (st0 t ls) (ds.take (i+1))).AF),Gc (.tup (ds.map AV.d)),Gc (.int i),Gc ds[i].d],T,by simp;rfl,?_,i+1,Gc (.int i),Gc ds[i].d,rfl,hlt,rfl,rfl⟩
    rw[rt]
    simp[ct,cd,e3])
 have fh:=NS (S:=S') (ls:=ls) (x:=t.d) (y:=.tup (ds.map AV.d)) (by lia)
 simp only[Av]at ef⊢
 simp[Dz,Hq,fh,ef]
theorem Tv(h:Eg t ls ds):CU [Av t ls ds] S=Gc (.non,S):=by
 have e:=Po (S:=S) h
 simp[CU,GN,e,isN]
theorem XS(h:Eg t ls ds)(hn:n<=ds.length):Fi [Av t ls ds,.int n] S=Gc (CH (runs t (st0 t ls) (ds.take n)).AF,S):=by
 have hl0:=h.few
 have hd:=h.len
 have ct:=Jf (ds:=ds.map AV.d) (n:=n) (by simp;lia)
 obtain⟨E',S',ef,i,o,f1,f2,rfl,rfl⟩:=HV (gs:=[]) (t:=tNm 3) (b:=A4 2 (AJ Au [eV 2,eV 3]))
  (I:=λrs E S'=>∃(i:Nat) (o:pY D),rs=((ds.take n).drop i).map AV.d/\i<=n/\E=[Gc (Av t ls ds),Gc (.int n),Gc (CH (runs t (st0 t ls) (ds.take i)).AF),o]/\S'=S)
  (λ_ _ _ _=>Ah) (ds:=(ds.take n).map AV.d) (E:=[Gc (Av t ls ds),Gc (.int n),Gc (CH ls),none]) (S:=S)
  ⟨0,none,by simp,rS _,by simp[runs,st0],rfl⟩ (by
    rintro dd rs E T ⟨i,o,i1,i2,rfl,rfl⟩
    have hlt:i<(ds.take n).length:=by
     rcases yl i (ds.take n).length with w|w
     .exact w
     .rw[uC w]at i1;cases i1
    rw[sE hlt,qS]at i1
    injection i1 with z1 z2
    subst z1 z2
    have hlt':i<ds.length:=by simp at hlt;lia
    have hin:i<n:=by simp at hlt;lia
    have hg:(ds.take n)[i]=ds[i]:=List.getElem_take
    rw[hg]
    have can:=JS h.good (pf hlt')
    obtain⟨k,hk,inv⟩:=h.inv i (by lia)
    have e3:=O9 (S:=T) inv (by lia) can
    have rt:=LM (t:=t) (st:=st0 t ls) (pf hlt')
    refine⟨_,[Gc (Av t ls ds),Gc (.int n),Gc (CH (runs t (st0 t ls) (ds.take (i+1))).AF),Gc ds[i].d],T,by simp;rfl,?_,i+1,Gc ds[i].d,rfl,hin,rfl,rfl⟩
    rw[rt]
    simp[e3])
 have hz:i=n:=by
  have:=congrArg xp f1
  simp at this
  lia
 subst hz
 have fh:=NS (S:=S') (ls:=ls) (x:=t.d) (y:=.tup (ds.map AV.d)) (by lia)
 simp only[Av]at ef⊢
 rw[zw]at ef
 simp[Fi,L5,fh,ct,ef]
theorem aR(h:Eg t ls ds):∃q S',EV [Av t ls ds] S=Gc (.ref q,S')/\S'[q]?=Gc (.lst ((qR (ds.length+1)).map λj=>stD (runs t (st0 t ls) (ds.take j))))/\Ca [] S S':=by
 have hl1:=h.few
 obtain⟨s,l,m,as,S1,e1,hS,sm,hn⟩:=OF (S:=S) (t:=t) (ls:=ls) (x:=.tup (ds.map AV.d)) (by lia)
 have hS:SAt S1 s l m as (st0 t ls):=hS
 have lt:=hS.lts
 have hS1:SAt (S1++[Cl.lst [stD (st0 t ls)]]) s l m as (st0 t ls):=hS.SV .app
 have hq:(S1++[Cl.lst [stD (st0 t ls)]])[S1.length]?=Gc (.lst [stD (st0 t ls)]):=qQ
 have qn:S1.length∉s::l::m::as:=λz=>by have:=lt _ z;lia
 have sn0:=λ{E:En} (hE:at? E 1=Gc (.ref s))=>RO (E:=E) hS (show ls.length<=50 by lia) hE
 have lSq:=sm.len
 generalize hQ:S1.length=q at*
 obtain⟨E',S',ef,i,as',o,f1,f2,rfl,f3,f4,f5,f6,f7⟩:=HV (gs:=[]) (t:=tNm 3) (b:=AU (Cb (AJ A5 [eOp (o2 wIx) [eV 0,eC (.int 0)],eV 1,eV 3]))
  (Cb (Jv Ka (eV 2) [TR])))
  (I:=λrs E S'=>∃(i:Nat) (as':List Nat) (o:pY D),rs=(ds.drop i).map AV.d/\i<=ds.length/\E=[Gc (Av t ls ds),Gc (.ref s),Gc (.ref q),o]/\S'[q]?=Gc (.lst ((qR (i+1)).map λj=>stD (runs t (st0 t ls) (ds.take j))))/\SAt S' s l m as' (runs t (st0 t ls) (ds.take i))/\q∉s::l::m::as'/\(∀n∈s::l::m::as',S.length<=n)/\Ca [] S S')
  (λ_ _ _ _=>Ah) (ds:=ds.map AV.d) (E:=[Gc (Av t ls ds),Gc (.ref s),Gc (.ref q),none]) (S:=S1++[Cl.lst [stD (st0 t ls)]])
  ⟨0,as,none,by simp,rS _,rfl,by rw[hq];rfl,hS1,qn,hn,sm.trans .app⟩ (by
    rintro dd rs E T ⟨i,as',o,i1,i2,rfl,i3,i4,i5,i6,i7⟩
    have hlt:i<ds.length:=by
     rcases yl i ds.length with w|w
     .exact w
     .rw[uC w]at i1;cases i1
    rw[sE hlt,qS]at i1
    injection i1 with z1 z2
    subst z1 z2
    obtain⟨kk0,il,inv⟩:=h.inv i (by lia)
    have can:=JS h.good (pf hlt)
    obtain⟨T2,as2,k1,k2,k3,k4⟩:=ao i4 h.tr inv il can
    have q2:=k3.get i3 i5
    rw[<-LM (pf hlt)]at k2
    obtain⟨kk2,il2,inv2'⟩:=h.inv (i+1) hlt
    have inv2:=inv2'.len
    have sn:=RO (E:=[Gc (Av t ls ds),Gc (.ref s),Gc (.ref q),Gc ds[i].d]) k2 (by lia) rfl
    have kk:=AR q2
    have q5:q∉s::l::m::as2:=by
     intro z
     simp only[qA]at z i5
     rcases z with z|z|z|z
     .exact i5 (.inl z)
     .exact i5 (.inr (.inl z))
     .exact i5 (.inr (.inr (.inl z)))
     .rcases k4 _ z with w|w
      .exact i5 (.inr (.inr (.inr w)))
      .have:=Af i3;lia
    have q6:∀n∈s::l::m::as2,S.length<=n:=by
     intro n hz
     simp only[qA]at hz i6
     rcases hz with z|z|z|z
     .exact i6 n (.inl z)
     .exact i6 n (.inr (.inl z))
     .exact i6 n (.inr (.inr (.inl z)))
     .rcases k4 _ z with w|w
      .exact i6 n (.inr (.inr (.inr w)))
      .exact qD i7.len w
    have q7:Ca [] S T2:=Ca.new (A:=[]) i7 k3 i6
    refine⟨_,[Gc (Av t ls ds),Gc (.ref s),Gc (.ref q),Gc ds[i].d],T2.set q (.lst ((qR (i+1+1)).map λj=>stD (runs t (st0 t ls) (ds.take j)))),by simp;rfl,?_,i+1,as2,Gc ds[i].d,rfl,hlt,rfl,qL (Af q2),k2.same (A:=[q]) (.set (by simp)) (by simpa using q5),q5,q6,Ca.new (A:=[]) (B:=[q]) q7 (.set (by simp)) (by intro n hn';simp at hn';lia)⟩
    have hz:((qR (i+1)).map λj=>stD (runs t (st0 t ls) (ds.take j))).length<sizeLine:=qB (show _<50 by have:=h.len;simp;lia) (AN (by decide))
    have hfin:((qR (i+1+1)).map λj=>stD (runs t (st0 t ls) (ds.take j)))=((qR (i+1)).map λj=>stD (runs t (st0 t ls) (ds.take j)))++[stD (runs t (st0 t ls) (ds.take (i+1)))]:=by
     rw[List.range_succ,sf];rfl
    rw[hfin]
    generalize ((qR (i+1)).map λj=>stD (runs t (st0 t ls) (ds.take j)))=DD at*
    generalize stD (runs t (st0 t ls) (ds.take (i+1)))=d2 at*
    simp only[Av]at sn⊢
    simp[k1,kk,sn,hz])
 have hz:i=ds.length:=by
  have:=congrArg xp f1
  simp at this
  lia
 subst hz
 refine⟨q,S',?_,f3,f7⟩
 have eb:J1=(AU (A4 1 (AJ Cv [eV 0]))
  (AU (A4 2 (HQ [TR]))
  (AU (IF (Fp (eOp (o2 wIx) [eV 0,eC (.int 2)])) (tNm 3) (AU (Cb (AJ A5 [eOp (o2 wIx) [eV 0,eC (.int 0)],eV 1,eV 3]))
  (Cb (Jv Ka (eV 2) [TR]))))
  (BR (eV 2))))):=rfl
 have s1:=sn0 (E:=[Gc (Av t ls ds),Gc (.ref s),none,none]) rfl
 unfold EV
 rw[eb]
 simp only[Av]at s1 ef⊢
 simp[e1,s1,hQ,ef]
end
section
variable{E:En}{S:Sto}{f g k o:Ev}{d:D}{es:List (Key×D)}
@[simp] theorem kU:evP [] E S=some ([],S):=nr rfl
@[simp] theorem gy{r:List (Ev×Ev)}:evP ((k,f)::r) E S=(k E S).bind λa=>(SW a.1).bind λkk=>(f E a.2).bind λb=>(evP r E b.2).map λq=>((kk,b.1)::q.1,q.2):=nr rfl
@[simp] theorem iX{x:Str}:SW (.str x)=some (.inr x):=nr rfl
@[simp] theorem We{x:Int}:SW (.int x)=some (.inl x):=nr rfl
@[simp] theorem dF{cf:Bool}{fs:List (Ev×Ev)}:PX cf fs E S=(evP fs E S).map λr=>Rv cf (L6 [] r.1) r.2:=nr rfl
@[simp] theorem lZ:Rv true es S=(.ref S.length,S++[.dct es]):=nr rfl
@[simp] theorem mY:Rv false es S=(.dct es,S):=nr rfl
theorem OR{n:Nat}(h:S[n]?=Gc (.dct es)):ML S (.ref n)=Gc es:=by
 unfold ML
 dsimp only
 rw[h]
noncomputable def bZ(d b:D)(E:En)(i:D×Sto):pY (Fl×En×Sto):=(SW i.1).bind λkk=>match b with
 | .ref n=>match i.2[n]? with
   |some (.dct es)=>if es.length<1000 then Gc (.nx,E,i.2.set n (.dct (putD es kk d)))else none
   |_=>none
 |_=>none
@[simp] theorem fM:XB k f o E S=(k E S).bind λr=>(f E r.2).bind λb=>(o E b.2).bind (bZ r.1 b.1 E):=nr rfl
theorem Wj{n:Nat}{i:D}{kk:Key}(h:S[n]?=Gc (.dct es))(hk:SW i=Gc kk)(hl:es.length<1000):bZ d (.ref n) E (i,S)=Gc (.nx,E,S.set n (.dct (putD es kk d))):=by
 unfold bZ
 rw[hk,Ar]
 dsimp only
 rw[h]
 dsimp only
 rw[qc hl]
end
structure Trd where
 u:Nat
 k:Nat
 g:Int
 o:Nat
 n:Int
noncomputable def Trd.d(r:Trd):D:=.tup [.int r.u,.int r.k,.int r.g,.int r.o,.int r.n]
noncomputable def trd(L:List Ld):AV->pY Trd
 | .B5 u l g k n=>Gc ⟨u.toNat,(AQ L l).k,g,k,n⟩
 |_=>none
noncomputable def tds(L:List Ld)(ds:List AV):List Trd:=ds.filterMap (trd L)
noncomputable def tdB(t:Tr)(ls:List Ld)(ds:List AV):List Trd:=tds (runs t (st0 t ls) ds).AF ds
structure TrO(rs:List Trd):Prop where
 nd:(rs.map (·.u)).Nodup
 le:∀r∈rs,r.u<=9
 few:rs.length<=20
section
variable{S:Sto}{t:Tr}{ls L:List Ld}{ds:List AV}
theorem EY:∀{ds:List AV} {st:Stt},HY t st ds->st.nums.Nodup->(st.nums++ds.filterMap DH).Nodup/\∀u∈ds.filterMap DH,0<=u/\u<=9
 | [],st,_,h=>⟨by simpa using h,λu z=>by simp at z⟩
 |d::ds,st,hg,h=>by
  obtain⟨hc,hg⟩:=hg
  cases d with
  |B5 u l g k n=>
   have hu:=hc.2.2.2.2.2.2.2
   have nd:(st.nums++[u]).Nodup:=sN.mpr ⟨h,by simp,λa ha b hb e=>by
    simp at hb
    subst hb
    exact hu.1 (e▸ha)⟩
   obtain⟨a,b⟩:=EY (st:=step t st (.B5 u l g k n)) hg nd
   refine⟨?_,λv hv=>?_⟩
   .have e:(step t st (.B5 u l g k n)).nums=st.nums++[u]:=rfl
    rw[e,rz]at a
    exact a
   .rw[qY]at hv
    rcases qA.mp hv with rfl|hv
    .exact hu.2
    .exact b v hv
  |D4 p k n=>exact EY (ds:=ds) (st:=step t st (.D4 p k n)) hg h
  |Oh a b=>exact EY (ds:=ds) (st:=step t st (.Oh a b)) hg h
  |swap l g k n=>exact EY (ds:=ds) (st:=step t st (.swap l g k n)) hg h
  |Hf l n=>exact EY (ds:=ds) (st:=step t st (.Hf l n)) hg h
  |thr l n ws=>exact EY (ds:=ds) (st:=step t st (.thr l n ws)) hg h
  |Ks p q x=>exact EY (ds:=ds) (st:=step t st (.Ks p q x)) hg h
theorem dQ:∀{ds:List AV},(tds L ds).map (·.u)=(ds.filterMap DH).map Int.toNat
 | []=>rfl
 |d::ds=>by
  have ih:= @dQ ds
  unfold tds at ih⊢
  cases d<;>simp[trd,DH,qY,ih]
theorem Eg.tok(h:Eg t ls ds):TrO (tdB t ls ds):=by
 obtain⟨nd,b⟩:=EY h.good (show(st0 t ls).nums.Nodup from .nil)
 have nd:(ds.filterMap DH).Nodup:=by simpa[st0]using nd
 have e:=dQ (L:=(runs t (st0 t ls) ds).AF) (ds:=ds)
 refine⟨?_,λr hr=>?_,?_⟩
 .unfold tdB
  rw[e,tN,tL]
  refine yJ ?_ (tN.mp nd)
  intro x y hx hy ne z
  have:=b x hx
  have:=b y hy
  exact ne (by lia)
 .have:r.u∈(ds.filterMap DH).map Int.toNat:=by rw[<-e];exact xF hr
  obtain⟨v,hv,ev⟩:=qi.mp this
  have:=b v hv
  lia
 .have:=sZ (trd (runs t (st0 t ls) ds).AF) ds
  have:=h.len
  unfold tdB tds;lia
theorem Pf{d:AV}{st:Stt}:st.AF.length<=(step t st d).AF.length:=by cases d<;>simp[step,B8]
theorem OY:∀{ds:List AV} {st:Stt},st.AF.length<=(runs t st ds).AF.length
 | [],st=>p9 _
 |d::ds,st=>qD Pf (OY (ds:=ds) (st:=step t st d))
theorem Qp:∀{ds:List AV} {st:Stt},HY t st ds->∀{u g n:Int} {l k:Nat},AV.B5 u l g k n∈ds->l<(runs t st ds).AF.length/\0<=u
 | [],st,_,u,g,n,l,k,h=>by cases h
 |d::ds,st,hg,u,g,n,l,k,h=>by
  rcases qA.mp h with rfl|h
  .exact⟨qB hg.1.1 (qD Pf (OY (ds:=ds) (st:=step t st _))),hg.1.2.2.2.2.2.2.2.2.1⟩
  .exact Qp hg.2 h
noncomputable def CS(rs:List Trd):List (Key×D):=rs.map λr=>(.inl (r.u:Int),r.d)
theorem WH{es:List (Key×D)}{k:Key}{v:D}(h:∀kv∈es,kv.1≠k):putD es k v=es++[(k,v)]:=by
 unfold putD
 rw[qj]
 intro z
 obtain⟨kv,hm,e⟩:=uI.mp z
 exact h kv hm (by simpa using e)
theorem Ua{rs:List Trd}{r:Trd}(h:((rs++[r]).map (·.u)).Nodup):putD (CS rs) (.inl (r.u:Int)) r.d=CS (rs++[r]):=by
 rw[WH]
 .simp[CS]
 .intro kv hm e
  obtain⟨x,hx,rfl⟩:=qi.mp hm
  have e:(vb (x.u:Int):Key)=.inl (r.u:Int):=e
  injection e with e
  rw[sf,sN]at h
  exact h.2.2 x.u (xF hx) r.u (by simp) (by lia)
theorem QV{a b:List AV}:tds L (a++b)=tds L a++tds L b:=by unfold tds;rw[List.filterMap_append]
theorem k0{l:Nat}(h:l<L.length):atI (L.map Ld.d) (l:Int)=Gc (.tup [.int (AQ L l).k,.int (AQ L l).n,shD (AQ L l).ow]):=C9 (by
 rw[qf,Ft h];rfl)
theorem jj{l:Nat}(h:l<L.length):atI (L.map hD) (l:Int)=Gc (.tup [.int (AQ L l).k,.int (AQ L l).n]):=C9 (by
 rw[qf,Ft h];rfl)
def ltB:Ex:=(xIf (eOp (o2 wEq) [eIx (eV 3) (eI 0),eC (.str "trade")]) (XB (BL [eIx (eV 3) (eI 1),eIx (eIx (eV 1) (eIx (eV 3) (eI 2))) (eI 0),eIx (eV 3) (eI 3),eIx (eV 3) (eI 4),eIx (eV 3) (eI 5)]) (eV 2) (eIx (eV 3) (eI 1))) CZ)
theorem c9{q:Nat}{rs:List Trd}{d:AV}{e0:pY D}(hq:S[q]?=Gc (.dct (CS rs)))(hd:∀{u g n:Int} {l k:Nat},d=.B5 u l g k n->l<L.length/\0<=u)(nd:((rs++tds L [d]).map (·.u)).Nodup)(hl:rs.length<=100):ltB [e0,Gc (.lst (L.map Ld.d)),Gc (.ref q),Gc d.d] S=Gc (.nx,[e0,Gc (.lst (L.map Ld.d)),Gc (.ref q),Gc d.d],S.set q (.dct (CS (rs++tds L [d])))):=by
 have sm:=set_same hq
 cases d with
 |B5 u l g k n=>
  obtain⟨h1,h2⟩:=hd rfl
  obtain⟨u,rfl⟩:=Eu h2
  have a:=k0 h1
  have sz:(5:Nat)<=sizeLine:=AN (by decide)
  have et:tds L [.B5 u l g k n]=[⟨u,(AQ L l).k,g,k,n⟩]:=rfl
  rw[et]at nd⊢
  have sk:=λE=>Wj (d:=Trd.d ⟨u,(AQ L l).k,g,k,n⟩) (E:=E) (i:=.int u) (kk:=.inl (u:Int)) hq rfl (by simp[CS];lia)
  rw[Ua (r:=⟨u,(AQ L l).k,g,k,n⟩) nd]at sk
  generalize CS (rs++[⟨u,(AQ L l).k,g,k,n⟩])=R at*
  unfold Trd.d at sk
  dsimp only at sk
  generalize L.map Ld.d=LD at*
  simp[ltB,AV.d,a,sz,sk]
 |_=>simp[ltB,AV.d,tds,trd,qY,sm]
theorem Tz{q:Nat}{e0:pY D}:∀{ds:List AV} {rs:List Trd} {S:Sto} {e3:pY D},S[q]?=Gc (.dct (CS rs))->(∀{u g n:Int} {l k:Nat},AV.B5 u l g k n∈ds->l<L.length/\0<=u)->((rs++tds L ds).map (·.u)).Nodup->rs.length+ds.length<=100->∃e3' S',IV [] (tNm 3) ltB (ds.map AV.d) [e0,Gc (.lst (L.map Ld.d)),Gc (.ref q),e3] S=Gc (.nx,[e0,Gc (.lst (L.map Ld.d)),Gc (.ref q),e3'],S')/\S'[q]?=Gc (.dct (CS (rs++tds L ds)))/\Ca [q] S S'
 | [],rs,S,e3,hq,_,_,_=>⟨e3,S,by rw[sG,EI Ah],by simpa[tds]using hq,.refl⟩
 |d::ds,rs,S,e3,hq,hd,nd,hl=>by
  have e:tds L (d::ds)=tds L [d]++tds L ds:=QV (a:=[d]) (b:=ds)
  rw[e,<-rz]at nd
  have nd1:((rs++tds L [d]).map (·.u)).Nodup:=by
   rw[sf,sN]at nd
   exact nd.1
  simp only[qg]at hl
  have e1:=c9 (e0:=e0) (L:=L) (d:=d) hq (λ{u g n l k} z=>hd (by rw[z];exact qH)) nd1 (by lia)
  have l1:(tds L [d]).length<=1:=by
   have:=sZ (trd L) [d]
   unfold tds;simpa using this
  obtain⟨e3',S',e2,q2,s2⟩:=Tz (ds:=ds) (rs:=rs++tds L [d]) (S:=S.set q (.dct (CS (rs++tds L [d])))) (e3:=Gc d.d) (e0:=e0) (qL (Af hq)) (λz=>hd (qC _ z)) nd (by simp;lia)
  refine⟨e3',S',?_,by rw[e,<-rz];exact q2,Ca.trans (.set (by simp)) s2⟩
  have tn:tNm 3 d.d [e0,Gc (.lst (L.map Ld.d)),Gc (.ref q),e3] S=Gc [e0,Gc (.lst (L.map Ld.d)),Gc (.ref q),Gc d.d]:=rfl
  rw[qS,Bq Ah,tn,Ar,e1,Ar,La,e2]
theorem gK{α:Type}{xs:List α}{x:α}:atI (xs++[x]) (-1)=Gc x:=by
 unfold atI
 have h1:(1:Int)<=(xs.length:Int)+1:=by lia
 have h2:(-1+((xs.length:Int)+1)).toNat=xs.length:=by lia
 simp[ixN,h1,h2]
theorem Gq(h:Eg t ls ds):∃q S',Bl [Av t ls ds] S=Gc (.ref q,S')/\S'[q]?=Gc (.dct (CS (tdB t ls ds)))/\Ca [] S S'/\S.length<=q:=by
 obtain⟨q0,S1,e1,q1,s1⟩:=aR (S:=S) h
 have tk:=h.tok
 have hd:=h.len
 have d1:=Aq q1
 have at1:atI ((qR (ds.length+1)).map λj=>stD (runs t (st0 t ls) (ds.take j))) (-1)=Gc (stD (runs t (st0 t ls) ds)):=by
  rw[List.range_succ,sf,qS,sG,gK,wg]
 obtain⟨e3',S2,e2,q2,s2⟩:=Tz (L:=(runs t (st0 t ls) ds).AF) (q:=S1.length) (e0:=Gc (Av t ls ds)) (ds:=ds) (rs:=[]) (S:=S1++[.dct []]) (e3:=none) qQ (λz=>Qp h.good z) (by rw[qU];exact tk.nd) (by simp;lia)
 rw[qU]at q2
 refine⟨S1.length,S2,?_,q2,Ca.new (A:=[]) (B:=[S1.length]) (s1.trans .app) s2 (by have:=s1.len;simpa using this),s1.len⟩
 have eb:KG=(AU (A4 1 (eIx (eIx (AJ EV [eV 0]) (eOp (o1 Oe) [eI 1])) (eI 0)))
  (AU (A4 2 (Zs []))
  (AU (IF (Fp (eIx (eV 0) (eI 2))) (tNm 3) ltB)
  (BR (eV 2))))):=rfl
 have mn:L6 [] []=[]:=rfl
 unfold Bl
 rw[eb]
 generalize ((qR (ds.length+1)).map λj=>stD (runs t (st0 t ls) (ds.take j)))=ST at*
 unfold stD at at1
 generalize (runs t (st0 t ls) ds).AF.map Ld.d=LD at*
 simp only[Av]at e1 e2⊢
 simp[e1,d1,at1,mn,e2]
end
theorem QJ{α:Type}{gs:Gd}{t:Tf}{b:Ex}{C:En}{m q:Nat}{S0:Sto}{e:α->D}{h:α->List D}(hg:∀T,Ca [q] S0 T->gOk gs T):∀{xs:List α} {acc:List D} {os:En} {S:Sto},os.length=m->S[q]?=Gc (.lst acc)->Ca [q] S0 S->acc.length+xs.length<=1000->(∀x∈xs,(h x).length<=1)->(∀x∈xs,∀os S acc,os.length=m->S[q]?=Gc (.lst acc)->acc.length<sizeLine->Ca [q] S0 S->∃us us' S',t (e x) (C++os) S=Gc (C++us)/\b (C++us) S=Gc (.nx,C++us',S'.set q (.lst (acc++h x)))/\us'.length=m/\Ca [] S S')->∃os' S',os'.length=m/\IV gs t b (xs.map e) (C++os) S=Gc (.nx,C++os',S')/\S'[q]?=Gc (.lst (acc++xs.flatMap h))/\Ca [q] S S'
 | [],acc,os,S,ho,hq,hs,hz,h1,H=>⟨os,S,ho,by rw[sG,EI (hg S hs)],by simpa using hq,.refl⟩
 |x::xs,acc,os,S,ho,hq,hs,hz,h1,H=>by
  obtain⟨us,us',S1,e1,e2,hu,sm⟩:=H x qH os S acc ho hq (qB (show acc.length<1001 by simp at hz;lia) (by decide)) hs
  have q1:=sm.get hq (by simp)
  have s1:Ca [q] S (S1.set q (.lst (acc++h x))):=(sm.mono λ_ z=>(nomatch z)).trans (.set (by simp))
  have hx:=h1 x qH
  obtain⟨os',S2,ho',e3,q2,s2⟩:=QJ hg (t:=t) (b:=b) (C:=C) (e:=e) (h:=h) (xs:=xs) (acc:=acc++h x) (os:=us') (S:=S1.set q (.lst (acc++h x))) hu (qL (Af q1)) (hs.trans s1) (by simp at hz ⊢; lia) (λx' hx=>h1 x' (qC _ hx)) λx' hx=>H x' (qC _ hx)
  refine⟨os',S2,ho',?_,by simpa using q2,s1.trans s2⟩
  rw[qS,Bq (hg S hs),e1,Ar,e2,Ar,La,e3]
noncomputable def srt(rs:List Trd):List Trd:=rs.mergeSort λa b=>decide (a.u<=b.u)
theorem F4(rs:List Trd):(srt rs).Perm rs:=xE _ _
theorem VJ{rs:List Trd}(h:TrO rs):(srt rs).Pairwise λa b=>a.u<b.u:=by
 have h1:=v3 (le:=λ(a b:Trd)=>decide (a.u<=b.u)) (λa b c h1 h2=>by simp at *; lia) (λa b=>by simp;lia) rs
 have h2:((srt rs).map (·.u)).Nodup:=((F4 rs).map _).nodup_iff.mpr h.nd
 rw[tN,tL]at h2
 exact(y7.mpr ⟨h1,h2⟩).imp λ⟨a,b⟩=>by
  have a:=qM a
  lia
theorem OD:∀{rs:List Trd},MW (rs.map Trd.d)=Gc (rs.map λr=>(r.u:Int))
 | []=>rfl
 |r::rs=>by
  show(cJ r.d).bind (λk=>(MW (rs.map Trd.d)).map (k:: ·))=_
  rw[OD];rfl
theorem VL{rs:List Trd}(h:TrO rs):(rs.map λr=>(r.u:Int)).Nodup:=by
 have:=h.nd
 rw[tN,tL]at this⊢
 exact this.imp λh z=>h (by lia)
theorem RS{rs:List Trd}(h:TrO rs):P8 (rs.map λr=>(r.u:Int)) (rs.map Trd.d)=(srt rs).map Trd.d:=by
 have ez:(rs.map λr=>(r.u:Int)).zip (rs.map Trd.d)=rs.map λ(r:Trd)=>((r.u:Int),r.d):=by rw[List.zip_map']
 rw[ND (l:=(srt rs).map λ(r:Trd)=>((r.u:Int),r.d)) (VL h) (by rw[ez];exact(F4 rs).map _) (by rw[tL];exact(VJ h).imp λh=>by dsimp only;lia),sR]
 rfl
theorem MJ{rs:List Trd}(h:TrO rs):TrO (srt rs):=⟨((F4 rs).map _).nodup_iff.mpr h.nd,λr hr=>h.le r ((F4 rs).mem_iff.mp hr),by rw[(F4 rs).length_eq];exact h.few⟩
section
variable{S:Sto}{t:Tr}{ls L:List Ld}{ds:List AV}
theorem XH{rs:List Trd}(h:TrO rs):Qn (.own (rs.map Trd.d))=Gc (.own ((srt rs).map Trd.d)):=by
 show(MW (rs.map Trd.d)).bind _=_
 have:=h.few
 rw[OD,Ar,qc ⟨by simp;lia,VL h⟩,RS h]
@[simp] theorem QG{c:Bool}{f:Ev}{E:En}:eSV c f E S=(f E S).bind λa=>(ML a.2 a.1).bind λes=>(MW (es.map (·.2))).bind λks=>if ks.length<64/\ks.Nodup then fin c (.own (P8 ks (es.map (·.2)))) a.2 else none:=nr rfl
theorem Tw{rs:List Trd}:(CS rs).map (·.2)=rs.map Trd.d:=by unfold CS;rw[sR];rfl
@[simp] theorem kH{a b c d e f:D}:Gx [a,b,c,d,e,f] (some 1) none=[b,c,d,e,f]:=nr rfl
noncomputable def Vf(L:List Ld)(d:AV):List D:=(tds L [d]).map Trd.d
theorem U0:ds.flatMap (Vf L)=(tds L ds).map Trd.d:=by
 induction ds with
 |nil=>rfl
 |cons d ds ih=>
  rw[List.flatMap_cons,ih,show tds L (d::ds)=tds L [d]++tds L ds from QV (a:=[d]) (b:=ds),sf]
  rfl
def ptB:Ex:=(xIf (eOp (o2 wEq) [eIx (eV 3) (eI 0),eC (.str "trade")]) (AU (Nz (tTp [tNm 4,tNm 5,tNm 6,tNm 7,tNm 8]) (eOp (Gm true false) [eV 3,eI 1]))
    (Cb (Jv Ka (eV 2) [BL [eV 4,eIx (eIx (eV 1) (eV 5)) (eI 0),eV 6,eV 7,eV 8]]))) CZ)
theorem fU{q:Nat}{acc:List D}{d:AV}{e0 e4 e5 e6 e7 e8:pY D}(hq:S[q]?=Gc (.lst acc))(hz:acc.length<sizeLine)(hd:∀{u g n:Int} {l k:Nat},d=.B5 u l g k n->l<L.length/\0<=u):∃us:En,us.length=6/\ptB [e0,Gc (CH L),Gc (.ref q),Gc d.d,e4,e5,e6,e7,e8] S=Gc (.nx,[e0,Gc (CH L),Gc (.ref q)]++us,S.set q (.lst (acc++Vf L d))):=by
 have sm:=set_same hq
 have cq:=AR hq
 cases d with
 |B5 u l g k n=>
  obtain⟨h1,h2⟩:=hd rfl
  obtain⟨u,rfl⟩:=Eu h2
  have a:=jj h1
  have sz:(5:Nat)<=sizeLine:=AN (by decide)
  refine⟨[Gc (AV.B5 u l g k n).d,Gc (.int u),Gc (.int l),Gc (.int g),Gc (.int k),Gc (.int n)],rfl,?_⟩
  have et:Vf L (.B5 u l g k n)=[.tup [.int u,.int (AQ L l).k,.int g,.int k,.int n]]:=rfl
  rw[et]
  unfold CH
  generalize L.map hD=LD at*
  simp[ptB,AV.d,a,sz,cq,hz]
 |D4 p k n=>exact⟨[Gc (AV.D4 p k n).d,e4,e5,e6,e7,e8],rfl,by simp[ptB,AV.d,Vf,tds,trd,qY,sm]⟩
 |Oh p k=>exact⟨[Gc (AV.Oh p k).d,e4,e5,e6,e7,e8],rfl,by simp[ptB,AV.d,Vf,tds,trd,qY,sm]⟩
 |swap p k n m=>exact⟨[Gc (AV.swap p k n m).d,e4,e5,e6,e7,e8],rfl,by simp[ptB,AV.d,Vf,tds,trd,qY,sm]⟩
 |Hf p k=>exact⟨[Gc (AV.Hf p k).d,e4,e5,e6,e7,e8],rfl,by simp[ptB,AV.d,Vf,tds,trd,qY,sm]⟩
 |thr p k n=>exact⟨[Gc (AV.thr p k n).d,e4,e5,e6,e7,e8],rfl,by simp[ptB,AV.d,Vf,tds,trd,qY,sm]⟩
 |Ks p k n=>exact⟨[Gc (AV.Ks p k n).d,e4,e5,e6,e7,e8],rfl,by simp[ptB,AV.d,Vf,tds,trd,qY,sm]⟩
theorem Uj(h:Eg t ls ds):∃q S',Bv [Av t ls ds] S=Gc (.ref q,S')/\S'[q]?=Gc (.lst ((srt (tdB t ls ds)).map Trd.d))/\Ca [] S S'/\S.length<=q:=by
 have hd:=h.len
 have tk:=h.tok
 have hb:=XS (S:=S) h (n:=ds.length) (p9 _)
 rw[wg]at hb
 have lt:=λ{u g n:Int} {l k:Nat} (z:AV.B5 u l g k n∈ds)=>Qp h.good z
 obtain⟨os',S2,ho',e2,q2,s2⟩:=QJ (gs:=[]) (S0:=S++[Cl.lst []]) (t:=tNm 3) (b:=ptB) (C:=[Gc (Av t ls ds),Gc (CH (runs t (st0 t ls) ds).AF),Gc (.ref S.length)]) (m:=6) (q:=S.length) (e:=AV.d) (h:=Vf (runs t (st0 t ls) ds).AF) (λ_ _=>Ah) (xs:=ds) (acc:=[]) (os:=[none,none,none,none,none,none]) (S:=S++[Cl.lst []]) rfl qQ .refl (by simp;lia) (λd _=>by
  have:=sZ (trd (runs t (st0 t ls) ds).AF) [d]
  unfold Vf tds;simpa using this) (by
  intro d hm os T acc ho hq0 hz hT
  obtain⟨x1,x2,x3,x4,x5,x6,rfl⟩:=my ho
  obtain⟨us,hu,e⟩:=fU (L:=(runs t (st0 t ls) ds).AF) (d:=d) (e0:=Gc (Av t ls ds)) (e4:=x2) (e5:=x3) (e6:=x4) (e7:=x5) (e8:=x6) hq0 hz (λ{u g n l k} z=>lt (by rw[<-z];exact hm))
  exact⟨[Gc d.d,x2,x3,x4,x5,x6],us,T,rfl,e,hu,.refl⟩)
 rw[qU,U0]at q2
 have d2:=Aq q2
 have w:=XH tk
 have l2:=s2.len
 refine⟨S2.length,S2++[.lst ((srt (tdB t ls ds)).map Trd.d)],?_,qQ,(Ca.new (A:=[]) (B:=[S.length]) .app s2 (by simp)).trans .app,by simp at l2;lia⟩
 have eb:Hb=(AU (A4 1 (AJ Fi [eV 0,eOp (o1 HP) [eIx (eV 0) (eI 2)]]))
  (AU (A4 2 (HQ []))
  (AU (IF (Fp (eIx (eV 0) (eI 2))) (tNm 3) ptB)
  (BR (cn (o1 Qn) [eV 2]))))):=rfl
 unfold Bv
 rw[eb]
 change dr S2 (.ref S.length)=.own ((tdB t ls ds).map Trd.d)at d2
 obtain⟨x1,x2,x3,x4,x5,x6,rfl⟩:=my ho'
 simp only[rF,qU]at e2
 generalize (tdB t ls ds).map Trd.d=TD at*
 generalize (srt (tdB t ls ds)).map Trd.d=TS at*
 simp only[Av]at hb e2⊢
 generalize CH (runs t (st0 t ls) ds).AF=HL at*
 simp[hb,e2,d2,w]
end
end Mi
end
noncomputable section
namespace Mi
open PySem PySem.Spec L2 PyProof.Rows
theorem Pl:∀{l σ:List Int},σ.Nodup->(l.foldl tq σ).Nodup
 | [],σ,h=>h
 |x::l,σ,h=>by
  rw[yn]
  refine Pl ?_
  unfold tq
  split
  .exact h
  .rename_i z
   refine sN.mpr ⟨h,by simp,λa ha b hb e=>z ?_⟩
   simp at hb
   subst hb
   subst e
   exact uI.mpr ⟨a,ha,by simp⟩
theorem U1{x:Int}:∀{l σ:List Int},x∈l.foldl tq σ↔x∈σ\/x∈l
 | [],σ=>by simp
 |y::l,σ=>by
  rw[yn,U1,qA]
  have:x∈tq σ y↔x∈σ\/x=y:=by
   unfold tq
   split
   .rename_i z
    obtain⟨w,hw,e⟩:=uI.mp z
    have e:w=y:=by simpa using e
    subst e
    exact⟨.inl,λh=>h.elim id λe=>e▸hw⟩
   .rw[qW,qV]
  rw[this,or_assoc]
theorem UW{ns:List Int}:WD ns ns.length=ns.foldl tq []:=by
 show((qR ns.length).map _).foldl tq []=_
 congr 1
 apply vB
 .simp
 .intro i h1 h2
  simp at h1
  simp[qJ,h1]
theorem QM{M:Nat}:∀{l:List Nat} {a:Nat},l.Pairwise (· < ·)->(∀x∈l,a<=x/\x<M)->l.length<=M-a
 | [],a,_,_=>rS _
 |x::l,a,p,h=>by
  rw[AAG]at p
  have hx:=h x qH
  have:=QM (a:=x+1) p.2 λy hy=>⟨p.1 y hy,(h y (qC _ hy)).2⟩
  simp;lia
theorem bU(k1 k2:List Nat):∃ks:List Nat,MB (WD ((k1++k2).map λ(n:Nat)=>(n:Int)) ((k1++k2).map λ(n:Nat)=>(n:Int)).length)=ks.map (λ(n:Nat)=>(n:Int))/\ks.Pairwise (· < ·)/\∀r,r∈ks↔r∈k1\/r∈k2:=by
 rw[UW]
 generalize hL:((k1++k2).map λ(n:Nat)=>(n:Int)).foldl tq []=L
 have nd:L.Nodup:=by rw[<-hL];exact Pl .nil
 have mem:∀x,x∈L↔ ∃r,(r∈k1\/r∈k2)/\(r:Int)=x:=λx=>by
  rw[<-hL,U1,qi]
  simp only[qT,false_or,qW]
 have pm:=ID L
 have so:=NU L
 refine⟨(MB L).map Int.toNat,?_,?_,λr=>?_⟩
 .rw[sR]
  conv=>lhs;rw[<-yA (MB L)]
  refine List.map_congr_left λx hx=>?_
  obtain⟨r,_,rfl⟩:=(mem x).mp (pm.mem_iff.mp hx)
  simp
 .have nd2:(MB L).Nodup:=pm.nodup_iff.mpr nd
  rw[tL]
  refine yJ ?_ (y7.mpr ⟨so,nd2⟩)
  rintro x y hx hy ⟨h1,h2⟩
  obtain⟨r,_,rfl⟩:=(mem x).mp (pm.mem_iff.mp hx)
  obtain⟨q,_,rfl⟩:=(mem y).mp (pm.mem_iff.mp hy)
  simp
  lia
 .rw[qi]
  constructor
  .rintro ⟨x,hx,rfl⟩
   obtain⟨r,hr,rfl⟩:=(mem x).mp (pm.mem_iff.mp hx)
   simpa using hr
  .intro hr
   exact⟨(r:Int),pm.mem_iff.mpr ((mem _).mpr ⟨r,hr,rfl⟩),by simp⟩
theorem dI{k1 k2 ks:List Nat}(hs:MB (WD ((k1++k2).map λ(n:Nat)=>(n:Int)) ((k1++k2).map λ(n:Nat)=>(n:Int)).length)=ks.map (λ(n:Nat)=>(n:Int)))(h1:k1.length+k2.length<=1000)(h2:ks.length<64):wSS (.val (.lst ((k1.map λ(n:Nat)=>(n:Int)).map D.int++(k2.map λ(n:Nat)=>(n:Int)).map D.int)))=Gc (.own (Bi ks)):=by
 have e:(k1.map λ(n:Nat)=>(n:Int)).map D.int++(k2.map λ(n:Nat)=>(n:Int)).map D.int=((k1++k2).map λ(n:Nat)=>(n:Int)).map D.int:=by simp
 rw[e]
 show(Kn _).bind _=_
 rw[GQ,Ar]
 have l2:(WD ((k1++k2).map λ(n:Nat)=>(n:Int)) ((k1++k2).map λ(n:Nat)=>(n:Int)).length).length=ks.length:=by
  rw[<-(ID _).length_eq,hs,qP]
 rw[qc ⟨by simpa using h1,by rw[l2];exact h2⟩,hs,Bi,sR]
 rfl
noncomputable def lk(rs:List Trd)(n:Nat):pY Trd:=rs.find? λr=>r.u==n
noncomputable def oD:pY Trd->D
 |none=>.non
 |some r=>r.d
theorem Gw{n:Nat}:∀{rs:List Trd},(U9 (CS rs) (.inl (n:Int))).getD .non=oD (lk rs n)
 | []=>rfl
 |r::rs=>by
  show((if(vb (r.u:Int):Key)=.inl (n:Int)then Gc r.d else U9 (CS rs) (.inl (n:Int))).getD .non)=_
  unfold lk
  rw[uZ]
  by_cases e:r.u=n
  .subst e;simp[oD]
  .have e1:¬(vb (r.u:Int):Key)=.inl (n:Int):=λz=>by injection z with z;lia
   have e2:(r.u==n)=false:=by simpa using e
   rw[qj e1,e2]
   exact Gw
theorem IU{rs:List Trd}(h:TrO rs){n:Nat}{r:Trd}:lk rs n=Gc r↔r∈rs/\r.u=n:=by
 constructor
 .intro e
  exact⟨xk e,by simpa using List.find?_some e⟩
 .rintro ⟨hm,rfl⟩
  cases e:lk rs r.u with
  |none=>
   have:=List.find?_eq_none.mp e r hm
   simp at this
  |some s=>
   have h1:s∈rs:=xk e
   have h2:s.u=r.u:=by simpa using List.find?_some e
   obtain⟨i,hi,rfl⟩:=vZ.mp h1
   obtain⟨j,hj,rfl⟩:=vZ.mp hm
   have:i=j:=by
    have nd:=h.nd
    refine(uv (xs:=rs.map (·.u)) (h₀:=by simpa using hi) (h₁:=by simpa using hj) nd).mp ?_
    simpa using h2
   subst this;rfl
theorem RU{rs:List Trd}(h:TrO rs){n:Nat}:lk (srt rs) n=lk rs n:=by
 cases e:lk rs n with
 |some r=>exact(IU (MJ h)).mpr ⟨(F4 rs).mem_iff.mpr ((IU h).mp e).1,((IU h).mp e).2⟩
 |none=>
  cases e2:lk (srt rs) n with
  |none=>rfl
  |some r=>
   have:=(IU (MJ h)).mp e2
   rw[(IU h).mpr ⟨(F4 rs).mem_iff.mp this.1,this.2⟩]at e
   cases e
theorem mx{rs:List Trd}(h:TrO rs){n:Nat}:(lk rs n).isSome=true↔n∈rs.map (·.u):=by
 constructor
 .intro e
  obtain⟨r,e⟩:=yB.mp e
  have:=(IU h).mp e
  exact qi.mpr ⟨r,this.1,this.2⟩
 .intro e
  obtain⟨r,h1,h2⟩:=qi.mp e
  rw[(IU h).mpr ⟨h1,h2⟩];rfl
noncomputable def seen(r:Trd):Trd:=⟨r.u,r.o,r.n,r.k,r.g⟩
noncomputable def clB:pY Trd->pY Trd->qk
 |none,none=>false
 |some r,Gc s=> !((r.k==s.o) && ((r.g==s.n) && ((r.o==s.k) && (r.n==s.g))))
 |_,_=>true
noncomputable def clL(a b:List Trd):List Nat:=(qR 10).filter λn=>clB (lk a n) (lk b n)
noncomputable def prD(a b:List Trd)(n:Nat):D:=.tup [.int n,oD (lk a n),oD (lk b n)]
theorem gD{a b:List Nat}(h1:a.Pairwise (· < ·))(h2:b.Pairwise (· < ·))(h:∀n,n∈a↔n∈b):a=b:=by
 have n1:a.Nodup:=h1.imp λh=>qN h
 have n2:b.Nodup:=h2.imp λh=>qN h
 exact yF (le:=λx y=>x<=y) (λx y _ _ h h'=>Nat.le_antisymm h h') (h1.imp λh=>sF h) (h2.imp λh=>sF h) ((List.perm_ext_iff_of_nodup n1 n2).mpr h)
theorem aN{x y:pY Trd}:Dq (oD x) (oD y)=true:=by
 cases x<;>cases y<;>rfl
theorem Iz{x y:D}{xs ys:List D}:deq (.tup (x::xs)) (.tup (y::ys))=(deq x y && deq (.tup xs) (.tup ys)):=rfl
theorem Zh:deq (.tup []) (.tup [])=true:=rfl
theorem K3{a b:Nat}:((a:Int)==(b:Int))=(a==b):=by
 by_cases h:a=b
 .subst h;simp
 .have:¬(a:Int)=(b:Int):=by lia
  rw[uo.mpr this,uo.mpr h]
theorem cB{a b:List Trd}(ha:TrO a)(hb:TrO b){n:Nat}:(!deq (oD (lk a n)) (oD ((lk b n).map seen)))=clB (lk a n) (lk b n):=by
 cases e1:lk a n with
 |none=>cases e2:lk b n<;>rfl
 |some r=>
  cases e2:lk b n with
  |none=>rfl
  |some s=>
   have u1:=((IU ha).mp e1).2
   have u2:=((IU hb).mp e2).2
   show(!deq r.d (seen s).d)=_
   unfold Trd.d seen
   dsimp only
   have e:((r.u:Int)==(s.u:Int))=true:=by rw[u1,u2];simp
   rw[Iz,Iz,Iz,Iz,Iz,Zh,IP,IP,IP,IP,IP,e,zv,Bool.and_true,K3,K3]
   rfl
end Mi
end
noncomputable section
namespace Mi
open PySem PySem.Spec L2 PyProof.Rows
section
variable{S:Sto}{t t':Tr}{ls ls':List Ld}{ds ds':List AV}
@[simp] theorem cm{cf:Bool}{cap:List Nat}{m:Nat}{s:Sr}{t:Tf}{c fk fv:Ev}{E:En}:Oj cf cap m s t c fk fv E S=(s E S).bind λr=>(HN r.1.2 t c fk fv r.1.1 [] (Qf cap m E) r.2).map λq=>Rv cf q.1 q.2:=nr rfl
@[simp] theorem k7{c:Bool}{f:Ev}{E:En}:eLK c f E S=(f E S).bind λa=>(ML a.2 a.1).bind λes=>(Rb es).bind λns=>fin c (.own (ns.map D.int)) a.2:=nr rfl
@[simp] theorem fJ{f g:Ev}{E:En}:GW f g E S=(f E S).bind λa=>(ML a.2 a.1).bind λ_=>(g E a.2).bind λb=>(ML b.2 a.1).bind λes=>(SW b.1).map λk=>((U9 es k).getD .non,b.2):=nr rfl
@[simp] theorem jC{es:List (Key×D)}:ML S (.dct es)=some es:=nr rfl
theorem N8{gs:Gd}(hg:gOk gs S):∀{rs acc:List Trd} {o:pY D},((acc++rs).map (·.u)).Nodup->(acc++rs).length<=100->HN gs (tNm 0) By (eIx (eV 0) (eI 0)) (eV 0) (rs.map Trd.d) (CS acc) [o] S=Gc (CS (acc++rs),S)
 | [],acc,o,_,_=>by
   rw[sG]
   unfold HN
   rw[qc hg,uX]
 |r::rs,acc,o,nd,hl=>by
  have e:acc++r::rs=(acc++[r])++rs:=by simp
  rw[e]at nd hl⊢
  have nd1:((acc++[r]).map (·.u)).Nodup:=by
   rw[sf,sN]at nd
   exact nd.1
  have hz:(CS acc).length<sizeLine:=qB (show _<101 by simp[CS]at hl ⊢; lia) (AN (by decide))
  rw[qS]
  unfold HN
  rw[qc hg,qc hz]
  have t1:tNm 0 r.d [o] S=Gc [Gc r.d]:=rfl
  have t2:By [Gc r.d] S=Gc (.bl true,S):=rfl
  have t3:eIx (eV 0) (eI 0) [Gc r.d] S=Gc (.int r.u,S):=by simp[Trd.d]
  have t4:eV 0 [Gc r.d] S=Gc (r.d,S):=by simp
  rw[t1,Ar,t2,Ar]
  dsimp only
  rw[t3,Ar]
  dsimp only
  rw[t4,Ar]
  dsimp only
  rw[We,Ar,Ua nd1]
  exact N8 hg nd hl
theorem Jn:∀{rs:List Trd},Rb (CS rs)=Gc ((rs.map (·.u)).map λ(n:Nat)=>(n:Int))
 | []=>rfl
 |r::rs=>by
  show(Rb (CS rs)).map _=_
  rw[Jn];rfl
theorem bJ{x:pY Trd}:BC [oD x] S=Gc (oD (x.map seen),S):=by
 have sz:(5:Nat)<=sizeLine:=AN (by decide)
 cases x with
 |none=>simp[BC,Df,oD,isN]
 |some r=>simp[BC,Df,oD,Trd.d,isN,sz,seen]
theorem gA{x:pY Trd}:dr S (oD x)=.val (oD x):=by cases x<;>rfl
theorem kq{a b:List Trd}{ks:List Nat}(hl:ks.length<=50):CC [] (tNm 2) By (BL [eV 2,GW (eV 0) (eV 2),GW (eV 1) (eV 2)]) (Bi ks) [] [Gc (.dct (CS a)),Gc (.dct (CS b)),none] S=Gc (ks.map (prD a b),S):=by
 have sz:(3:Nat)<=sizeLine:=AN (by decide)
 have e:=DU (gs:=[]) (t:=tNm 2) (f:=BL [eV 2,GW (eV 0) (eV 2),GW (eV 1) (eV 2)]) (C:=[Gc (.dct (CS a)),Gc (.dct (CS b))]) (m:=1) (e:=λn:Nat=>D.int n) (g:=prD a b) (S:=S) Ah (xs:=ks) (acc:=[]) (os:=[none]) rfl (qD (show _<=50 by simpa using hl) (AN (by decide))) (by
  intro n _ os ho
  obtain⟨q1,rfl⟩:=Og ho
  have v1:=Gw (rs:=a) (n:=n)
  have v2:=Gw (rs:=b) (n:=n)
  refine⟨[Gc (.int n)],rfl,by simp,?_⟩
  unfold prD
  generalize CS a=A at*
  generalize CS b=B at*
  generalize oD (lk a n)=X at*
  generalize oD (lk b n)=Y at*
  simp[sz,v1,v2])
 rw[qU]at e
 exact e
theorem clC{a b:List Trd}(ha:TrO a)(hb:TrO b){ks:List Nat}(hl:ks.length<=50):CC [] (tNm 0) (eOp (o2 wNe) [eIx (eV 0) (eI 1),AJ BC [eIx (eV 0) (eI 2)]]) (eV 0) (ks.map (prD a b)) [] [none] S=Gc ((ks.filter λn=>clB (lk a n) (lk b n)).map (prD a b),S):=by
 have e:=DK (gs:=[]) (t:=tNm 0) (c:=eOp (o2 wNe) [eIx (eV 0) (eI 1),AJ BC [eIx (eV 0) (eI 2)]]) (f:=eV 0) (C:=[]) (m:=1) (e:=prD a b) (g:=prD a b) (b:=λn=>clB (lk a n) (lk b n)) (S:=S) Ah (xs:=ks) (acc:=[]) (os:=[none]) rfl (qD (show _<=50 by simpa using hl) (AN (by decide))) (by
  intro n _ os ho
  obtain⟨q1,rfl⟩:=Og ho
  have s1:=bJ (S:=S) (x:=lk b n)
  have c1:=cB ha hb (n:=n)
  have ok:=aN (x:=lk a n) (y:=(lk b n).map seen)
  have d1:=gA (S:=S) (x:=lk a n)
  have d2:=gA (S:=S) (x:=(lk b n).map seen)
  refine⟨[Gc (prD a b n)],rfl,by simp,?_,by simp⟩
  rw[<-c1]
  unfold prD
  generalize oD (lk a n)=X at*
  generalize oD ((lk b n).map seen)=Z at*
  generalize oD (lk b n)=Y at*
  simp[s1,d1,d2,ok])
 rw[qU]at e
 exact e
theorem keys_eq{a b:List Trd}(ha:TrO a)(hb:TrO b){ks:List Nat}(pw:ks.Pairwise (· < ·))(mem:∀r,r∈ks↔r∈a.map (·.u)\/r∈b.map (·.u)):ks.filter (λn=>clB (lk a n) (lk b n))=clL a b:=by
 refine gD (pw.filter _) (List.Pairwise.filter _ wQ) λn=>?_
 unfold clL
 rw[se,se,mem,uu]
 constructor
 .rintro ⟨h,c⟩
  refine⟨?_,c⟩
  rcases h with h|h
  .obtain⟨r,hr,rfl⟩:=qi.mp h
   have:=ha.le r hr;lia
  .obtain⟨r,hr,rfl⟩:=qi.mp h
   have:=hb.le r hr;lia
 .rintro ⟨_,c⟩
  refine⟨?_,c⟩
  rw[<-mx ha,<-mx hb]
  cases e1:lk a n with
  |some r=>exact .inl rfl
  |none=>
   cases e2:lk b n with
   |some r=>exact .inr rfl
   |none=>rw[e1,e2]at c;cases c
theorem R9{a b:List Trd}{X Y:D}(ha:TrO a)(hb:TrO b){q q':Nat}{S1 S2:Sto}(e1:Bv [X] S=Gc (.ref q,S1))(q1:S1[q]?=Gc (.lst ((srt a).map Trd.d)))(e2:Bv [Y] S1=Gc (.ref q',S2))(q2:S2[q']?=Gc (.lst ((srt b).map Trd.d))):DX [X,Y] S=Gc (.lst ((clL a b).map (prD a b)),S2):=by
 have sa:=MJ ha
 have sb:=MJ hb
 have fa:=sa.few
 have fb:=sb.few
 have c1:=N8 (gs:=[(q,(srt a).map Trd.d)]) (S:=S1) (by simp[gOk,AR q1]) (rs:=srt a) (acc:=[]) (o:=none) (by rw[qU];exact sa.nd) (by simp;lia)
 have c2:=N8 (gs:=[(q',(srt b).map Trd.d)]) (S:=S2) (by simp[gOk,AR q2]) (rs:=srt b) (acc:=[]) (o:=none) (by rw[qU];exact sb.nd) (by simp;lia)
 rw[qU]at c1 c2
 have n0:CS []=[]:=rfl
 rw[n0]at c1 c2
 have k1:=Jn (rs:=srt a)
 have k2:=Jn (rs:=srt b)
 obtain⟨ks,ss,pw,mem⟩:=bU ((srt a).map (·.u)) ((srt b).map (·.u))
 have ksl:ks.length<=10:=by
  have:=QM (a:=0) (M:=10) pw λx hx=>⟨rS _,by
   rcases(mem x).mp hx with h|h
   .obtain⟨r,hr,rfl⟩:=qi.mp h
    have:=sa.le r hr;lia
   .obtain⟨r,hr,rfl⟩:=qi.mp h
    have:=sb.le r hr;lia⟩
  lia
 have wss:=dI ss (by simp;lia) (by lia)
 have p:=kq (S:=S2) (a:=srt a) (b:=srt b) (ks:=ks) (by lia)
 have f:=clC (S:=S2) sa sb (ks:=ks) (by lia)
 rw[keys_eq sa sb pw mem]at f
 have ec:clL (srt a) (srt b)=clL a b:=by
  unfold clL
  congr 1
  funext n
  rw[RU ha,RU hb]
 have ep:prD (srt a) (srt b)=prD a b:=by
  funext n
  unfold prD
  rw[RU ha,RU hb]
 rw[ec,ep]at f
 rw[ep]at p
 have d1:=Dv q1
 have d2:=Dv q2
 have za:(((srt a).map (·.u)).map λ(n:Nat)=>D.int (n:Int)).length+(((srt b).map (·.u)).map λ(n:Nat)=>D.int (n:Int)).length<=sizeLine:=qD (show _<=50 by simp;lia) (AN (by decide))
 simp only[qP]at za
 have za':(srt a).length+(srt b).length<=sizeLine:=za
 have ms:∀l:List Trd,(l.map (·.u)).length=l.length:=λl=>qP ..
 have la:=ms (srt a)
 have lb:=ms (srt b)
 generalize (srt a).map (·.u)=NA at*
 generalize (srt b).map (·.u)=NB at*
 have hz:((NA.map λ(n:Nat)=>(n:Int)).map D.int).length+((NB.map λ(n:Nat)=>(n:Int)).map D.int).length<=sizeLine:=by simp only[qP];lia
 generalize (srt a).map Trd.d=TA at*
 generalize (srt b).map Trd.d=TB at*
 generalize CS (srt a)=RA at*
 generalize CS (srt b)=RB at*
 generalize Bi ks=NK at*
 generalize ks.map (prD a b)=PR at*
 generalize (clL a b).map (prD a b)=CL at*
 generalize (NA.map λ(n:Nat)=>(n:Int))=IA at*
 generalize (NB.map λ(n:Nat)=>(n:Int))=IB at*
 simp only[qP]at hz
 simp[DX,HJ,e1,e2,d1,d2,c1,c2,k1,k2,hz,wss,p,f]
end
end Mi
end
noncomputable section
namespace Mi
open PySem PySem.Spec L2 PyProof.Rows
section
variable{S:Sto}{t t':Tr}{ls ls':List Ld}{ds ds':List AV}{a b:List Trd}
@[simp] theorem js{a b c d e:D}:Gx [a,b,c,d,e] (some 1) none=[b,c,d,e]:=nr rfl
@[simp] theorem j7{a b c d e:D}:Gx [a,b,c,d,e] (some 3) none=[d,e]:=nr rfl
@[simp] theorem iW{a b c d e:D}:Gx [a,b,c,d,e] (some 1) (some 3)=[b,c]:=nr rfl
def acB:Ex:=(AU (Rg 4 5 (GW (eV 0) (eV 3)) (GW (eV 1) (eV 3))) (xIf (GG (eOp (o2 (Of false)) [eV 4,eC .non]) (eOp (o2 (Of false)) [eV 5,eC .non])) CZ (xIf (eOr (eOp (o2 (Of false)) [eV 4,eC .non]) (eOr (eOp (o2 (Of false)) [eV 5,eC .non]) (eOp (o2 wNe) [eOp (Gm true false) [eV 4,eI 1],eOp (o2 Be) [eOp (Gm true false) [eV 5,eI 3],eOp (Gm true true) [eV 5,eI 1,eI 3]]]))) (Cb (Jv Ka (eV 2) [BL [eV 3,eV 4,eV 5]])) CZ)))
theorem fD{q n:Nat}{acc:List D}{x y:D}{e4 e5:pY D}(hx:ML S x=Gc (CS a))(hy:ML S y=Gc (CS b))(hq:S[q]?=Gc (.lst acc))(hz:acc.length<sizeLine):acB [Gc x,Gc y,Gc (.ref q),Gc (.int n),e4,e5] S=Gc (.nx,[Gc x,Gc y,Gc (.ref q),Gc (.int n),Gc (oD (lk a n)),Gc (oD (lk b n))],S.set q (.lst (acc++if clB (lk a n) (lk b n)=true then [prD a b n]else []))):=by
 have v1:=Gw (rs:=a) (n:=n)
 have v2:=Gw (rs:=b) (n:=n)
 have cq:=AR hq
 have sm:=set_same hq
 have sz:(3:Nat)<=sizeLine:=AN (by decide)
 have s4:(4:Nat)<=sizeLine:=AN (by decide)
 unfold prD
 generalize CS a=A at*
 generalize CS b=B at*
 generalize lk a n=X at*
 generalize lk b n=Y at*
 cases X with
 |none=>
  cases Y with
  |none=>simp[acB,hx,hy,v1,v2,oD,isN,clB,sm]
  |some s=>simp[acB,hx,hy,v1,v2,oD,Trd.d,isN,clB,cq,hz,sz]
 |some r=>
  cases Y with
  |none=>simp[acB,hx,hy,v1,v2,oD,Trd.d,isN,clB,cq,hz,sz]
  |some s=>
   have ok:Dq (.tup [.int r.k,.int r.g,.int r.o,.int r.n]) (.tup [.int s.o,.int s.n,.int s.k,.int s.g])=true:=rfl
   have de:deq (.tup [.int r.k,.int r.g,.int r.o,.int r.n]) (.tup [.int s.o,.int s.n,.int s.k,.int s.g])=((r.k==s.o) && ((r.g==s.n) && ((r.o==s.k) && (r.n==s.g)))):=by
    rw[Iz,Iz,Iz,Iz,Zh,IP,IP,IP,IP,K3,K3,Bool.and_true]
   have ec:clB (Gc r) (Gc s)= !((r.k==s.o) && ((r.g==s.n) && ((r.o==s.k) && (r.n==s.g)))):=rfl
   rw[ec]
   generalize ((r.k==s.o) && ((r.g==s.n) && ((r.o==s.k) && (r.n==s.g))))=B0 at*
   cases B0 with
   |true=>simp[acB,hx,hy,v1,v2,oD,Trd.d,isN,ok,de,s4,sm]
   |false=>simp[acB,hx,hy,v1,v2,oD,Trd.d,isN,ok,de,s4,cq,hz,sz]
theorem cI:(qR 10).flatMap (λn=>if clB (lk a n) (lk b n)=true then [prD a b n]else [])=(clL a b).map (prD a b):=by
 unfold clL
 generalize qR 10=xs
 induction xs with
 |nil=>rfl
 |cons n xs ih=>
  rw[List.flatMap_cons,ih,List.filter_cons]
  cases clB (lk a n) (lk b n)<;>rfl
theorem UM{x y:D}(hx:∀{T:Sto},Ca [] S T->ML T x=Gc (CS a))(hy:∀{T:Sto},Ca [] S T->ML T y=Gc (CS b)):∃q S',CV [x,y] S=Gc (.ref q,S')/\S'[q]?=Gc (.lst ((clL a b).map (prD a b)))/\Ca [] S S':=by
 obtain⟨os',S2,ho',e2,q2,s2⟩:=QJ (gs:=[]) (S0:=S++[Cl.lst []]) (t:=tNm 3) (b:=acB) (C:=[Gc x,Gc y,Gc (.ref S.length)]) (m:=3) (q:=S.length) (e:=λn:Nat=>D.int (0+(n:Int))) (h:=λn=>if clB (lk a n) (lk b n)=true then [prD a b n]else []) (λ_ _=>Ah) (xs:=qR 10) (acc:=[]) (os:=[none,none,none]) (S:=S++[Cl.lst []]) rfl qQ .refl (by simp) (λd _=>by split<;>simp) (by
  intro n _ os T acc ho hq0 hz hT
  obtain⟨x1,x2,x3,rfl⟩:=iw ho
  have sT:Ca [] S T:=Ca.new (A:=[]) (B:=[S.length]) .app hT (by simp)
  have e:=fD (a:=a) (b:=b) (n:=n) (e4:=x2) (e5:=x3) (hx sT) (hy sT) hq0 hz
  exact⟨[Gc (.int n),x2,x3],[Gc (.int n),Gc (oD (lk a n)),Gc (oD (lk b n))],T,by simp,e,rfl,.refl⟩)
 rw[qU,cI]at q2
 refine⟨S.length,S2,?_,q2,Ca.new (A:=[]) (B:=[S.length]) .app s2 (by simp)⟩
 have eb:GP=(AU (A4 2 (HQ []))
  (AU (IF (K8 [eI 10]) (tNm 3) acB)
  (BR (eV 2)))):=rfl
 have rg:(qR 10).map (λn:Nat=>D.int (0+(n:Int)))=Kb 0 10:=rfl
 rw[rg]at e2
 have rt:Ho 10=true:=C4 (by decide) (by decide)
 obtain⟨x1,x2,x3,rfl⟩:=iw ho'
 simp only[rF,qU]at e2
 unfold CV
 rw[eb]
 simp[rt,e2]
end
end Mi
end
noncomputable section
namespace Mi
open PySem PySem.Spec L2 PyProof.Rows
section
variable{t:Tr}{ls:List Ld}{ds:List AV}{K:Nat}
theorem NO{L:List Ld}{i j:Nat}{n:Int}:(AQ (less L i n) j).k=(AQ L j).k:=by
 unfold less AQ
 simp only[qJ]
 by_cases e:i=j
 .subst e
  by_cases hi:i<L.length
  .simp[hi]
  .rw[List.set_eq_of_length_le (by lia)]
 .rw[qE e]
theorem W2{L:List Ld}{x:Ld}{j:Nat}(h:j<L.length):(AQ (L++[x]) j).k=(AQ L j).k:=by
 unfold AQ
 simp only[qJ]
 rw[pq h]
theorem Yz{st:Stt}{d:AV}{j:Nat}(h:j<st.AF.length):(AQ (step t st d).AF j).k=(AQ st.AF j).k:=by
 cases d with
 |D4 p k n=>exact W2 h
 |Oh a b=>show(AQ (less (less _ _ _) _ _++[_]) j).k=_;rw[W2 (by simpa[B8]using h),NO,NO]
 |swap l g k n=>show(AQ (less _ _ _++[_]) j).k=_;rw[W2 (by simpa[B8]using h),NO]
 |B5 u l g k n=>show(AQ (less _ _ _++[_]) j).k=_;rw[W2 (by simpa[B8]using h),NO]
 |Hf l n=>exact NO
 |thr l n ws=>
  show(AQ ((less st.AF l n).map _) j).k=_
  have h':j<(less st.AF l n).length:=by simpa[B8]using h
  have e:AQ ((less st.AF l n).map λx=>{x with ow:=Jb (Kk t st.AF l n ws) (AQ st.AF l).ow x.ow}) j={AQ (less st.AF l n) j with ow:=Jb (Kk t st.AF l n ws) (AQ st.AF l).ow (AQ (less st.AF l n) j).ow}:=by
   unfold AQ
   simp[qJ,h']
  rw[e]
  exact NO
 |Ks p q x=>
  show(AQ (st.AF.map _) j).k=_
  unfold AQ
  simp[qJ,h]
theorem ZI:∀{ds:List AV} {st:Stt} {j:Nat},j<st.AF.length->(AQ (runs t st ds).AF j).k=(AQ st.AF j).k
 | [],st,j,_=>rfl
 |d::ds,st,j,h=>by
  show(AQ (runs t (step t st d) ds).AF j).k=_
  rw[ZI (qB h Pf),Yz h]
structure VN(K:Nat)(r:Trd):Prop where
 k:r.k<K
 o:r.o<K
 ne:r.k≠r.o
 g1:1<=r.g
 g2:r.g<=2000
 n1:1<=r.n
 n2:r.n<2^130
theorem TJ:∀{ds:List AV} {st:Stt},HY t st ds->(∀d∈ds,Sm d)->(∀x∈(runs t st ds).AF,x.k<t.k)->∀r∈tds (runs t st ds).AF ds,VN t.k r
 | [],st,_,_,_,r,hr=>by cases hr
 |d::ds,st,hg,hs,hk,r,hr=>by
  have e:runs t st (d::ds)=runs t (step t st d) ds:=rfl
  rw[e]at hk hr
  rw[show tds (runs t (step t st d) ds).AF (d::ds)=tds _ [d]++tds _ ds from QV (a:=[d]) (b:=ds)]at hr
  rcases qW.mp hr with z|z
  .cases d with
   |B5 u l g k n=>
    have er:r=⟨u.toNat,(AQ (runs t (step t st (.B5 u l g k n)) ds).AF l).k,g,k,n⟩:=by simpa[tds,trd]using z
    subst er
    have c:=hg.1
    have s:=hs _ qH
    have lk:(AQ (runs t (step t st (.B5 u l g k n)) ds).AF l).k=(AQ st.AF l).k:=by
     rw[ZI (qB c.1 Pf),Yz c.1]
    have ll:l<(runs t (step t st (.B5 u l g k n)) ds).AF.length:=qB c.1 (qD Pf (OY (ds:=ds) (st:=step t st (.B5 u l g k n))))
    exact⟨hk _ (BG ll),c.2.2.2.1,by dsimp only;rw[lk];exact λz=>c.2.2.2.2.1 z.symm,c.2.1,s.1,c.2.2.2.2.2.1,s.2⟩
   |_=>simp[tds,trd]at z
  .exact TJ hg.2 (λx hx=>hs x (qC _ hx)) hk r z
theorem aG(h:Eg t ls ds)(hs:∀d∈ds,Sm d):∀r∈tdB t ls ds,VN t.k r:=by
 obtain⟨k,_,inv⟩:=h.inv ds.length (p9 _)
 rw[wg]at inv
 exact TJ h.good hs inv.kind
end
abbrev Mx:=Trd×Int×Int
noncomputable def mds:Nat->List Mx->List AV
 |_,[]=>[]
 |n,(r,m,e)::xs=>.D4 0 r.o m:: .B5 r.u n m r.k e::mds (n+2) xs
noncomputable def tM(K:Nat):Tr:=⟨1,K,1,[1],0,0⟩
structure jb(K:Nat)(x:Mx):Prop where
 row:VN K x.1
 m1:1<=x.2.1
 m2:x.2.1<2^131
 e1:1<=x.2.2
 e2:x.2.2<2^131
structure MI(K:Nat)(st:Stt):Prop where
 lds:∀x∈st.AF,x.k<K/\0<=x.n/\x.n<2^131/\x.ow=[1]
 hold:st.hold=[1]
def Pre(P:Stt->Prop)(t:Tr):Stt->List AV->Prop
 |st,[]=>P st
 |st,d::ds=>P st/\Pre P t (step t st d) ds
theorem ZP{P:Stt->Prop}{t:Tr}:∀{ds:List AV} {st:Stt},Pre P t st ds->∀i,P (runs t st (ds.take i))
 | [],st,h,i=>by rw[List.take_nil];exact h
 |d::ds,st,h,0=>h.1
 |d::ds,st,h,i+1=>ZP (ds:=ds) (st:=step t st d) h.2 i
section
variable{K:Nat}
theorem Xf{st:Stt}{o:Nat}{m:Int}(h:MI K st)(ho:o<K)(m1:1<=m)(m2:m<2^131):MI K (step (tM K) st (.D4 0 o m)):=⟨λx hx=>by
 rcases qW.mp hx with z|z
 .exact h.lds x z
 .rw[qV.mp z]
  exact⟨ho,by dsimp only;lia,m2,rfl⟩,h.hold⟩
theorem WL{st:Stt}{u m e:Int}{l k:Nat}(h:MI K st)(hl:l<st.AF.length)(hn:(AQ st.AF l).n=m)(hk:k<K)(e1:1<=e)(e2:e<2^131):MI K (step (tM K) st (.B5 u l m k e)):=⟨λx hx=>by
 have hl':=h.lds _ (BG hl)
 rcases qW.mp hx with z|z
 .rcases tQ z with z|rfl
  .exact h.lds x z
  .exact⟨hl'.1,by dsimp only;lia,by dsimp only;lia,hl'.2.2.2⟩
 .rw[qV.mp z]
  exact⟨hk,by dsimp only;lia,e2,hl'.2.2.2⟩,h.hold⟩
theorem RK:∀{xs:List Mx} {st:Stt},MI K st->(∀x∈xs,jb K x)->(st.nums++xs.map λx=>(x.1.u:Int)).Nodup->(∀x∈xs,x.1.u<=9)->HY (tM K) st (mds st.AF.length xs)/\Pre (MI K) (tM K) st (mds st.AF.length xs)
 | [],st,h,_,_,_=>⟨trivial,h⟩
 |(r,m,e)::xs,st,h,hx,nd,hu=>by
  have ox:=hx _ qH
  have h1:=Xf (K:=K) (o:=r.o) (m:=m) h ox.row.o ox.m1 ox.m2
  have l1:(step (tM K) st (.D4 0 r.o m)).AF=st.AF++[⟨r.o,m,Su 1 0⟩]:=rfl
  have at1:AQ (step (tM K) st (.D4 0 r.o m)).AF st.AF.length=⟨r.o,m,Su 1 0⟩:=by
   rw[l1];unfold AQ;simp
  have lt1:st.AF.length<(step (tM K) st (.D4 0 r.o m)).AF.length:=by rw[l1];simp
  have h2:=WL (K:=K) (u:=r.u) (k:=r.k) (e:=e) (m:=m) h1 lt1 (by rw[at1]) ox.row.k ox.e1 ox.e2
  have nu:(r.u:Int)∉st.nums:=λz=>by
   rw[qS,sN]at nd
   exact nd.2.2 _ z _ qH rfl
  have l2:(step (tM K) (step (tM K) st (.D4 0 r.o m)) (.B5 r.u st.AF.length m r.k e)).AF.length=st.AF.length+2:=by
   show(less _ _ _++[_]).length=_
   rw[qw,B8,l1];simp
  have u9:=hu _ qH
  obtain⟨a,b⟩:=RK (xs:=xs) (st:=step (tM K) (step (tM K) st (.D4 0 r.o m)) (.B5 r.u st.AF.length m r.k e)) h2 (λx z=>hx x (qC _ z)) (by
   show((st.nums++[(r.u:Int)])++_).Nodup
   rw[rz];exact nd) (λx z=>hu x (qC _ z))
  rw[l2]at a b
  refine⟨⟨⟨by show 0<1;decide,ox.row.o,ox.m1,ox.m2⟩,⟨lt1,ox.m1,by rw[at1];exact Int.le_refl _,ox.row.k,by rw[at1];exact ox.row.ne,ox.e1,ox.e2,nu,by lia,by dsimp only at u9;lia⟩,a⟩,h,h1,b⟩
theorem Ny:∀{xs:List Mx} {n:Nat},(mds n xs).length=2*xs.length
 | [],n=>rfl
 |(r,m,e)::xs,n=>by
  show(mds (n+2) xs).length+1+1=_
  rw[Ny,qg];lia
theorem Mn:∀{xs:List Mx} {n:Nat},((mds n xs).filterMap DH).length=xs.length
 | [],n=>rfl
 |(r,m,e)::xs,n=>by
  show((mds (n+2) xs).filterMap DH).length+1=_
  rw[Mn];rfl
theorem MI.inv{st:Stt}(h:MI K st)(hl:st.AF.length<=20)(hn:st.nums.length<=16):Fo (tM K) 16 st:=
 Fo.of (G:=1) (B:=1) (by lia) (λx hx=>by
  obtain⟨a,b,c,d⟩:=h.lds x hx
  refine⟨a,b,uS c (Ht (by decide)),by rw[d];rfl,λr hr=>?_⟩
  rw[d]at hr
  rw[qV.mp hr]
  exact⟨1,by decide+kernel,by decide⟩) (by rw[h.hold];rfl) hn (by decide) (by decide) (by decide) (λr hr=>by
  rw[h.hold]at hr
  rw[qV.mp hr]
  exact⟨1,by decide+kernel,by decide⟩)
theorem Yf{xs:List Mx}(hK:1<=K/\K<=5)(hx:∀x∈xs,jb K x)(nd:(xs.map λx=>x.1.u).Nodup)(hu:∀x∈xs,x.1.u<=9)(hl:xs.length<=10):Eg (tM K) [] (mds 0 xs):=by
 have nd':(xs.map λx=>(x.1.u:Int)).Nodup:=by
  rw[tN,tL]at nd⊢
  exact nd.imp λh z=>h (by lia)
 obtain⟨a,b⟩:=RK (K:=K) (xs:=xs) (st:=st0 (tM K) []) ⟨λx z=>(by cases z),rfl⟩ hx (by show([]++_).Nodup;rw[qU];exact nd') hu
 have ln:=Ny (xs:=xs) (n:=0)
 refine⟨⟨p9 1,(by show 1<=4;decide),hK.1,hK.2,p9 1,(by show 1<=20;decide)⟩,by decide,λi hi=>⟨16,p9 _,(ZP b i).inv ?_ ?_⟩,a,by lia⟩
 .have up:∀{ds:List AV} {st:Stt},(runs (tM K) st ds).AF.length<=st.AF.length+ds.length:=by
   intro ds
   induction ds with
   |nil=>intro st;exact p9 _
   |cons d ds ih=>
    intro st
    have h1:(step (tM K) st d).AF.length<=st.AF.length+1:=by cases d<;>simp[step,B8]
    have:=ih (st:=step (tM K) st d)
    show(runs (tM K) (step (tM K) st d) ds).AF.length<=_
    simp only[qg];lia
  have:=up (ds:=(mds 0 xs).take i) (st:=st0 (tM K) [])
  have e0:(st0 (tM K) []).AF.length=0:=rfl
  have:=List.length_take_le i (mds 0 xs)
  have:((mds 0 xs).take i).length<=20:=by rw[uG];lia
  show(runs (tM K) (st0 (tM K) []) ((mds 0 xs).take i)).AF.length<=20
  lia
 .rw[show(st0 (tM K) []).AF.length=0 from rfl,O7]
  have:=((wH i (mds 0 xs)).filterMap DH).length_le
  rw[Mn]at this
  lia
end
end Mi
end
noncomputable section
namespace Mi
open PySem PySem.Spec L2 PyProof.Rows
section
variable{S:Sto}{p q:Nat}{t:Tr}{ls:List Ld}{ds:List AV}{K:Nat}
theorem Q6:∀{xs:List Mx} {n:Nat} {r:Trd} {m e:Int},mds n (xs++[(r,m,e)])=mds n xs++[.D4 0 r.o m,.B5 r.u (n+2*xs.length:Nat) m r.k e]
 | [],n,r,m,e=>by simp[mds]
 |(r',m',e')::xs,n,r,m,e=>by
  rw[rF]
  show AV.D4 0 r'.o m':: .B5 r'.u n m' r'.k e'::mds (n+2) (xs++[(r,m,e)])=_
  rw[Q6,qg,show n+2+2*xs.length=n+2*(xs.length+1) by lia]
  rfl
def cj(x:Mx):Prop:=(x.2.1=x.1.n\/x.2.1=x.1.n+1)/\(x.2.2=x.1.g\/x.2.2=x.1.g+1)
def miB:Ex:=(AU (Rg 12 13 (eV 11) (eV 9))
    (AU (xIf (eOp (o2 wEq) [AJ AH [eV 0,eI 6],eI 0]) (A4 12 (eOp (o2 Be) [eV 11,eI 1])) CZ)
    (AU (xIf (eOp (o2 wEq) [AJ AH [eV 0,eI 6],eI 0]) (A4 13 (eOp (o2 Be) [eV 9,eI 1])) CZ)
    (AU (Cb (Jv Ka (eV 4) [BL [eC (.str "bring"),eI 0,eV 10,eV 12]]))
    (Cb (Jv Ka (eV 4) [BL [eC (.str "trade"),eV 7,eOp (o2 MK) [eOp (o1 HP) [eV 4],eI 1],eV 12,eV 8,eV 13]]))))))
theorem fc{xs:List Mx}{r:Trd}{e1 e2 e3 e5 e6 e12 e13:pY D}(hp:Bg p S)(hq:S[q]?=Gc (.lst ((mds 0 xs).map AV.d)))(ne:q≠p)(hl:xs.length<=100):∃m e S',miB [Gc (.ref p),e1,e2,e3,Gc (.ref q),e5,e6,Gc (.int r.u),Gc (.int r.k),Gc (.int r.g),Gc (.int r.o),Gc (.int r.n),e12,e13] S=Gc (.nx,[Gc (.ref p),e1,e2,e3,Gc (.ref q),e5,e6,Gc (.int r.u),Gc (.int r.k),Gc (.int r.g),Gc (.int r.o),Gc (.int r.n),Gc (.int m),Gc (.int e)],S')/\cj (r,m,e)/\S'[q]?=Gc (.lst ((mds 0 (xs++[(r,m,e)])).map AV.d))/\Bg p S'/\∀n c,S[n]?=Gc c->n≠p->n≠q->S'[n]?=Gc c:=by
 obtain⟨r1,S1,d1,a1,b1,p1⟩:=Ad hp (n:=6) (by decide) (by decide)
 obtain⟨r2,S2,d2,a2,b2,p2⟩:=Ad p1.pen (n:=6) (by decide) (by decide)
 have q2:S2[q]?=Gc (.lst ((mds 0 xs).map AV.d)):=p2.get (p1.get hq ne) ne
 have ln:=Ny (xs:=xs) (n:=0)
 have sz4:(4:Nat)<=sizeLine:=AN (by decide)
 have sz6:(6:Nat)<=sizeLine:=AN (by decide)
 obtain⟨m,hm,em⟩:∃m:Int,(m=r.n\/m=r.n+1)/\∀{E:En} (c:Ex),(if(r1==0)=true then A4 12 (eOp (o2 Be) [eV 11,eI 1])else CZ) ([Gc (.ref p),e1,e2,e3,Gc (.ref q),e5,e6,Gc (.int r.u),Gc (.int r.k),Gc (.int r.g),Gc (.int r.o),Gc (.int r.n),Gc (.int r.n),Gc (.int r.g)]) S1=Gc (.nx,[Gc (.ref p),e1,e2,e3,Gc (.ref q),e5,e6,Gc (.int r.u),Gc (.int r.k),Gc (.int r.g),Gc (.int r.o),Gc (.int r.n),Gc (.int m),Gc (.int r.g)],S1):=by
  cases h:(r1==0)with
  |true=>exact⟨r.n+1,.inr rfl,λ_=>by simp⟩
  |false=>exact⟨r.n,.inl rfl,λ_=>by simp⟩
 obtain⟨e,he,ee⟩:∃e:Int,(e=r.g\/e=r.g+1)/\∀(c:Ex),(if(r2==0)=true then A4 13 (eOp (o2 Be) [eV 9,eI 1])else CZ) ([Gc (.ref p),e1,e2,e3,Gc (.ref q),e5,e6,Gc (.int r.u),Gc (.int r.k),Gc (.int r.g),Gc (.int r.o),Gc (.int r.n),Gc (.int m),Gc (.int r.g)]) S2=Gc (.nx,[Gc (.ref p),e1,e2,e3,Gc (.ref q),e5,e6,Gc (.int r.u),Gc (.int r.k),Gc (.int r.g),Gc (.int r.o),Gc (.int r.n),Gc (.int m),Gc (.int e)],S2):=by
  cases h:(r2==0)with
  |true=>exact⟨r.g+1,.inr rfl,λ_=>by simp⟩
  |false=>exact⟨r.g,.inl rfl,λ_=>by simp⟩
 have hz:((mds 0 xs).map AV.d).length<sizeLine:=qB (show _<201 by rw[qP];lia) (AN (by decide))
 have hz2:((mds 0 xs).map AV.d++[D.tup [.str "bring",.int 0,.int r.o,.int m]]).length<sizeLine:=qB (show _<202 by rw[qw,qP];simp;lia) (AN (by decide))
 have c1:=AR q2
 have q3:(S2.set q (.lst ((mds 0 xs).map AV.d++[D.tup [.str "bring",.int 0,.int r.o,.int m]])))[q]?=Gc (.lst ((mds 0 xs).map AV.d++[D.tup [.str "bring",.int 0,.int r.o,.int m]])):=qL (Af q2)
 have c2:=AR q3
 have dq:=Aq q3
 have fin:(mds 0 (xs++[(r,m,e)])).map AV.d=((mds 0 xs).map AV.d++[D.tup [.str "bring",.int 0,.int r.o,.int m]])++[D.tup [.str "trade",.int r.u,.int (2*xs.length:Nat),.int m,.int r.k,.int e]]:=by
  rw[Q6,sf,rz,xI];rfl
 have li:(((mds 0 xs).map AV.d).length:Int)=(2*xs.length:Nat):=by rw[qP,ln]
 refine⟨m,e,S2.set q (.lst ((mds 0 (xs++[(r,m,e)])).map AV.d)),?_,⟨hm,he⟩,qL (Af q2),?_,λn c hn h1 h2=>?_⟩
 .rw[fin]
  have em':=em (E:=[]) CZ
  have ee':=ee CZ
  generalize (mds 0 xs).map AV.d=MD at*
  have e1':∀(f:Fl×En×Sto->pY (Fl×En×Sto)),(cu (A4 12 (eOp (o2 Be) [eV 11,eI 1])) CZ [Gc (.ref p),e1,e2,e3,Gc (.ref q),e5,e6,Gc (.int r.u),Gc (.int r.k),Gc (.int r.g),Gc (.int r.o),Gc (.int r.n),Gc (.int r.n),Gc (.int r.g)] (.bl (r1==0),S1)).bind f=f (.nx,[Gc (.ref p),e1,e2,e3,Gc (.ref q),e5,e6,Gc (.int r.u),Gc (.int r.k),Gc (.int r.g),Gc (.int r.o),Gc (.int r.n),Gc (.int m),Gc (.int r.g)],S1):=by
   intro f
   rw[Yq]
   cases h:(r1==0)with
   |true=>rw[h]at em';rw[qc rfl]at em' ⊢; rw[em',Ar]
   |false=>rw[h]at em';rw[qj (by decide)]at em' ⊢; rw[em',Ar]
  have e2':∀(f:Fl×En×Sto->pY (Fl×En×Sto)),(cu (A4 13 (eOp (o2 Be) [eV 9,eI 1])) CZ [Gc (.ref p),e1,e2,e3,Gc (.ref q),e5,e6,Gc (.int r.u),Gc (.int r.k),Gc (.int r.g),Gc (.int r.o),Gc (.int r.n),Gc (.int m),Gc (.int r.g)] (.bl (r2==0),S2)).bind f=f (.nx,[Gc (.ref p),e1,e2,e3,Gc (.ref q),e5,e6,Gc (.int r.u),Gc (.int r.k),Gc (.int r.g),Gc (.int r.o),Gc (.int r.n),Gc (.int m),Gc (.int e)],S2):=by
   intro f
   rw[Yq]
   cases h:(r2==0)with
   |true=>rw[h]at ee';rw[qc rfl]at ee' ⊢; rw[ee',Ar]
   |false=>rw[h]at ee';rw[qj (by decide)]at ee' ⊢; rw[ee',Ar]
  have li':((MD.length:Int)+1-1)=(2*xs.length:Nat):=by lia
  simp[miB,d1,d2,e1',e2',c1,c2,dq,hz,hz2,sz4,sz6,List.set_set]
  simp only[qw,qg,vM]at hz2
  have li2:(MD.length:Int)=2*(xs.length:Int):=by lia
  exact⟨hz2,by rw[li2]⟩
 .obtain⟨pd,pe,ph⟩:=p2.pen
  exact⟨pd,by rw[qE ne];exact pe,ph⟩
 .rw[qE (λz=>h2 z.symm)]
  exact p2.get (p1.get hn h1) h1
end
end Mi
end
noncomputable section
namespace Mi
open PySem PySem.Spec L2 PyProof.Rows
section
variable{S:Sto}{p q:Nat}{t:Tr}{ls:List Ld}{ds:List AV}{K:Nat}
theorem bu{rs:List Trd}{f:Ev}{E:En}{x:D}{S1:Sto}(h:TrO rs)(hf:f E S=Gc (x,S1))(hx:ML S1 x=Gc (CS rs)):eSV false f E S=Gc (.lst ((srt rs).map Trd.d),S1):=by
 have:=h.few
 rw[QG,hf,Ar]
 dsimp only
 rw[hx,Ar,Tw,OD,Ar,qc ⟨by simp;lia,VL h⟩,RS h]
 rfl
theorem fC{rs:List Trd}(h:TrO rs):(srt rs).length<=10:=by
 have:=QM (a:=0) (M:=10) (l:=(srt rs).map (·.u)) (by rw[tL];exact VJ h) (λx hx=>⟨rS _,by
  obtain⟨r,hr,rfl⟩:=qi.mp hx
  have:=(MJ h).le r hr;lia⟩)
 simpa using this
theorem cj.ok{x:Mx}(h:cj x)(r:VN K x.1):jb K x:=by
 have a:=r.n1
 have b:=r.n2
 have c:=r.g1
 have d:=r.g2
 have e:(2:Int)^130+1<=2^131:=by decide
 have e':(2001:Int)<2^131:=by decide
 obtain⟨h1,h2⟩:=h
 refine⟨r,?_,?_,?_,?_⟩
 .rcases h1 with z|z<;>rw[z]<;>lia
 .rcases h1 with z|z<;>rw[z]
  .exact tK b (by decide)
  .exact uS (Int.add_lt_add_right b 1) e
 .rcases h2 with z|z<;>rw[z]<;>lia
 .rcases h2 with z|z<;>rw[z]
  .exact xf d (by decide)
  .exact xf (Int.add_le_add_right d 1) e'
theorem bM{rs:List Trd}{n:Nat}{xs:List Mx}(hK:1<=K/\K<=5)(h:TrO rs)(hr:∀r∈rs,VN K r)(hx:xs.map (·.1)=(srt rs).take n)(ho:∀x∈xs,cj x):Eg (tM K) [] (mds 0 xs)/\xs.length<=10:=by
 have l10:=fC h
 have lx:xs.length<=10:=by
  have:=congrArg xp hx
  rw[qP,uG]at this
  lia
 have mem:∀x∈xs,x.1∈srt rs:=λx z=>zX (by rw[<-hx];exact xF z)
 refine⟨Yf hK (λx z=>(ho x z).ok (hr _ ((F4 rs).mem_iff.mp (mem x z)))) ?_ (λx z=>(MJ h).le _ (mem x z)) lx,lx⟩
 have e:(xs.map λx=>x.1.u)=((srt rs).take n).map (·.u):=by rw[<-hx,sR];rfl
 rw[e]
 exact(List.Sublist.map _ (wH _ _)).nodup (MJ h).nd
theorem ae{R:List Trd}{b:qk}:∃n,Gx (R.map Trd.d) none (Gc ((R.length:Int)-(if b=true then 1 else 0)))=(R.take n).map Trd.d:=by
 cases R with
 |nil=>cases b<;>exact⟨0,rfl⟩
 |cons r R=>
  refine⟨(r::R).length-(if b=true then 1 else 0),?_⟩
  have e:(((r::R).length:Int)-(if b=true then 1 else 0))=(((r::R).length-(if b=true then 1 else 0):Nat):Int):=by
   cases b<;>simp
  rw[e,Jf (by rw[qP];lia),zw]
theorem Sj{e1 e2 e3 e5 e6:pY D}(ne:q≠p):∀{R:List Trd} {xs:List Mx} {S:Sto} {us:En},us.length=7->Bg p S->S[q]?=Gc (.lst ((mds 0 xs).map AV.d))->xs.length+R.length<=100->(∀x∈xs,cj x)->∃xs' us' S',IV [] (tTp [tNm 7,tNm 8,tNm 9,tNm 10,tNm 11]) miB (R.map Trd.d) ([Gc (.ref p),e1,e2,e3,Gc (.ref q),e5,e6]++us) S=Gc (.nx,[Gc (.ref p),e1,e2,e3,Gc (.ref q),e5,e6]++us',S')/\xs'.map (·.1)=xs.map (·.1)++R/\(∀x∈xs',cj x)/\S'[q]?=Gc (.lst ((mds 0 xs').map AV.d))/\Bg p S'/\∀n c,S[n]?=Gc c->n≠p->n≠q->S'[n]?=Gc c
 | [],xs,S,us,hu,hp,hq,hl,ho=>⟨xs,us,S,by rw[sG,EI Ah],by simp,ho,hq,hp,λ_ _ e _ _=>e⟩
 |r::R,xs,S,us,hu,hp,hq,hl,ho=>by
  obtain⟨u7,u8,u9,u10,u11,u12,u13,rfl⟩:∃a b c d e f g,us=[a,b,c,d,e,f,g]:=by
   match us,hu with
   | [a,b,c,d,e,f,g],_=>exact⟨a,b,c,d,e,f,g,rfl⟩
  simp only[qg]at hl
  obtain⟨m,e,S1,x1,x2,x3,x4,x5⟩:=fc (r:=r) (e1:=e1) (e2:=e2) (e3:=e3) (e5:=e5) (e6:=e6) (e12:=u12) (e13:=u13) hp hq ne (by lia)
  obtain⟨xs',us',S',y1,y2,y3,y4,y5,y6⟩:=Sj (e1:=e1) (e2:=e2) (e3:=e3) (e5:=e5) (e6:=e6) ne (R:=R) (xs:=xs++[(r,m,e)]) (S:=S1) (us:=[Gc (.int r.u),Gc (.int r.k),Gc (.int r.g),Gc (.int r.o),Gc (.int r.n),Gc (.int m),Gc (.int e)]) rfl x4 x3 (by simp;lia) (λx z=>(qW.mp z).elim (ho x) λz=>by rw[qV.mp z];exact x2)
  refine⟨xs',us',S',?_,by rw[y2];simp,y3,y4,y5,λn c z1 z2 z3=>y6 n c (x5 n c z1 z2 z3) z2 z3⟩
  have tn:tTp [tNm 7,tNm 8,tNm 9,tNm 10,tNm 11] r.d ([Gc (.ref p),e1,e2,e3,Gc (.ref q),e5,e6]++[u7,u8,u9,u10,u11,u12,u13]) S=Gc [Gc (.ref p),e1,e2,e3,Gc (.ref q),e5,e6,Gc (.int r.u),Gc (.int r.k),Gc (.int r.g),Gc (.int r.o),Gc (.int r.n),u12,u13]:=rfl
  rw[qS,Bq Ah,tn,Ar,x1,Ar,La]
  exact y1
theorem Qb(hp:Bg p S)(h:Eg t ls ds)(hs:∀d∈ds,Sm d):∃xs S',DA [.ref p,Av t ls ds] S=Gc (Av (tM t.k) [] (mds 0 xs),S')/\Eg (tM t.k) [] (mds 0 xs)/\Bg p S'/\∀n c,S[n]?=Gc c->n≠p->S'[n]?=Gc c:=by
 obtain⟨t1,t2,t3,t4,t5,t6⟩:=id h.tr
 have tk:=h.tok
 obtain⟨q1,S1,e1,a1,s1,l1⟩:=Gq (S:=S++[.lst []]) h
 have hp0:Bg p (S++[.lst []]):=hp.app _
 have hp1:Bg p S1:=by
  obtain⟨pd,pe,ph⟩:=hp0
  exact⟨pd,s1.get pe (by simp),ph⟩
 have hq0:S1[S.length]?=Gc (.lst []):=s1.get qQ (by simp)
 have ne:S.length≠p:=by have:=hp.lt;lia
 obtain⟨rd,S2,e2,a2,b2,p2⟩:=Ad hp1 (n:=4) (by decide) (by decide)
 have hq2:S2[S.length]?=Gc (.lst ((mds 0 []).map AV.d)):=p2.get hq0 ne
 have sv:=bu (S:=S++[.lst []]) (f:=AJ Bl [eV 1]) (E:=[Gc (.ref p),Gc (Av t ls ds),Gc (.int t.k),Gc (tM t.k).d,Gc (.ref S.length),none,none,none,none,none,none,none,none,none]) tk (by simp[e1]) (OR a1)
 obtain⟨n,cf⟩:=ae (R:=srt (tdB t ls ds)) (b:=rd==0)
 have l10:=fC tk
 obtain⟨xs,us,S3,y1,y2,y3,y4,y5,y6⟩:=Sj (p:=p) (q:=S.length) (e1:=Gc (Av t ls ds)) (e2:=Gc (.int t.k)) (e3:=Gc (tM t.k).d) (e5:=Gc (.lst ((srt (tdB t ls ds)).map Trd.d))) (e6:=Gc (.int (((srt (tdB t ls ds)).length:Int)-(if(rd==0)=true then 1 else 0)))) ne (R:=(srt (tdB t ls ds)).take n) (xs:=[]) (S:=S2) (us:=[none,none,none,none,none,none,none]) rfl p2.pen hq2 (by rw[uG];simp;lia) (λ_ z=>nomatch z)
 rw[sG,qU]at y2
 obtain⟨bk,lx⟩:=bM (K:=t.k) ⟨t3,t4⟩ tk (aG h hs) y2 y3
 have ln:=Ny (xs:=xs) (n:=0)
 refine⟨xs,S3,?_,bk,y5,λm c e z=>y6 m c (p2.get (s1.get (Ca.get (A:=[]) .app e (by simp)) (by simp)) z) z (λw=>by have:=Af e;lia)⟩
 have eb:IW=(AU (A4 2 (eIx (eIx (eV 1) (eI 0)) (eI 1)))
  (AU (A4 3 (BL [eI 1,eV 2,eI 1,BL [BL [eI 1,eI 1]],eI 0,eI 0]))
  (AU (A4 4 (HQ []))
  (AU (A4 5 (eSV false (AJ Bl [eV 1])))
  (AU (A4 6 (eOp (o2 MK) [eOp (o1 HP) [eV 5],eOp (o1 YO) [eOp (o2 wEq) [AJ AH [eV 0,eI 4],eI 0]]]))
  (AU (IF (Fp (eOp (Gm false true) [eV 5,eV 6])) (tTp [tNm 7,tNm 8,tNm 9,tNm 10,tNm 11]) miB)
  (BR (BL [eV 3,BL [],eOp (o1 Cj) [eOp (Gm false true) [eV 4,eI 20]]])))))))):=rfl
 have ct:Gx ((mds 0 xs).map AV.d) none (Gc 20)=(mds 0 xs).map AV.d:=by
  rw[show(20:Int)=((20:Nat):Int)from rfl]
  by_cases hh:20<=((mds 0 xs).map AV.d).length
  .rw[Jf hh,uB (by rw[qP];lia)]
  .have h20:((mds 0 xs).map AV.d).length<=20:=by rw[qP];lia
   generalize (mds 0 xs).map AV.d=M at*
   unfold Gx
   simp[HT.sIx]
   exact uB (by lia)
 have d3:=Aq y4
 have et:(tM t.k).d=.tup [.int 1,.int t.k,.int 1,.tup [.tup [.int 1,.int 1]],.int 0,.int 0]:=by
  unfold Tr.d tM shD
  simp[Zf]
 have sz6:(6:Nat)<=sizeLine:=AN (by decide)
 have sz3:(3:Nat)<=sizeLine:=AN (by decide)
 have sz2:(2:Nat)<=sizeLine:=AN (by decide)
 have sz1:(1:Nat)<=sizeLine:=AN (by decide)
 unfold DA
 rw[eb]
 rw[et]at sv y1
 have eD:Av (tM t.k) [] (mds 0 xs)=.tup [.tup [.int 1,.int t.k,.int 1,.tup [.tup [.int 1,.int 1]],.int 0,.int 0],.tup [],.tup ((mds 0 xs).map AV.d)]:=by
  unfold Av
  rw[et];rfl
 rw[eD]
 simp only[rF,qU]at y1
 generalize (mds 0 xs).map AV.d=MD at*
 generalize ((srt (tdB t ls ds)).take n).map Trd.d=TN at*
 have lm:((srt (tdB t ls ds)).map Trd.d).length=(srt (tdB t ls ds)).length:=qP ..
 generalize (srt (tdB t ls ds)).map Trd.d=TS at*
 simp only[Av,Tr.d]at sv y1⊢
 cases hr:(rd==0)with
 |true=>
  rw[hr,qc rfl]at y1 cf
  simp[Tr.d,-QG,sv,e2,lm,hr,cf,y1,d3,ct,sz6,sz3,sz2,sz1]
 |false=>
  rw[hr,qj (by decide),Int.sub_zero]at y1 cf
  simp[Tr.d,-QG,sv,e2,lm,hr,cf,y1,d3,ct,sz6,sz3,sz2,sz1]
end
end Mi
end
noncomputable section
namespace Mi
open PySem PySem.Spec L2 PyProof.Rows
theorem Sn:(D.str "bring").lay=true/\(D.str "pool").lay=true/\(D.str "swap").lay=true/\(D.str "trade").lay=true/\(D.str "spoil").lay=true/\(D.str "throw").lay=true/\(D.str "sell").lay=true:=by decide+kernel
theorem VP{d:AV}:d.d.lay=true:=by
 obtain⟨w1,w2,w3,w4,w5,w6,w7⟩:=Sn
 have hw:∀ws:List Int,(D.tup (ws.map D.int)).lay=true:=λws=>Ey λ_ _=>rfl
 have ha:∀r:Rat,(aD r).lay=true:=λ_=>rfl
 have hi:∀i:Int,(D.int i).lay=true:=λ_=>rfl
 have ht:∀ds:List D,(D.tup ds).lay=D.Km ds:=λ_=>rfl
 have hc:∀(d:D) (ds:List D),D.Km (d::ds)=(d.lay && D.Km ds):=λ_ _=>rfl
 have hn:D.Km []=true:=rfl
 cases d with
 |thr l n ws=>
  have:=hw ws
  generalize hq:D.tup (ws.map D.int)=q at*
  simp only[AV.d,hq,ht,hc,hn,hi,w6,this,Bool.and_self]
 |_=>simp only[AV.d,ht,hc,hn,hi,ha,w1,w2,w3,w4,w5,w7,Bool.and_self]
theorem UL{gs:Gd}{t:Tf}{b:Ex}{I:List D->En->Sto->Prop}{R:D->Sto->Prop}(hg:∀ds E S,I ds E S->gOk gs S):∀{ds:List D} {E:En} {S:Sto},I ds E S->(∀d ds E S,I (d::ds) E S->∃E1,t d E S=Gc E1/\((∃E2 S2,b E1 S=Gc (.nx,E2,S2)/\I ds E2 S2)\/∃w E2 S2,b E1 S=Gc (.ret w,E2,S2)/\R w S2))->(∃E' S',IV gs t b ds E S=Gc (.nx,E',S')/\I [] E' S')\/∃w E' S',IV gs t b ds E S=Gc (.ret w,E',S')/\R w S'
 | [],E,S,hI,h=>.inl ⟨E,S,EI (hg _ _ _ hI),hI⟩
 |d::ds,E,S,hI,h=>by
  obtain⟨E1,e1,⟨E2,S2,e2,I2⟩|⟨w,E2,S2,e2,r⟩⟩:=h d ds E S hI
  .rcases UL hg I2 h with⟨E',S',e3,I3⟩|⟨w,E',S',e3,r⟩
   .exact .inl ⟨E',S',by rw[Bq (hg _ _ _ hI),e1];simp[e2,e3],I3⟩
   .exact .inr ⟨w,E',S',by rw[Bq (hg _ _ _ hI),e1];simp[e2,e3],r⟩
  .exact .inr ⟨w,E2,S2,by rw[Bq (hg _ _ _ hI),e1];simp[e2],r⟩
noncomputable def Jy:AV->qk
 | .B5 .. =>true
 |_=>false
section
variable{S:Sto}{t:Tr}{ls:List Ld}{ds:List AV}{p:Nat}
theorem Rj{E:En}{d:AV}(h:E=[Gc (.str "trade"),Gc d.d]):eOp (o2 wEq) [eIx (eV 1) (eI 0),eV 0] E S=Gc (.bl (Jy d),S):=by
 subst h
 cases d<;>simp[AV.d,Jy]
theorem nP(hl:ds.length<=50):CC [] (tNm 1) (eOp (o2 wEq) [eIx (eV 1) (eI 0),eV 0]) (eV 1) (ds.map AV.d) [] [Gc (.str "trade"),none] S=Gc ((ds.filter Jy).map AV.d,S):=
 DK (gs:=[]) (t:=tNm 1) (c:=eOp (o2 wEq) [eIx (eV 1) (eI 0),eV 0]) (f:=eV 1) (C:=[Gc (.str "trade")]) (m:=1) (e:=AV.d) (g:=AV.d) (b:=Jy) (S:=S) Ah (xs:=ds) (acc:=[]) (os:=[none]) rfl (qD (show _<=50 by simp;lia) (AN (by decide))) (by
  intro z hz os ho
  obtain⟨q1,rfl⟩:=Og ho
  exact⟨[Gc z.d],rfl,by simp,Rj rfl,by simp⟩)
theorem Nn{xs:List D}(h:D.Km xs=true):wNe (.val (.lst xs)) (.val (.lst []))=Gc (.val (.bl (!xs.isEmpty))):=by
 rw[Gu,Y9,Y9,qc (RE h)]
 cases xs<;>rfl
def Bk(p:Nat)(S:Sto)(t:Tr)(ls:List Ld)(ds:List AV)(S':Sto):Prop:=(KY t ls ds/\ds.length<=12/\∀d∈ds,Sm d)/\Bg p S'/\∀n c,S[n]?=Gc c->n≠p->S'[n]?=Gc c
theorem du(h:Bg p S):∃t ls ds S',C3 [.ref p,.int 12] S=Gc (Av t ls ds,S')/\Bk p S t ls ds S':=by
 obtain⟨t,ls,ds,S',a,b,_,c⟩:=WU (M:=12) (by decide) h
 exact⟨t,ls,ds,S',a,b,c⟩
theorem SR(h:Bg p S):∃t ls ds S',C0 [.ref p,.int 12,.str "trade"] S=Gc (Av t ls ds,S')/\Bk p S t ls ds S':=by
 obtain⟨t0,ls0,ds0,S0,e0,b0⟩:=du h
 have r5:Ho 5=true:=C4 (by lia) (by lia)
 have hb:JN=AU (A4 3 (AJ C3 [eV 0,eV 1]))
  (AU (IF (K8 [eI 5]) (tNm 4) (AU (xIf (eOp (o2 wNe) [Cc [2] 1 (Fp (eIx (eV 3) (eI 2))) (tNm 1) (eOp (o2 wEq) [eIx (eV 1) (eI 0),eV 0]) (eV 1),GH []]) (BR (eV 3)) CZ)
  (A4 3 (AJ C3 [eV 0,eV 1]))))
  (BR (eV 3))):=rfl
 rcases UL (gs:=[]) (t:=tNm 4) (b:=AU (xIf (eOp (o2 wNe) [Cc [2] 1 (Fp (eIx (eV 3) (eI 2))) (tNm 1) (eOp (o2 wEq) [eIx (eV 1) (eI 0),eV 0]) (eV 1),GH []]) (BR (eV 3)) CZ)
  (A4 3 (AJ C3 [eV 0,eV 1])))
  (I:=λrs E S'=>∃t ls ds o,E=[Gc (.ref p),Gc (.int 12),Gc (.str "trade"),Gc (Av t ls ds),o]/\Bk p S t ls ds S')
  (R:=λw S'=>∃t ls ds,w=Av t ls ds/\Bk p S t ls ds S')
  (fun _ _ _ _ => Ah) (ds := Kb 0 (5 : Int).toNat) (E := [Gc (.ref p), Gc (.int 12), Gc (.str "trade"), Gc (Av t0 ls0 ds0), none]) (S := S0) ⟨t0, ls0, ds0, none, rfl, b0⟩ (by
    rintro dd rs E T ⟨t,ls,ds,o,rfl,i1,i2,i3⟩
    have c:=nP (S:=T) (ds:=ds) (by lia)
    have nn:=Nn (xs:=(ds.filter Jy).map AV.d) (Ey λ_ _=>VP)
    refine⟨[Gc (.ref p),Gc (.int 12),Gc (.str "trade"),Gc (Av t ls ds),Gc dd],by simp,?_⟩
    generalize (ds.filter Jy).map AV.d=Z at*
    cases hz:Z.isEmpty with
    |true=>
     left
     obtain⟨t1,ls1,ds1,S1,e1,b1,p1,k1⟩:=du i2
     refine⟨[Gc (.ref p),Gc (.int 12),Gc (.str "trade"),Gc (Av t1 ls1 ds1),Gc dd],S1,?_,t1,ls1,ds1,Gc dd,rfl,b1,p1,λn c e ne=>k1 n c (i3 n c e ne) ne⟩
     rw[hz]at nn
     simp[Av,Qf,c,-Gu,nn,e1]
    |false=>
     right
     refine⟨Av t ls ds,[Gc (.ref p),Gc (.int 12),Gc (.str "trade"),Gc (Av t ls ds),Gc dd],T,?_,t,ls,ds,rfl,i1,i2,i3⟩
     rw[hz]at nn
     simp[Av,Qf,c,-Gu,nn])with⟨E',S',ef,t,ls,ds,o,rfl,i⟩|⟨w,E',S',ef,t,ls,ds,rfl,i⟩
 .refine⟨t,ls,ds,S',?_,i⟩
  unfold C0
  rw[hb]
  simp[e0,r5]at ef⊢
  simp[ef]
 .refine⟨t,ls,ds,S',?_,i⟩
  unfold C0
  rw[hb]
  simp[e0,r5]at ef⊢
  simp[ef]
end
structure Wk(S0:Sto)(p s l m:Nat)(as:List Nat)(st:Stt)(S:Sto):Prop where
 pen:Bg p S
 sat:SAt S s l m as st
 np:p∉s::l::m::as
 new:∀n∈s::l::m::as,S0.length<=n
 kept:∀n c,S0[n]?=Gc c->n≠p->S[n]?=Gc c
section
variable{S0 S S':Sto}{t:Tr}{ls:List Ld}{ds:List AV}{p s l m k:Nat}{as:List Nat}{st:Stt}{d:AV}
theorem Wk.pn(h:Wk S0 p s l m as st S)(g:Pn p S S'):Wk S0 p s l m as st S':=
 ⟨g.pen,h.sat.same g.same (by simpa using h.np),h.np,h.new,λn c e ne=>g.get (h.kept n c e ne) ne⟩
theorem Wk.kA(h:Wk S0 p s l m as st S)(ht:Ji t)(i:Fo t k st)(hk:k<=16)(hc:Can t st d):∃S' as',A5 [t.d,.ref s,d.d] S=Gc (.non,S')/\Wk S0 p s l m as' (step t st d) S':=by
 obtain⟨S',as',k1,k2,k3,k4⟩:=ao h.sat ht i hk hc
 have lS:S0.length<=S.length:=sF (rR (h.new s qH) (Af h.sat.root))
 have mem:∀n∈s::l::m::as',n∈s::l::m::as\/S.length<=n:=by
  intro n hn
  simp only[qA]at hn⊢
  rcases hn with z|z|z|z
  .exact .inl (.inl z)
  .exact .inl (.inr (.inl z))
  .exact .inl (.inr (.inr (.inl z)))
  .exact(k4 n z).imp (λw=>.inr (.inr (.inr w))) id
 refine⟨S',as',k1,?_,k2,λz=>?_,λn z=>?_,λn c e ne=>k3.get (h.kept n c e ne) λz=>?_⟩
 .obtain⟨pd,pe,ph⟩:=h.pen
  exact⟨pd,k3.get pe h.np,ph⟩
 .rcases mem _ z with w|w
  .exact h.np w
  .have:=h.pen.lt;lia
 .rcases mem _ z with w|w
  .exact h.new n w
  .exact qD lS w
 .have:=h.new n z
  have:=Af e
  lia
theorem Y0{x0 x1 x3 x4:pY D}{os:En}(ht:Ji t):∀{ds:List AV} {st:Stt} {k:Nat} {as:List Nat} {S:Sto} {o:pY D},Wk S0 p s l m as st S->Fo t k st->HY t st ds->k+ds.length<=16->∃o' as' S',IV [] (tNm 6) (Cb (AJ A5 [eV 2,eV 5,eV 6])) (ds.map AV.d) ([x0,x1,Gc t.d,x3,x4,Gc (.ref s),o]++os) S=Gc (.nx,[x0,x1,Gc t.d,x3,x4,Gc (.ref s),o']++os,S')/\Wk S0 p s l m as' (runs t st ds) S'
 | [],st,k,as,S,o,w,i,g,h=>⟨o,as,S,by rw[sG,EI Ah],w⟩
 |d::ds,st,k,as,S,o,w,i,g,h=>by
  simp only[qg]at h
  obtain⟨S1,as1,e1,w1⟩:=w.kA ht i (by lia) g.1
  obtain⟨o',as',S',e2,w2⟩:=Y0 (x0:=x0) (x1:=x1) (x3:=x3) (x4:=x4) (os:=os) ht (ds:=ds) (o:=Gc d.d) w1 (Qm ht i (by lia) g.1) g.2 (by lia)
  refine⟨o',as',S',?_,w2⟩
  rw[qS,Bq Ah]
  simp[e1]at e2⊢
  exact e2
end
end Mi
end
noncomputable section
namespace Mi
open PySem PySem.Spec L2 PyProof.Rows
section
variable{S0 S S':Sto}{t:Tr}{ls:List Ld}{ds:List AV}{p s l m k:Nat}{as:List Nat}{st:Stt}{d:AV}
noncomputable def Er(st:Stt):List Nat:=(qR 6).filter λi=> !(st.nums.any λu=>u==(i:Int))
theorem Wb(hS:SAt S s l m as st):CC [] (tNm 1) (eOp (o2 (wIn true)) [eV 1,eIx (eV 0) (eI 2)]) (eV 1) (Kb 0 6) [] [Gc (.ref s),none] S=Gc (Bi (Er st),S):=by
 exact DK (gs:=[]) (t:=tNm 1) (f:=eV 1) (C:=[Gc (.ref s)]) (m:=1) (e:=λi:Nat=>D.int (0+(i:Int))) (g:=λi:Nat=>D.int i) (b:=λi=> !(st.nums.any λu=>u==(i:Int))) (S:=S) Ah (xs:=qR 6) (acc:=[]) (os:=[none]) rfl (qD (show _<=50 by simp) (AN (by decide))) (by
  intro i hi os ho
  obtain⟨o1,rfl⟩:=Og ho
  refine⟨[Gc (.int i)],rfl,by simp,?_,by simp⟩
  have ro:=Aq hS.root
  have nu:=Aq hS.nu
  have fi:=L9 (us:=st.nums)
  have ii:=OJ (us:=st.nums) (i:=(i:Int))
  generalize st.nums.map D.int=ud at*
  generalize (st.nums.any λu=>u==(i:Int))=bb at*
  simp[ro,nu,fi,ii])
theorem UO{i:Nat}(h:i∈Er st):(i:Int)∉st.nums/\i<=9:=by
 unfold Er at h
 rw[se]at h
 have h1:=uu.mp h.1
 refine⟨?_,by lia⟩
 intro z
 have h2:=h.2
 have:(st.nums.any λu=>u==(i:Int))=true:=uI.mpr ⟨_,z,by simp⟩
 rw[this]at h2
 cases h2
theorem T4:(Er st).length<=6:=by
 unfold Er
 exact qD (uV _ _) (by simp)
def trT:Ex:=(AU (A4 10 (eIx (eV 9) (AJ AH [eV 0,eOp (o1 HP) [eV 9]])))
    (AU (A4 11 (eOp (o2 P2) [eOp (o2 Be) [eOp (o2 Be) [eIx (eIx (eIx (eV 5) (eI 0)) (eV 10)) (eI 0),eI 1],AJ AH [eV 0,eOp (o2 MK) [eIx (eV 2) (eI 1),eI 1]]],eIx (eV 2) (eI 1)]))
    (AU (A4 12 (eIx (eV 8) (AJ AH [eV 0,eOp (o1 HP) [eV 8]])))
    (AU (A4 13 (eOp (o2 Be) [eI 1,AJ AH [eV 0,eOp (o2 Y6) [eI 4,eIx (eIx (eIx (eV 5) (eI 0)) (eV 10)) (eI 1)]]]))
    (A4 6 (BL [eC (.str "trade"),eV 12,eV 10,eV 13,eV 11,eOp (o2 Be) [eI 1,AJ AH [eV 0,eI 4]]]))))))
def trB:Ex:=(AU (A4 8 (Cc [5] 1 (K8 [eI 6]) (tNm 1) (eOp (o2 (wIn true)) [eV 1,eIx (eV 0) (eI 2)]) (eV 1)))
    (AU (A4 9 (Cc [] 2 (Zx (eIx (eV 5) (eI 0))) (tTp [tNm 0,tNm 1]) (eOp (o2 wGt) [eIx (eV 1) (eI 1),eI 0]) (eV 0)))
    (AU (A4 6 (BL [eC (.str "bring"),eI 0,AJ AH [eV 0,eIx (eV 2) (eI 1)],eOp (o2 Be) [eI 5,AJ AH [eV 0,eI 9]]]))
    (AU (xIf (GG (eOp (o2 wNe) [eV 9,GH []]) (eOp (o2 wNe) [eV 8,GH []])) trT CZ)
    (AU (Cb (AJ A5 [eV 2,eV 5,eV 6]))
    (A4 4 (eOp (o2 Be) [eV 4,BL [eV 6]])))))))
theorem fo{x1 x3 x4 x6 x7 x10 x11 x12 x13:pY D}(w:Wk S0 p s l m as st S)(ht:Ji t)(h2:2<=t.k)(inv:Fo t k st)(hk:k<=16)(hf:(A6 st).isEmpty=false)(hl:(Er st).isEmpty=false):∃d y10 y11 y12 y13 S',trT [Gc (.ref p),x1,Gc t.d,x3,x4,Gc (.ref s),x6,x7,Gc (.lst (Bi (Er st))),Gc (.lst (Bi (A6 st))),x10,x11,x12,x13] S=Gc (.nx,[Gc (.ref p),x1,Gc t.d,x3,x4,Gc (.ref s),Gc (AV.d d),x7,Gc (.lst (Bi (Er st))),Gc (.lst (Bi (A6 st))),y10,y11,y12,y13],S')/\Can t st d/\Sm d/\Wk S0 p s l m as st S':=by
 obtain⟨t1,t2,t3,t4,t5,t6⟩:=ht
 have hlen:=inv.len
 have fl:=Kt (st:=st)
 have ll:=T4 (st:=st)
 have nf:=GL (is:=A6 st)
 have nl:=GL (is:=Er st)
 have hfl:0<(A6 st).length:=by
  cases z:A6 st with
  |nil=>rw[z]at hf;cases hf
  |cons a b=>simp
 have hll:0<(Er st).length:=by
  cases z:Er st with
  |nil=>rw[z]at hl;cases hl
  |cons a b=>simp
 obtain⟨r1,S1,e1,a1,b1,p1⟩:=Ad w.pen (n:=(A6 st).length) (by lia) (by lia)
 have w1:=w.pn p1
 obtain⟨i,mi,ei⟩:=HW a1 b1
 have fi:=Jg mi
 have n1:=fi.2
 obtain⟨a,y1,y2,y3⟩:=w1.sat.at fi.1
 obtain⟨r2,S2,e2,a2,b2,p2⟩:=Ad w1.pen (n:=(t.k:Int)-1) (by lia) (by lia)
 have w2:=w1.pn p2
 obtain⟨r3,S3,e3,a3,b3,p3⟩:=Ad w2.pen (n:=(Er st).length) (by lia) (by lia)
 have w3:=w2.pn p3
 obtain⟨u,mu,eu⟩:=HW a3 b3
 have fu:=UO mu
 obtain⟨r4,S4,e4,a4,b4,p4⟩:=Ad w3.pen (n:=if(AQ st.AF i).n<4 then(AQ st.AF i).n else 4) (by split<;>lia) (by split<;>lia)
 have w4:=w3.pn p4
 obtain⟨r5,S5,e5,a5,b5,p5⟩:=Ad w4.pen (n:=4) (by lia) (by lia)
 have w5:=w4.pn p5
 have kd:=inv.kind _ (BG fi.1)
 have hmod:=Qj (x:=((AQ st.AF i).k:Int)+1+r2) (K:=t.k) (by lia) (by lia)
 obtain⟨kd2,ekd⟩:∃q:Nat,((AQ st.AF i).k+1+r2) % (t.k:Int)=(q:Int):=⟨_,(rJ (tz _ (by lia))).symm⟩
 have hkd:kd2<t.k/\kd2≠(AQ st.AF i).k:=by
  rw[ekd]at hmod
  split at hmod<;>lia
 have kp:0<t.k:=by lia
 have g4:1+r4<=4/\1+r4<=(AQ st.AF i).n:=by split at b4<;>lia
 have big:(1:Int)+r5<2^130:=tK (show 1+r5<5 by lia) (by decide)
 refine⟨.B5 u i (1+r4) kd2 (1+r5),Gc (.int i),Gc (.int kd2),Gc (.int u),Gc (.int (1+r4)),S5,?_,⟨fi.1,by lia,g4.2,hkd.1,hkd.2,by lia,tK big (by decide),fu.1,by lia,by lia⟩,⟨by lia,big⟩,w5⟩
 have ro1:=Aq w1.sat.root
 have lo1:=Aq w1.sat.lo
 have la1:=Aq y2
 obtain⟨a',z1,z2,z3⟩:=w3.sat.at fi.1
 obtain rfl:a'=a:=by rw[y1]at z1;injection z1 with z1;exact z1.symm
 have sz6:(6:Nat)<=sizeLine:=AN (by decide)
 have ro3:=Aq w3.sat.root
 have lo3:=Aq w3.sat.lo
 have la3:=Aq z2
 generalize Bi (A6 st)=NF at*
 generalize Bi (Er st)=NL at*
 simp[trT,Tr.d,nf,e1,ei,ro1,lo1,y3,la1,e2,kp,ekd,nl,e3,eu,ro3,lo3,z3,la3,e4,e5,sz6,AV.d]
theorem W7{x1:pY D}{os:En}(w:Wk S0 p s l m as st S)(ht:Ji t):∃d S',BL [eC (.str "bring"),eI 0,AJ AH [eV 0,eIx (eV 2) (eI 1)],eOp (o2 Be) [eI 5,AJ AH [eV 0,eI 9]]] (Gc (.ref p)::x1::Gc t.d::os) S=Gc (AV.d d,S')/\Can t st d/\Sm d/\Wk S0 p s l m as st S':=by
 obtain⟨t1,t2,t3,t4,t5,t6⟩:=ht
 obtain⟨r1,S1,e1,a1,b1,p1⟩:=Ad w.pen (n:=t.k) (by lia) (by lia)
 obtain⟨r2,S2,e2,a2,b2,p2⟩:=Ad p1.pen (n:=9) (by lia) (by lia)
 obtain⟨r1,rfl⟩:=Eu a1
 have sz4:(4:Nat)<=sizeLine:=AN (by decide)
 refine⟨.D4 0 r1 (5+r2),S2,?_,⟨by lia,by lia,by lia,tK (show 5+r2<15 by lia) (by decide)⟩,trivial,(w.pn p1).pn p2⟩
 simp[Tr.d,e1,e2,sz4,AV.d]
theorem dw{x1 x3:pY D}{DS:List D}{o6 o7 o8 o9 o10 o11 o12 o13:pY D}(w:Wk S0 p s l m as st S)(ht:Ji t)(h2:2<=t.k)(inv:Fo t k st)(hk:k<=16)(hD:DS.length<=30):∃d us S' as',trB [Gc (.ref p),x1,Gc t.d,x3,Gc (.tup DS),Gc (.ref s),o6,o7,o8,o9,o10,o11,o12,o13] S=Gc (.nx,[Gc (.ref p),x1,Gc t.d,x3,Gc (.tup (DS++[AV.d d])),Gc (.ref s)]++us,S')/\us.length=8/\Can t st d/\Sm d/\Wk S0 p s l m as' (step t st d) S':=by
 have hlen:=inv.len
 have cl:=Wb w.sat
 have cf:=Uh w.sat (by lia)
 have ro:=Aq w.sat.root
 have r0:=Dv w.sat.lo
 have r6:Ho 6=true:=C4 (by decide) (by decide)
 have szD:DS.length+1<=sizeLine:=qD (show _<=50 by lia) (AN (by decide))
 have sz1:(1:Nat)<=sizeLine:=AN (by decide)
 obtain⟨d1,S1,e1,c1,m1,w1⟩:=W7 (x1:=x1) (os:=[x3,Gc (.tup DS),Gc (.ref s),o6,o7,Gc (.lst (Bi (Er st))),Gc (.lst (Bi (A6 st))),o10,o11,o12,o13]) w ht
 have nL:=Nn (xs:=Bi (Er st)) (Ey λ_ _=>rfl)
 have nF:=Nn (xs:=Bi (A6 st)) (Ey λ_ _=>rfl)
 have iL:(Bi (Er st)).isEmpty=(Er st).isEmpty:=by simp[Bi]
 have iF:(Bi (A6 st)).isEmpty=(A6 st).isEmpty:=by simp[Bi]
 rw[iL]at nL
 rw[iF]at nF
 by_cases hb:(A6 st).isEmpty=false/\(Er st).isEmpty=false
 .obtain⟨d,y10,y11,y12,y13,S2,e2,c2,m2,w2⟩:=fo (x1:=x1) (x3:=x3) (x4:=Gc (.tup DS)) (x6:=Gc d1.d) (x7:=o7) (x10:=o10) (x11:=o11) (x12:=o12) (x13:=o13) w1 ht h2 inv hk hb.1 hb.2
  obtain⟨S3,as3,e3,w3⟩:=w2.kA ht inv hk c2
  refine⟨d,[Gc d.d,o7,Gc (.lst (Bi (Er st))),Gc (.lst (Bi (A6 st))),y10,y11,y12,y13],S3,as3,?_,rfl,c2,m2,w3⟩
  rw[hb.1]at nF
  rw[hb.2]at nL
  generalize Bi (A6 st)=NF at*
  generalize Bi (Er st)=NL at*
  generalize d.d=dd at*
  generalize t.d=td at*
  simp[trB,Qf,ro,r0,r6,cl,cf,-RT,e1,-Gu,nF,nL,e2,e3]
  simp[szD,sz1]
 .obtain⟨S3,as3,e3,w3⟩:=w1.kA ht inv hk c1
  refine⟨d1,[Gc d1.d,o7,Gc (.lst (Bi (Er st))),Gc (.lst (Bi (A6 st))),o10,o11,o12,o13],S3,as3,?_,rfl,c1,m1,w3⟩
  have na:∀(E:En) (T:Sto),GG (eOp (o2 wNe) [eV 9,GH []]) (eOp (o2 wNe) [eV 8,GH []]) [Gc (.ref p),x1,Gc t.d,x3,Gc (.tup DS),Gc (.ref s),Gc d1.d,o7,Gc (.lst (Bi (Er st))),Gc (.lst (Bi (A6 st))),o10,o11,o12,o13] T=Gc (.bl false,T):=by
   intro E T
   cases zF:(A6 st).isEmpty with
   |true=>
    rw[zF]at nF
    simp[-Gu,nF]
   |false=>
    have zL:(Er st).isEmpty=true:=by
     cases z:(Er st).isEmpty with
     |true=>rfl
     |false=>exact absurd ⟨zF,z⟩ hb
    rw[zF]at nF
    rw[zL]at nL
    simp[-Gu,nF,nL]
  have na:=na []
  clear nF nL iL iF hb
  generalize Bi (A6 st)=NF at*
  generalize Bi (Er st)=NL at*
  generalize d1.d=dd at*
  generalize t.d=td at*
  simp[trB,Qf,ro,r0,r6,cl,cf,-RT,e1,-YU,na,e3]
  simp[szD,sz1]
end
end Mi
end
noncomputable section
namespace Mi
open PySem PySem.Spec L2 PyProof.Rows
section
variable{S0 S S':Sto}{t:Tr}{ls:List Ld}{ds:List AV}{p s l m k:Nat}{as:List Nat}{st:Stt}{d:AV}
theorem TF{x1 x3:pY D}(ht:Ji t)(h2:2<=t.k)(i0:Fo t 0 (st0 t ls)):∀{rs:List D} {ds:List AV} {as:List Nat} {S:Sto} {us:En},us.length=8->Wk S0 p s l m as (runs t (st0 t ls) ds) S->HY t (st0 t ls) ds->(∀d∈ds,Sm d)->ds.length+rs.length<=16->∃ds' us' as' S',IV [] (tNm 7) trB rs ([Gc (.ref p),x1,Gc t.d,x3,Gc (.tup (ds.map AV.d)),Gc (.ref s)]++us) S=Gc (.nx,[Gc (.ref p),x1,Gc t.d,x3,Gc (.tup (ds'.map AV.d)),Gc (.ref s)]++us',S')/\us'.length=8/\Wk S0 p s l m as' (runs t (st0 t ls) ds') S'/\HY t (st0 t ls) ds'/\(∀d∈ds',Sm d)/\ds'.length<=16
 | [],ds,as,S,us,hu,w,g,hm,hl=>⟨ds,us,as,S,by rw[EI Ah],hu,w,g,hm,by simpa using hl⟩
 |r::rs,ds,as,S,us,hu,w,g,hm,hl=>by
  obtain⟨u6,u7,u8,u9,u10,u11,u12,u13,rfl⟩:∃a b c d e f g h,us=[a,b,c,d,e,f,g,h]:=by
   match us,hu with
   | [a,b,c,d,e,f,g,h],_=>exact⟨a,b,c,d,e,f,g,h,rfl⟩
  simp only[qg]at hl
  have inv:=K9 ht i0 g (by lia)
  rw[xI]at inv
  obtain⟨d,us1,S1,as1,e1,l1,c1,m1,w1⟩:=dw (x1:=x1) (x3:=x3) (DS:=ds.map AV.d) (o6:=u6) (o7:=Gc r) (o8:=u8) (o9:=u9) (o10:=u10) (o11:=u11) (o12:=u12) (o13:=u13) w ht h2 inv (by lia) (by rw[qP];lia)
  have ed:ds.map AV.d++[d.d]=(ds++[d]).map AV.d:=by simp
  rw[ed]at e1
  rw[<-LS]at w1
  obtain⟨ds',us',as',S',e2,r2⟩:=TF (x1:=x1) (x3:=x3) ht h2 i0 (rs:=rs) (ds:=ds++[d]) (us:=us1) l1 w1 (Jk g c1) (λx hx=>(qW.mp hx).elim (hm x) λz=>by rw[qV.mp z];exact m1) (by simp;lia)
  refine⟨ds',us',as',S',?_,r2⟩
  have tn:tNm 7 r ([Gc (.ref p),x1,Gc t.d,x3,Gc (.tup (ds.map AV.d)),Gc (.ref s)]++[u6,u7,u8,u9,u10,u11,u12,u13]) S=Gc [Gc (.ref p),x1,Gc t.d,x3,Gc (.tup (ds.map AV.d)),Gc (.ref s),u6,Gc r,u8,u9,u10,u11,u12,u13]:=rfl
  rw[Bq Ah,tn,Ar,e1,Ar,La]
  exact e2
def trR:Ex:=(AU (A4 5 (AJ Cv [BL [eV 2,eV 3,BL []]]))
    (AU (IF (Fp (eV 4)) (tNm 6) (Cb (AJ A5 [eV 2,eV 5,eV 6])))
    (AU (IF (K8 [AJ AH [eV 0,eI 5]]) (tNm 7) trB)
    (BR (BL [eV 2,eV 3,eV 4])))))
def Tg(p:Nat)(S:Sto)(t:Tr)(ls:List Ld)(ds:List AV)(S':Sto):Prop:=(KY t ls ds/\∀d∈ds,Sm d)/\Bg p S'/\∀n c,S[n]?=Gc c->n≠p->S'[n]?=Gc c
theorem Yn{x1:pY D}(hp:Bg p S)(h:KY t ls ds)(h2:2<=t.k)(hl:ds.length<=12)(hm:∀d∈ds,Sm d):∃ds' E' S',trR [Gc (.ref p),x1,Gc t.d,Gc (.tup (ls.map Ld.d)),Gc (.tup (ds.map AV.d)),none,none,none,none,none,none,none,none,none] S=Gc (.ret (Av t ls ds'),E',S')/\Tg p S t ls ds' S':=by
 have few:=h.inv.len
 obtain⟨s,l,m,as,S1,e1,a1,s1,n1⟩:=OF (S:=S) (t:=t) (ls:=ls) (x:=.tup []) (by simpa[st0]using qD few (by decide))
 have w1:Wk S p s l m as (st0 t ls) S1:=by
  refine⟨?_,a1,λz=>by have:=n1 p z;have:=hp.lt;lia,n1,λn c e _=>s1.get e (by simp)⟩
  obtain⟨pd,pe,ph⟩:=hp
  exact⟨pd,s1.get pe (by simp),ph⟩
 obtain⟨o6,as2,S2,e2,w2⟩:=Y0 (x0:=Gc (.ref p)) (x1:=x1) (x3:=Gc (.tup (ls.map Ld.d))) (x4:=Gc (.tup (ds.map AV.d))) (os:=[none,none,none,none,none,none,none]) (o:=none) h.tr w1 h.inv h.good (by lia)
 obtain⟨r,S3,e3,a3,b3,p3⟩:=Ad w2.pen (n:=5) (by decide) (by decide)
 obtain⟨r,rfl⟩:=Eu a3
 have rk:Ho (r:Int)=true:=C4 (by lia) (by lia)
 obtain⟨ds',us,as',S4,e4,_,w4,g4,m4,l4⟩:=TF (x1:=x1) (x3:=Gc (.tup (ls.map Ld.d))) h.tr h2 h.inv (rs:=Kb 0 r) (us:=[o6,none,none,none,none,none,none,none]) rfl (w2.pn p3) h.good hm (by rw[FA];lia)
 have sz3:(3:Nat)<=sizeLine:=AN (by decide)
 refine⟨ds',[Gc (.ref p),x1,Gc t.d,Gc (.tup (ls.map Ld.d)),Gc (.tup (ds'.map AV.d)),Gc (.ref s)]++us,S4,?_,⟨⟨h.tr,h.inv,g4,l4⟩,m4⟩,w4.pen,w4.kept⟩
 simp only[rF,qU]at e2 e4
 unfold Av
 generalize ds'.map AV.d=DN at*
 generalize ds.map AV.d=DO at*
 generalize ls.map Ld.d=LL at*
 generalize t.d=td at*
 simp[trR,e1,e2,e3,rk,e4,sz3]
theorem br(h:Fo t 0 (st0 t ls)):Fo {t with k:=2} 0 (st0 {t with k:=2} []):=by
 obtain⟨G,B,a,b,c,_,e⟩:=h.gb
 exact⟨rS _,(λ_ z=>nomatch z),(λ_ z=>nomatch z),(λ_ z=>nomatch z),h.hold,rS _,G,B,a,b,c,(λ_ z=>nomatch z),e⟩
theorem NX(hp:Bg p S):∃t ls ds S',B2 [.ref p] S=Gc (Av t ls ds,S')/\Tg p S t ls ds S':=by
 obtain⟨t,ls,ds,S1,e1,⟨b1,l1,m1⟩,p1,k1⟩:=SR hp
 have eb:JI=(AU (A4 1 (AJ C0 [eV 0,eI 12,eC (.str "trade")]))
  (AU (Nz (tTp [tNm 2,tNm 3,tNm 4]) (eV 1))
  (AU (xIf (eOp (o2 wEq) [eIx (eV 2) (eI 1),eI 1]) (AU (A4 2 (eOp (o2 Be) [BL [eIx (eV 2) (eI 0),eI 2],eOp (Gm true false) [eV 2,eI 2]]))
  (Nz (tTp [tNm 3,tNm 4]) (BL [BL [],BL []]))) CZ) trR))):=rfl
 obtain⟨t1,t2,t3,t4,t5,t6⟩:=b1.tr
 have sz2:(2:Nat)<=sizeLine:=AN (by decide)
 have sz6:(6:Nat)<=sizeLine:=AN (by decide)
 by_cases hk:t.k=1
 .obtain⟨ds',E',S',e2,g,p2,k2⟩:=Yn (p:=p) (S:=S1) (t:={t with k:=2}) (ls:=[]) (ds:=[]) (x1:=Gc (Av t ls ds)) p1 ⟨⟨t1,t2,by show 1<=2;lia,by show 2<=5;lia,t5,t6⟩,br b1.inv,trivial,by simp⟩ (by show 2<=2;lia) (by simp) (λ_ z=>nomatch z)
  refine⟨{t with k:=2},[],ds',S',?_,g,p2,λn c e z=>k2 n c (k1 n c e z) z⟩
  unfold B2
  rw[eb]
  have hk':(t.k:Int)=1:=by rw[hk];rfl
  have c2:∀a b c d e f:D,Gx [a,b,c,d,e,f] (Gc 2) none=[c,d,e,f]:=λ_ _ _ _ _ _=>rfl
  generalize Av {t with k:=2} [] ds'=R at*
  simp[Av,Tr.d,hk']at e1 e2
  simp[Av,e1,Tr.d,hk',c2,e2,sz2,sz6]
 .obtain⟨ds',E',S',e2,g,p2,k2⟩:=Yn (p:=p) (S:=S1) (x1:=Gc (Av t ls ds)) p1 b1 (by lia) l1 m1
  refine⟨t,ls,ds',S',?_,g,p2,λn c e z=>k2 n c (k1 n c e z) z⟩
  unfold B2
  rw[eb]
  have hk':((t.k:Int)==1)=false:=by simp;lia
  generalize Av t ls ds'=R at*
  simp[Av,Tr.d]at e1 e2
  simp[Av,e1,Tr.d,hk',e2]
end
end Mi
end
noncomputable section
namespace Mi
open PySem PySem.Spec L2
theorem X2{n:Nat}:F2 (n+1)=BE (BH 2 (F5 (Cy n))):=rfl
theorem P6{n:Nat}:Cy (n+1)=BE (BH 2 (Dc (F2 n))):=rfl
section
variable{S:Sto}
end
inductive Th:D->Prop
 |non:Th .non
 |bl (b:qk):Th (.bl b)
 |int (i:Int):Th (.int i)
 |str (x:Str) (h:sD x=true):Th (.str x)
 |tup {ds:List D} (h:∀d∈ds,Th d) (l:ds.length<=1000):Th (.tup ds)
 |lst {ds:List D} (h:∀d∈ds,Th d) (l:ds.length<=1000):Th (.lst ds)
 |dct (kvs:List (Key×D)):Th (.dct kvs)
mutual
noncomputable def jn(x:D):D->qk
 | .int j=>match x with
   | .int i=>i==j
   |_=>false
 | .tup ts=>match x with
   | .tup xs=>ag xs ts
   |_=>false
 | .lst ts=>match x with
   | .lst xs=>ag xs ts
   |_=>false
 |_=>false
noncomputable def ag:List D->List D->qk
 | [],[]=>true
 |x::xs,t::ts=>jn x t && ag xs ts
 |_,_=>false
end
def As(w:Wv)(d:D):Prop:=w=.val d\/∃ds,d=.lst ds/\w=.own ds
theorem As.fz{w:Wv}{d:D}(h:As w d):fz w=d:=by
 rcases h with rfl|⟨ds,rfl,rfl⟩<;>rfl
theorem As.kd{w:Wv}{d:D}(h:As w d):kdW w=kdW (.val d):=by
 rcases h with rfl|⟨ds,rfl,rfl⟩<;>rfl
theorem As.len{w:Wv}{d:D}{xs:List D}(h:As w d)(e:d=.tup xs\/d=.lst xs):HP w=Gc (.val (.int xs.length))/\asS w=Gc xs:=by
 rcases h with rfl|⟨ds,rfl,rfl⟩
 .rcases e with rfl|rfl<;>exact⟨rfl,rfl⟩
 .rcases e with e|e
  .cases e
  .cases e;exact⟨rfl,rfl⟩
structure Thg(S:Sto)(X x:D):Prop where
 th:Th x
 as:As (dr S X) x
 sq:∀xs,(x=.tup xs\/x=.lst xs)->∃gs,sqD S X=Gc (xs,gs)/\gOk gs S
section
variable{S:Sto}
theorem Th.dr{x:D}(h:Th x):dr S x=.val x:=by cases h<;>rfl
theorem Thg.plain{x:D}(h:Th x):Thg S x x:=⟨h,.inl h.dr,λxs e=>by
 rcases e with rfl|rfl<;>exact⟨[],rfl,Ah⟩⟩
@[simp] theorem mW:kdW (.val .non)=some .non:=nr rfl
@[simp] theorem oZ{b:Bool}:kdW (.val (.bl b))=some .bl:=nr rfl
@[simp] theorem mX{i:Int}:kdW (.val (.int i))=some .int:=nr rfl
@[simp] theorem lU{x:Str}:kdW (.val (.str x))=some .str:=nr rfl
@[simp] theorem mK{ds:List D}:kdW (.val (.tup ds))=some .tup:=nr rfl
@[simp] theorem mU{ds:List D}:kdW (.val (.lst ds))=some .lst:=nr rfl
@[simp] theorem lX{ds:List (Key×D)}:kdW (.val (.dct ds))=some .dct:=nr rfl
end
def TpN:Nat->D->Prop
 |0,_=>ur
 |_+1,.int _=>yu
 |_+1,.non=>yu
 |m+1,.tup ds=>ds.length<=1000/\∀d∈ds,TpN m d
 |_+1,_=>ur
theorem TpN.th:∀{m:Nat} {d:D},TpN m d->Th d
 |_+1,.int _,_=>.int _
 |_+1,.non,_=>.non
 |_+1,.tup _,h=>.tup (λd hd=>TpN.th (h.2 d hd)) h.1
mutual
noncomputable def C1(x:D):D->qk
 | .int j=>match x with
   | .int i=>i==j
   |_=>false
 | .non=>match x with
   | .non=>true
   |_=>false
 | .tup ts=>match x with
   | .tup xs=>Ed xs ts
   |_=>false
 |_=>false
noncomputable def Ed:List D->List D->qk
 | [],[]=>true
 |x::xs,t::ts=>C1 x t && Ed xs ts
 |_,_=>false
end
theorem NQ:∀{xs ts:List D},Ed xs ts=true->xs.length=ts.length
 | [],[],_=>rfl
 |x::xs,t::ts,h=>by
  have h:(C1 x t && Ed xs ts)=true:=by simpa[Ed]using h
  rw[qO]at h
  simp[NQ h.2]
 | [],_::_,h=>by simp[Ed]at h
 |_::_,[],h=>by simp[Ed]at h
section
variable{S:Sto}
theorem Q2{α:Type}{p:α->qk}{xs:List α}:((bls (xs.map λx=>D.bl (p x))).map λbs=>Wv.val (.bl (bs.all id)))=Gc (.val (.bl (xs.all p))):=by
 rw[QU p]
 simp[yd]
theorem KW:∀{xs ts:List D},xs.length=ts.length->Ed xs ts=(qR xs.length).all λi=>C1 (xs.getD i .non) (ts.getD i .non)
 | [],[],_=>by simp[Ed]
 |x::xs,t::ts,h=>by
  have ih:=KW (xs:=xs) (ts:=ts) (by simpa using h)
  rw[qg,wM,uF,yd]
  simp only[Ed,ih]
  rfl
 | [],_::_,h=>by simp at h
 |_::_,[],h=>by simp at h
theorem Pu{xs ts:List D}(h:¬xs.length=ts.length):Ed xs ts=false:=by
 cases e:Ed xs ts with
 |false=>rfl
 |true=>exact absurd (NQ e) h
theorem W5{n:Nat}{ts xs:List D}{X TT x T:D}(gx:Thg S X x)(gT:Thg S TT T)(ex:x=.tup xs\/x=.lst xs)(eT:T=.tup ts\/T=.lst ts)(lx:xs.length<=1000)(ih:∀(i:Nat) (h1:i<xs.length) (h2:i<ts.length),Cy n [xs[i],ts[i]] S=Gc (.bl (C1 xs[i] ts[i]),S)):F2 (n+1) [X,TT] S=Gc (.bl (Ed xs ts),S):=by
 obtain⟨gs,e1,e2⟩:=gx.sq xs ex
 obtain⟨e3,e4⟩:=gx.as.len ex
 obtain⟨e5,e6⟩:=gT.as.len eT
 rw[X2]
 by_cases hlen:xs.length=ts.length
 .have c:=DU (gs:=gs) (t:=tTp [tNm 1,tNm 2]) (f:=AJ (Cy n) [eV 2,eOp (o2 wIx) [eV 0,eV 1]]) (C:=[Gc TT]) (m:=2) (e:=λ(i:Nat)=>D.tup [.int i,xs.getD i .non]) (g:=λi=>D.bl (C1 (xs.getD i .non) (ts.getD i .non))) (S:=S) e2 (xs:=qR xs.length) (acc:=[]) (os:=[none,none]) rfl (AN (by simpa using lx)) (by
   intro i hi os ho
   match os,ho with
   | [a,b],_=>
   have hi':i<xs.length:=by simpa using hi
   have hi2:i<ts.length:=by lia
   have eg:xs.getD i .non=xs[i]:=by rw[qJ,pf hi'];rfl
   have eg2:ts.getD i .non=ts[i]:=by rw[qJ,pf hi2];rfl
   have a:=C9 (pf hi2)
   have hs:=ih i hi' hi2
   refine⟨[Gc (.int i),Gc xs[i]],rfl,by rw[eg];simp,?_⟩
   rw[eg,eg2]
   simp[e6,a,hs])
  rw[<-L7]at c
  simp only[qU,rF]at c
  have al:=KW hlen
  have bb:=Q2 (p:=λi=>C1 (xs.getD i .non) (ts.getD i .non)) (xs:=qR xs.length)
  rw[<-al]at bb
  generalize (qR xs.length).map (λi=>D.bl (C1 (xs.getD i .non) (ts.getD i .non)))=BB at*
  simp[F5,e3,e5,hlen,e1,c,bb]
 .have hl:¬(xs.length:Int)=ts.length:=by lia
  have hb:((xs.length:Int)==ts.length)=false:=by simpa using hl
  rw[Pu hlen]
  simp[F5,e3,e5,hb]
theorem SA{X x:D}(g:Thg S X x):F3 [X] S=Gc (.bl (match x with| .int _=>true|_=>false),S):=by
 have kx:=g.as.kd
 have th:=g.th
 cases th with
 |_=>simp[F3,J2,kx,St.Kd.isA]
theorem aK{w:Wv}{x:D}(h:Th x)(a:As w x):isN w=match x with| .non=>true|_=>false:=by
 rcases a with rfl|⟨L,rfl,rfl⟩
 .cases h<;>rfl
 .rfl
theorem Ze:∀{m:Nat} {T:D},TpN m T->∀{n:Nat} {X x:D},2*m<=n->Thg S X x->Cy n [X,T] S=Gc (.bl (C1 x T),S)
 |0,T,h,_,_,_,_,_=>by cases T<;>exact h.elim
 |m+1,.int j,h,n,X,x,hn,g=>by
  obtain⟨n',rfl⟩:∃n',n=n'+1:=⟨n-1,by lia⟩
  have fx:=g.as.fz
  have th:=g.th
  have w:=SA g
  rw[P6]
  cases th with
  |int i=>simp[Dc,St.Kd.isA,isN,w,fx,C1]
  |_=>simp[Dc,St.Kd.isA,isN,w,C1]
 |m+1,.non,h,n,X,x,hn,g=>by
  obtain⟨n',rfl⟩:∃n',n=n'+1:=⟨n-1,by lia⟩
  have w:=aK g.th g.as
  have iN:isN (.val .non)=true:=rfl
  have th:=g.th
  rw[P6]
  cases th with
  |_=>simp[Dc,St.Kd.isA,iN,w,C1]
 |m+1,.tup ts,h,n,X,x,hn,g=>by
  obtain⟨n',rfl⟩:∃n',n=n'+1+1:=⟨n-2,by lia⟩
  have kx:=g.as.kd
  have th:=g.th
  have gT:Thg S (.tup ts) (.tup ts):=.plain h.th
  rw[P6]
  cases th with
  |tup hx lx=>
   rename_i xs
   have ar:=W5 (n:=n') g gT (.inl rfl) (.inl rfl) lx λi h1 h2=>Ze (h.2 ts[i] (tS h2)) (n:=n') (by lia) (Thg.plain (hx xs[i] (tS h1)))
   simp[Dc,kx,St.Kd.isA,ar,C1]
  |_=>simp[Dc,kx,St.Kd.isA,C1]
end
theorem TpN.lay:∀{m:Nat} {d:D},TpN m d->d.lay=true
 |_+1,.int _,_=>rfl
 |_+1,.non,_=>rfl
 |_+1,.tup ds,h=>by
  show D.Km ds=true
  have:=Ey (f:=id) (xs:=ds) λd hd=>TpN.lay (h.2 d hd)
  simpa using this
theorem jq{m:Nat}{x T:D}{wx wT:Wv}(hx:Th x)(hT:TpN (m+1) T)(ax:As wx x)(aT:As wT T)(hb:∀b,x≠.bl b)(hs:∀xs ts,¬(x=.tup xs/\T=.tup ts)):UE wT wx=Gc (.val (.bl (C1 x T))):=by
 have lT:=hT.lay
 have dead:(Dq T x=true->deq T x=false)->C1 x T=false->(Dq T x=false->∃k j,kdW (.val T)=Gc k/\kdW (.val x)=Gc j/\Qa k j=true)->UE wT wx=Gc (.val (.bl (C1 x T))):=λh1 h2 h3=>by
  unfold UE
  rw[ax.fz,aT.fz]
  cases ho:Dq T x with
  |true=>rw[qc rfl,h1 ho,h2]
  |false=>
   obtain⟨k,j,e1,e2,e3⟩:=h3 ho
   rw[qj (by simp),ax.kd,aT.kd,e1,e2,Ar,Ar,qc e3,h2]
 have flat:x.lay=true->x.py.depth<=1->Dq T x=true:=λl d=>by
  unfold Dq
  rw[l,lT]
  simp only[zv,decide_eq_true_eq]
  lia
 cases T with
 |int j=>
  cases hx with
  |non=>exact dead (λ_=>rfl) rfl λh=>by rw[flat rfl (by simp[D.py,vK])]at h;cases h
  |bl b=>exact absurd rfl (hb b)
  |int i=>
   unfold UE
   rw[ax.fz,aT.fz,qc Z0,IP]
   simp[C1,BEq.comm]
  |str y h=>exact dead (λ_=>rfl) rfl λh'=>by rw[flat h (by simp[D.py,vK])]at h';cases h'
  |tup h l=>exact dead (λ_=>rfl) rfl λ_=>⟨_,_,rfl,rfl,rfl⟩
  |lst h l=>exact dead (λ_=>rfl) rfl λ_=>⟨_,_,rfl,rfl,rfl⟩
  |dct k=>exact dead (λh=>by simp[Dq,D.lay]at h) rfl λ_=>⟨_,_,rfl,rfl,rfl⟩
 |non=>
  cases hx with
  |non=>
   unfold UE
   rw[ax.fz,aT.fz,qc (flat rfl (by simp[D.py,vK]))]
   rfl
  |bl b=>exact absurd rfl (hb b)
  |int i=>exact dead (λ_=>rfl) rfl λh=>by rw[flat rfl (by simp[D.py,vK])]at h;cases h
  |str y h=>exact dead (λ_=>rfl) rfl λh'=>by rw[flat h (by simp[D.py,vK])]at h';cases h'
  |tup h l=>exact dead (λ_=>rfl) rfl λ_=>⟨_,_,rfl,rfl,rfl⟩
  |lst h l=>exact dead (λ_=>rfl) rfl λ_=>⟨_,_,rfl,rfl,rfl⟩
  |dct k=>exact dead (λh=>by simp[Dq,D.lay]at h) rfl λ_=>⟨_,_,rfl,rfl,rfl⟩
 |tup ts=>
  cases hx with
  |non=>exact dead (λ_=>rfl) rfl λh=>by rw[flat rfl (by simp[D.py,vK])]at h;cases h
  |bl b=>exact absurd rfl (hb b)
  |int i=>exact dead (λ_=>rfl) rfl λh=>by rw[flat rfl (by simp[D.py,vK])]at h;cases h
  |str y h=>exact dead (λ_=>rfl) rfl λh'=>by rw[flat h (by simp[D.py,vK])]at h';cases h'
  |tup h l=>exact absurd ⟨rfl,rfl⟩ (hs _ _)
  |lst h l=>exact dead (λ_=>rfl) rfl λ_=>⟨_,_,rfl,rfl,rfl⟩
  |dct k=>exact dead (λh=>by simp[Dq,D.lay]at h) rfl λ_=>⟨_,_,rfl,rfl,rfl⟩
 |_=>exact hT.elim
theorem Mv:∀{xs ts:List D},xs.length=ts.length->Ed xs ts=(ts.zip xs).all λz=>C1 z.2 z.1
 | [],[],_=>by simp[Ed]
 |x::xs,t::ts,h=>by
  have ih:=Mv (xs:=xs) (ts:=ts) (by simpa using h)
  rw[xZ,uF]
  simp only[Ed,ih]
 | [],_::_,h=>by simp at h
 |_::_,[],h=>by simp at h
section
variable{S:Sto}
theorem SM{n:Nat}:C6 (n+1)=BE (BH 2 (FE (C6 n))):=rfl
noncomputable def Kp:D->qk
 | .tup _=>true
 |_=>false
noncomputable def Ru:D->qk
 | .bl _=>true
 |_=>false
theorem PZ{w:Wv}{x:D}(h:Th x)(a:As w x):Jj w (.val (.ty "tuple"))=Gc (.val (.bl (Kp x))):=by
 have k:=a.kd
 have:Jj w (.val (.ty "tuple"))=(kdW w).map λk=>.val (.bl (k.isA "tuple")):=rfl
 rw[this,k]
 cases h with
 |_=>simp[St.Kd.isA,Kp]
theorem PB{w:Wv}{x:D}(h:Th x)(a:As w x):Jj w (.val (.ty "bool"))=Gc (.val (.bl (Ru x))):=by
 have k:=a.kd
 have:Jj w (.val (.ty "bool"))=(kdW w).map λk=>.val (.bl (k.isA "bool")):=rfl
 rw[this,k]
 cases h with
 |_=>simp[St.Kd.isA,Ru]
theorem VM{a b:Int}:UE (.val (.int a)) (.val (.int b))=Gc (.val (.bl (a==b))):=rfl
theorem Y1:∀{m:Nat} {T:D},TpN m T->∀{n:Nat} {X x:D},m<=n->Thg S X x->C6 n [T,X] S=Gc (.bl (C1 x T),S)
 |0,T,h,_,_,_,_,_=>by cases T<;>exact h.elim
 |m+1,T,h,n,X,x,hn,g=>by
  obtain⟨n',rfl⟩:∃n',n=n'+1:=⟨n-1,by lia⟩
  have gT:Thg S T T:=Thg.plain h.th
  have i1:=PZ g.th g.as
  have i2:=PZ gT.th gT.as
  have b1:=PB g.th g.as
  have b2:=PB gT.th gT.as
  have dT:dr S T=.val T:=h.th.dr
  rw[dT]at i2 b2
  have nb:Ru T=false:=by
   cases T with
   |bl b=>exact h.elim
   |_=>rfl
  rw[SM]
  by_cases hq:Kp T=true/\Kp x=true
  .obtain⟨xs,rfl⟩:∃xs,x=.tup xs:=by
    cases x with
    |tup xs=>exact⟨xs,rfl⟩
    |_=>exact absurd hq.2 (by simp[Kp])
   obtain⟨ts,rfl⟩:∃ts,T=.tup ts:=by
    cases T with
    |tup xs=>exact⟨xs,rfl⟩
    |_=>exact absurd hq.1 (by simp[Kp])
   obtain⟨gs,e1,e2⟩:=g.sq xs (.inl rfl)
   obtain⟨e3,e4⟩:=g.as.len (.inl rfl)
   obtain⟨gs',e1',e2'⟩:=gT.sq ts (.inl rfl)
   obtain rfl:gs'=[]:=by
    have z:Gc (ts,([]:Gd))=Gc (ts,gs'):=e1'
    cases z;rfl
   obtain⟨e5,e6⟩:=gT.as.len (.inl rfl)
   rw[dT]at e5
   have hx:∀d∈xs,Th d:=by have:=g.th;cases this;assumption
   have lx:xs.length<=1000:=by have:=g.th;cases this;assumption
   have sd:C1 (.tup xs) (.tup ts)=Ed xs ts:=rfl
   by_cases hlen:xs.length=ts.length
   .have c:=DU (gs:=gs) (t:=tTp [tNm 0,tNm 1]) (f:=AJ (C6 n') [eV 0,eV 1]) (C:=[]) (m:=2) (e:=λz:D×D=>D.tup [z.1,z.2]) (g:=λz=>D.bl (C1 z.2 z.1)) (S:=S) e2 (xs:=ts.zip xs) (acc:=[]) (os:=[none,none]) rfl (AN (by simp;lia)) (by
     rintro ⟨a,b⟩ hz os ho
     obtain⟨o1,o2,rfl⟩:=kh ho
     have ha:=(uY hz).1
     have hb:=(uY hz).2
     have hs:=Y1 (h.2 a ha) (n:=n') (by lia) (Thg.plain (hx b hb))
     refine⟨[Gc a,Gc b],rfl,by simp,?_⟩
     simp[hs])
    simp only[qU,uX]at c
    have bb:=Q2 (p:=λz:D×D=>C1 z.2 z.1) (xs:=ts.zip xs)
    rw[<-Mv hlen]at bb
    have zd:O2 ts xs=(ts.zip xs).map λz=>D.tup [z.1,z.2]:=rfl
    rw[sd]
    have ek:=VM (a:=(ts.length:Int)) (b:=ts.length)
    generalize (ts.zip xs).map (λz=>D.bl (C1 z.2 z.1))=BB at*
    simp[-F9,FE,i1,i2,hq.1,hq.2,e3,e5,hlen,ek,e1,e1',zd,c,bb]
   .have hl:¬(ts.length:Int)=xs.length:=by lia
    have hb:((ts.length:Int)==xs.length)=false:=by simpa using hl
    have ek:=VM (a:=(ts.length:Int)) (b:=xs.length)
    rw[hb]at ek
    rw[sd,Pu hlen]
    simp[-F9,FE,i1,i2,hq.1,hq.2,e3,e5,ek]
  .have hq':(Kp T && Kp x)=false:=by
    cases h1:Kp x<;>cases h2:Kp T<;>simp_all
   have test:∀{y:Ex},xIf (GG (eOp (o2 Jj) [eV 0,eC (.ty "tuple")]) (eOp (o2 Jj) [eV 1,eC (.ty "tuple")])) y CZ [Gc T,Gc X] S=Gc (.nx,[Gc T,Gc X],S):=λ{y}=>by
    cases h1:Kp T with
    |false=>rw[h1]at i2;simp[-F9,dT,i2]
    |true=>
     have h2:Kp x=false:=by rw[h1]at hq';simpa using hq'
     rw[h1]at i2
     rw[h2]at i1
     simp[-F9,dT,i1,i2]
   cases hb:Ru x with
   |true=>
    have sd:C1 x T=false:=by
     cases x with
     |bl b=>cases T<;>rfl
     |_=>simp[Ru]at hb
    rw[hb]at b1
    rw[nb]at b2
    have ek:wNe (.val (.bl false)) (.val (.bl true))=Gc (.val (.bl true)):=rfl
    rw[sd]
    simp[-F9,-N6,FE,test]
    simp[-F9,-Gu,dT,b1,b2,ek]
   |false=>
    rw[hb]at b1
    rw[nb]at b2
    have ek:wNe (.val (.bl false)) (.val (.bl false))=Gc (.val (.bl false)):=rfl
    have eqk:UE (.val T) (dr S X)=Gc (.val (.bl (C1 x T))):=by
     rw[<-dT]
     exact jq g.th h g.as gT.as (λb z=>by rw[z]at hb;simp[Ru]at hb) (by
      rintro xs ts ⟨z1,z2⟩
      exact hq ⟨by rw[z2];rfl,by rw[z1];rfl⟩)
    simp[-F9,-N6,FE,test]
    simp[-F9,-Gu,dT,b1,b2,ek,eqk]
end
section
variable{S:Sto}{p:Nat}
theorem SI{n:Nat}:BA (n+1)=BE (BH 4 (Iu (BA n))):=rfl
noncomputable def consts:List D:=[.non,.bl true,.bl false,.int 0,.int 1,.int (-1),.int 9,.int (10^39),.str "",.str "a",.tup [],.lst []]
theorem VH:∀x∈consts,Th x:=by
 intro x hx
 simp only[consts,qA,qT,rP]at hx
 rcases hx with rfl|rfl|rfl|rfl|rfl|rfl|rfl|rfl|rfl|rfl|rfl|rfl
 .exact .non
 .exact .bl _
 .exact .bl _
 .exact .int _
 .exact .int _
 .exact .int _
 .exact .int _
 .exact .int _
 .exact .str _ (by decide+kernel)
 .exact .str _ (by decide+kernel)
 .exact .tup (λd hd=>by cases hd) (by decide)
 .exact .lst (λd hd=>by cases hd) (by decide)
def UX:Ev:=(GH [eC .non,eC (.bl true),eC (.bl false),eC (.int 0),eC (.int 1),eOp (o1 Oe) [eC (.int 1)],eC (.int 9),eOp (o2 aU) [eC (.int 10),eC (.int 39)],eC (.str ""),eC (.str "a"),BL [],GH []])
theorem VC{E:En}:UX E S=Gc (.lst consts,S):=by
 have n1:Oe (.val (.int 1))=Gc (.val (.int (-1))):=rfl
 have p1:aU (.val (.int 10)) (.val (.int 39))=Gc (.val (.int (10^39))):=by with_unfolding_all rfl
 have sz:(12:Nat)<=sizeLine:=AN (by decide)
 simp[UX,n1,p1,consts,sz]
theorem Oa:∀{n d:Nat},d<n->∀{S:Sto},Bg p S->∃X S',BA n [.ref p,.int d] S=Gc (X,S')/\Th X/\Pn p S S'
 |0,d,h,_,_=>absurd h (by omega)
 |n+1,d,h,S,hp=>by
  obtain⟨way,S1,e1,w0,w1,p1⟩:=Ad hp (n:=12) (by decide) (by decide)
  rw[SI]
  have eb:Iu (BA n)=(AU (A4 2 (AJ AH [eV 0,eC (.int 12)]))
  (AU (xIf (eOr (eOp (o2 wLt) [eV 2,eC (.int 8)]) (eOp (o2 wEq) [eV 1,eC (.int 0)])) (BR (eOp (o2 wIx) [UX,AJ AH [eV 0,eC (.int 12)]])) CZ)
  (AU (A4 3 (Cc [0,1] 1 (K8 [AJ AH [eV 0,eC (.int 4)]]) (tNm 2) By (AJ (BA n) [eV 0,eOp (o2 MK) [eV 1,eC (.int 1)]])))
  (AU (xIf (eOp (o2 wEq) [eV 2,eC (.int 8)]) (BR (eV 3)) CZ)
  (AU (xIf (eOp (o2 wEq) [eV 2,eC (.int 9)]) (BR (gE [((eC (.str "a")),(eV 3))])) CZ)
  (BR (eOp (o1 Cj) [eV 3]))))))):=rfl
  rw[eb]
  by_cases c:way<8\/d=0
  .obtain⟨r,S2,e2,r0,r1,p2⟩:=Ad p1.pen (n:=12) (by decide) (by decide)
   obtain⟨x,ax,hx⟩:=pick (xs:=consts) r0 (by simpa[consts]using r1)
   refine⟨x,S2,?_,VH x hx,p1.trans p2⟩
   have k:=λE=>VC (S:=S1) (E:=E)
   rcases Decidable.em (way<8)with c1|c1
   .simp[e1,c1,k,e2,ax]
   .have c2:d=0:=c.resolve_left c1
    subst c2
    simp[e1,c1,k,e2,ax]
  .have c1:¬way<8:=λz=>c (.inl z)
   have c2:¬d=0:=λz=>c (.inr z)
   obtain⟨r,S2,e2,r0,r1,p2⟩:=Ad p1.pen (n:=4) (by decide) (by decide)
   obtain⟨k,rfl⟩:=Eu r0
   have rk:Ho (k:Int)=true:=C4 (by omega) (by omega)
   obtain⟨ys,S3,e3,i3,l3,r3⟩:=Kw (gs:=[]) (t:=tNm 2) (f:=AJ (BA n) [eV 0,eOp (o2 MK) [eV 1,eC (.int 1)]]) (C:=[Gc (.ref p),Gc (.int d)]) (m:=1) (I:=λT=>Pn p S2 T) (R:=λ_ y=>Th y) (λ_ _=>Ah) (ds:=Kb 0 k) (acc:=[]) (os:=[none]) (S:=S2) rfl (.refl p2.pen) (AN (by simp[FA];omega)) (by
    intro dd hd os T ho hI
    match os,ho with
    | [a],_=>
    obtain⟨X,T',ex,hX,hP⟩:=Oa (n:=n) (d:=d-1) (by omega) hI.pen
    refine⟨[Gc dd],X,T',rfl,by simp,?_,hI.trans hP,hX⟩
    have ec:(d:Int)-1=((d-1:Nat):Int):=by omega
    simp[ec,ex])
   have th:=IE r3
   have ly:ys.length<=1000:=by rw[l3,FA];omega
   have pn:=(p1.trans p2).trans i3
   simp only[qU,rF]at e3
   have c2':((d:Int)==0)=false:=by simpa using c2
   have tn:(k:Int).toNat=k:=by omega
   by_cases w8:way=8
   .subst w8
    refine⟨.lst ys,S3,?_,.lst th ly,pn⟩
    simp[e1,c2',e2,rk,Qf,e3,tn]
   .have w8':(way==8)=false:=by simpa using w8
    by_cases w9:way=9
    .subst w9
     refine⟨.dct (L6 [] [(.inr "a",.lst ys)]),S3,?_,.dct _,pn⟩
     simp[e1,c2',e2,rk,Qf,e3,tn]
    .have w9':(way==9)=false:=by simpa using w9
     refine⟨.tup ys,S3,?_,.tup th ly,pn⟩
     simp[e1,c1,c2',e2,rk,Qf,e3,tn,w8',w9']
end
section
variable{S:Sto}{p:Nat}
theorem Kz{L:List D}{lo hi:pY Int}{x:D}(h:x∈Gx L lo hi):x∈L:=List.mem_of_mem_drop (zX h)
theorem F8{L:List D}{lo hi:pY Int}:(Gx L lo hi).length<=L.length:=by
 unfold Gx
 simp[uG,yN]
 lia
theorem WK{xs:List D}{x:D}(h:x∈R3 xs):x∈xs:=by
 unfold R3 at h
 obtain⟨k,_,hk⟩:=vo.mp h
 exact qX hk
theorem XQ{xs:List D}:(R3 xs).length<=xs.length:=by
 unfold R3
 refine qD (sZ _ _) ?_
 rw[tY]
 exact p9 _
@[simp] theorem fH{xs:List D}:gP (.val (.tup xs))=some (.val (.tup (R3 xs))):=nr rfl
theorem aj(c:Char):c.toNat<1114112:=by
 have h:c.toNat.isValidChar:=c.valid
 rcases h with h|h
 .exact tJ h (by decide)
 .exact h.2
theorem Yg{x:tZ}:sD (rK x)=true:=by
 unfold sD rK
 simp
 intro c hc
 rw[cpsOfBytes_string]at hc
 obtain⟨ch,_,rfl⟩:=qi.mp hc
 exact aj ch
inductive SjN:Nat->D->Prop
 |int {n:Nat} {i:Int} (h:i.natAbs.log2<1920):SjN n (.int i)
 |non {n:Nat}:SjN n .non
 |tup {n:Nat} {ds:List D} (h:∀d∈ds,SjN n d) (l:ds.length<=100):SjN (n+1) (.tup ds)
theorem SjN.th:∀{n:Nat} {d:D},SjN n d->Th d
 |_,_,.int h=>.int _
 |_,_,.non=>.non
 |_,_,.tup h l=>.tup (λd hd=>SjN.th (h d hd)) (by lia)
theorem SjN.lay:∀{n:Nat} {d:D},SjN n d->d.lay=true
 |_,_,.int h=>rfl
 |_,_,.non=>rfl
 |_,_,.tup (ds:=ds) h l=>by
  show D.Km ds=true
  have:=Ey (f:=id) (xs:=ds) λd hd=>SjN.lay (h d hd)
  simpa using this
@[simp] theorem eF{i:Int}:dW (.val (.int i))=if i.natAbs.log2<1920 then some (.val (.str (toString i)))else none:=nr rfl
@[simp] theorem jQ{z:Str}:wUp (.val (.str z))=if(Txt.upper z).length<=sizeLine then some (.val (.str (Txt.upper z)))else none:=nr rfl
theorem bB{xs ys:List D}(hx:∀d∈xs,Th d)(hy:∀d∈ys,Th d)(l:xs.length+ys.length<=1000):Th (.tup (xs++ys)):=.tup (λd hd=>(qW.mp hd).elim (hx d) (hy d)) (by simpa using l)
theorem Uz{ds:List D}(h:D.Km ds=true):Dq (.tup ds) (.tup [])=true:=by
 unfold Dq
 show(D.Km ds && true && decide (min (D.tup ds).py.depth (D.tup []).py.depth<=60))=true
 rw[h]
 have:(D.tup []).py.depth<=60:=by decide
 rw[sX (by lia)]
 rfl
theorem YB{ds:List D}:deq (.tup ds) (.tup [])=ds.isEmpty:=by
 cases ds<;>rfl
theorem mf{r:Int}(h0:0<=r)(h1:r<4):r=0\/r=1\/r=2\/r=3:=by lia
theorem XC{n:Nat}:BW (n+1)=BE (BH 4 (Fq (BW n))):=rfl
def spT:Ex:=(AU (A4 3 (AJ AH [eV 0,eC (.int 8)]))
    (AU (xIf (GG (eOp (o2 Jj) [eV 1,eC (.ty "tuple")]) (eOp (o2 wLt) [eV 3,eC (.int 4)])) (BR (eOp (o2 wIx) [GH [eOp (o2 Be) [eV 1,eOp (Gm true false) [eV 1,eOp (o1 Oe) [eC (.int 1)]]],eOp (Gm false true) [eV 1,eOp (o1 Oe) [eC (.int 1)]],eOp (o1 Jq) [eV 1],eOp (o1 gP) [eV 1]],eV 3])) CZ)
    (AU (xIf (GG (eOp (o2 Jj) [eV 1,eC (.ty "int")]) (eOp (o2 wLt) [eV 3,eC (.int 4)])) (BR (eOp (o2 wIx) [GH [eOp (o2 Be) [eV 1,eC (.int 1)],eOp (o2 MK) [eV 1,eC (.int 1)],eOp (o2 wGt) [eV 1,eC (.int 0)],eOp (o1 dW) [eV 1]],eV 3])) CZ)
    (AU (xIf (GG (eOp (o2 Jj) [eV 1,eC (.ty "str")]) (eOp (o2 wLt) [eV 3,eC (.int 4)])) (BR (eOp (o2 wIx) [GH [eOp (o2 Be) [eV 1,eC (.str "a")],eOp (o1 wUp) [eV 1],eOp (Gm false true) [eV 1,eOp (o1 Oe) [eC (.int 1)]],eOp (o2 Be) [eC (.str "1"),eV 1]],eV 3])) CZ)
    (BR (AJ (BA 8) [eV 0,eC (.int 2)]))))))
theorem NP{rec:Fn}:Fq rec=(AU (xIf (GG (eOp (o2 Jj) [eV 1,eC (.ty "tuple")]) (GG (eOp (o2 wNe) [eV 1,BL []]) (eOp (o2 wGt) [AJ AH [eV 0,eC (.int 6)],eC (.int 0)]))) (AU (A4 2 (AJ AH [eV 0,eOp (o1 HP) [eV 1]])) (BR (eOp (o2 Be) [eOp (o2 Be) [eOp (Gm false true) [eV 1,eV 2],BL [AJ rec [eV 0,eOp (o2 wIx) [eV 1,eV 2]]]],eOp (Gm true false) [eV 1,eOp (o2 Be) [eV 2,eC (.int 1)]]]))) CZ) spT):=rfl
theorem Jd:∀(N k:Nat) {d:D} {S:Sto},k<N->SjN k d->Bg p S->∃X S',BW N [.ref p,d] S=Gc (X,S')/\Th X/\Pn p S S'
 |0,k,d,S,h,_,_=>absurd h (Nat.not_lt_zero _)
 |N+1,k,d,S,hk,sd,h=>by
  have rest:∀{T:Sto},Bg p T->∃X T',BA 8 [.ref p,.int 2] T=Gc (X,T')/\Th X/\Pn p T T':=λhq=>Oa (n:=8) (d:=2) (by decide) hq
  have hl:=sd.lay
  have s4:(4:Nat)<=sizeLine:=AN (by decide)
  have n1:Oe (.val (.int 1))=Gc (.val (.int (-1))):=rfl
  rw[XC]
  cases sd with
  | @int _ i hi=>
    obtain⟨r1,S1,e1,a1,b1,p1⟩:=Ad h (n:=8) (by decide) (by decide)
    by_cases c:r1<4
    .have lg:=hi
     have q:(atI [D.int (i+1),.int (i-1),.bl (decide (0<i)),.str (toString i)] r1).map (λx=>(x,S1))=BE (BH 4 (Fq (BW N))) [.ref p,.int i] S:=by
      simp[NP,spT,St.Kd.isA,e1,c,lg,s4]
      generalize atI _ r1=o
      cases o<;>rfl
     rcases mf a1 c with rfl|rfl|rfl|rfl
     .exact⟨.int (i+1),S1,q.symm,.int _,p1⟩
     .exact⟨.int (i-1),S1,q.symm,.int _,p1⟩
     .exact⟨.bl (decide (0<i)),S1,q.symm,.bl _,p1⟩
     .exact⟨.str (toString i),S1,q.symm,.str _ Yg,p1⟩
    .obtain⟨w,q',ew,tw,pw⟩:=rest p1.pen
     exact⟨w,q',by simp[NP,spT,St.Kd.isA,e1,c,ew],tw,p1.trans pw⟩
  |non=>
   obtain⟨r1,S1,e1,a1,b1,p1⟩:=Ad h (n:=8) (by decide) (by decide)
   obtain⟨w,q',ew,tw,pw⟩:=rest p1.pen
   exact⟨w,q',by simp[NP,spT,St.Kd.isA,e1,ew],tw,p1.trans pw⟩
  | @tup k' xs hx lx=>
    have tx:∀d∈xs,Th d:=λd hd=>(hx d hd).th
    have ways:∀{T:Sto},Bg p T->∃X T' r,AH [.ref p,.int 8] T=Gc (.int r,T')/\Pn p T T'/\Th X/\((r<4/\atI [D.tup (xs++Gx xs (Gc (-1)) none),.tup (Gx xs none (Gc (-1))),.lst xs,.tup (R3 xs)] r=Gc X)\/(¬r<4/\∃T'',BA 8 [.ref p,.int 2] T'=Gc (X,T'')/\Pn p T' T'')):=by
     intro T hq
     obtain⟨r1,d1,e1,a1,b1,p1⟩:=Ad hq (n:=8) (by decide) (by decide)
     by_cases c:r1<4
     .rcases mf a1 c with rfl|rfl|rfl|rfl
      .exact⟨_,d1,0,e1,p1,bB tx (λd hd=>tx d (Kz hd)) (by have:=F8 (L:=xs) (lo:=Gc (-1)) (hi:=none);lia),.inl ⟨by decide,rfl⟩⟩
      .exact⟨_,d1,1,e1,p1,.tup (λd hd=>tx d (Kz hd)) (by have:=F8 (L:=xs) (lo:=none) (hi:=Gc (-1));lia),.inl ⟨by decide,rfl⟩⟩
      .exact⟨_,d1,2,e1,p1,.lst tx (by lia),.inl ⟨by decide,rfl⟩⟩
      .exact⟨_,d1,3,e1,p1,.tup (λd hd=>tx d (WK hd)) (by have:=XQ (xs:=xs);lia),.inl ⟨by decide,rfl⟩⟩
     .obtain⟨w,q',ew,tw,pw⟩:=rest p1.pen
      exact⟨w,d1,r1,e1,p1,tw,.inr ⟨c,q',ew,pw⟩⟩
    have z1:xs.length+(Gx xs (Gc (-1)) none).length<=sizeLine:=AN (by have:=F8 (L:=xs) (lo:=Gc (-1)) (hi:=none);lia)
    have hlay:D.Km xs=true:=hl
    have eo:=Uz hlay
    have en:=YB (ds:=xs)
    have tl:∀{T:Sto},Bg p T->∃X T',(spT [Gc (.ref p),Gc (.tup xs),none,none] T).map (λr=>(flD r.1,r.2.2))=Gc (X,T')/\Th X/\Pn p T T':=by
     intro T hq
     obtain⟨X,T',r,e1,p1,tw,alt⟩:=ways hq
     rcases alt with⟨c,ed⟩|⟨c,q'',ew,pw⟩
     .exact⟨X,T',by simp[spT,St.Kd.isA,e1,c,z1,ed,s4,n1],tw,p1⟩
     .exact⟨X,q'',by simp[spT,St.Kd.isA,e1,c,ew],tw,p1.trans pw⟩
    by_cases hemp:xs.isEmpty=true
    .obtain⟨X,T',e1,tw,p1⟩:=tl h
     exact⟨X,T',by simp[NP,St.Kd.isA,eo,en,hemp,e1],tw,p1⟩
    .have hemp:xs.isEmpty=false:=by simpa using hemp
     have hpos:0<xs.length:=by
      cases xs with
      |nil=>cases hemp
      |cons a b=>simp
     obtain⟨r0,S0,e0,a0,b0,p0⟩:=Ad h (n:=6) (by decide) (by decide)
     by_cases c0:0<r0
     .obtain⟨r1,S1,e1,a1,b1,p1⟩:=Ad p0.pen (n:=(xs.length:Int)) (by lia) (by lia)
      obtain⟨y,ey,hy⟩:=pick (xs:=xs) (r:=r1) a1 b1
      obtain⟨X,S2,ew,tw,pw⟩:=Jd N k' (by lia) (hx y hy) p1.pen
      have z2:(Gx xs none (Gc r1)).length+1<=sizeLine:=AN (by have:=F8 (L:=xs) (lo:=none) (hi:=Gc r1);lia)
      have z3:(Gx xs none (Gc r1)).length+1+(Gx xs (Gc (r1+1)) none).length<=sizeLine:=AN (by have:=F8 (L:=xs) (lo:=none) (hi:=Gc r1);have:=F8 (L:=xs) (lo:=Gc (r1+1)) (hi:=none);lia)
      have s1:(1:Nat)<=sizeLine:=AN (by decide)
      refine⟨.tup (Gx xs none (Gc r1)++X::Gx xs (Gc (r1+1)) none),S2,by simp[NP,St.Kd.isA,eo,en,hemp,e0,c0,e1,ey,ew,z2,z3,s1],?_,(p0.trans p1).trans pw⟩
      refine .tup (λd hd=>?_) (by
       have:=F8 (L:=xs) (lo:=none) (hi:=Gc r1)
       have:=F8 (L:=xs) (lo:=Gc (r1+1)) (hi:=none)
       rw[qw,qg]
       lia)
      rcases qW.mp hd with hd|hd
      .exact tx d (Kz hd)
      .rcases qA.mp hd with rfl|hd
       .exact tw
       .exact tx d (Kz hd)
     .obtain⟨X,T',e1,tw,p1⟩:=tl p0.pen
      exact⟨X,T',by simp[NP,St.Kd.isA,eo,en,hemp,e0,c0,e1],tw,p0.trans p1⟩
end
end Mi
end
noncomputable section
namespace Mi
open PySem PySem.Spec L2 PyProof.Rows
section
variable{S:Sto}{p q:Nat}{t t':Tr}{ls ls':List Ld}{ds ds':List AV}{a b:List Trd}
@[simp] theorem gw{r:List D}:gu (.val (.lst r))=(bls r).map λbs=>.val (.bl (bs.any id)):=nr rfl
theorem aI{α:Type}{p:α->qk}{xs:List α}:((bls (xs.map λx=>D.bl (p x))).map λbs=>Wv.val (.bl (bs.any id)))=Gc (.val (.bl (xs.any p))):=by
 rw[QU p]
 simp[List.any_map]
theorem TX{α:Type}{p:α->qk}:∀{xs:List α},(!(xs.filter p).isEmpty)=xs.any p
 | []=>rfl
 |x::xs=>by
  rw[List.filter_cons,sV]
  cases h:p x with
  |true=>rfl
  |false=>simp only[sg,ux,zq];exact TX
theorem aQ{o:pY Trd}:TpN 2 (oD o):=by
 cases o with
 |none=>exact trivial
 |some r=>exact⟨by show 5<=1000;decide,λd hd=>by
   simp only[qA,qT,rP]at hd
   rcases hd with rfl|rfl|rfl|rfl|rfl<;>exact trivial⟩
theorem VX{n:Nat}:TpN 3 (prD a b n):=⟨by show 3<=1000;decide,λd hd=>by
 simp only[qA,qT,rP]at hd
 rcases hd with rfl|rfl|rfl
 .exact trivial
 .exact aQ
 .exact aQ⟩
theorem P1:(clL a b).length<=10:=by
 unfold clL
 exact qD (uV _ _) (by simp)
theorem Td{X:D}(hX:Th X)(h:Eg t ls ds)(h':Eg t' ls' ds'):∃S',D0 [Av t ls ds,Av t' ls' ds',X] S=Gc (.bl (((clL (tdB t ls ds) (tdB t' ls' ds')).map (prD (tdB t ls ds) (tdB t' ls' ds'))).any (C1 X)),S')/\Ca [] S S':=by
 have e1:=Tv (S:=S) h
 have e2:=Tv (S:=S) h'
 obtain⟨q,S1,e3,q3,s3,_⟩:=Uj (S:=S) h
 obtain⟨q',S2,e4,q4,s4,_⟩:=Uj (S:=S1) h'
 have e5:=R9 h.tok h'.tok e3 q3 e4 q4
 have l10:=P1 (a:=tdB t ls ds) (b:=tdB t' ls' ds')
 have tp:∀T∈(clL (tdB t ls ds) (tdB t' ls' ds')).map (prD (tdB t ls ds) (tdB t' ls' ds')),TpN 3 T:=λT hT=>by
  obtain⟨n,_,rfl⟩:=qi.mp hT
  exact VX
 have hl:((clL (tdB t ls ds) (tdB t' ls' ds')).map (prD (tdB t ls ds) (tdB t' ls' ds'))).length<=10:=by rw[qP];exact l10
 refine⟨S2,?_,s3.trans s4⟩
 generalize (clL (tdB t ls ds) (tdB t' ls' ds')).map (prD (tdB t ls ds) (tdB t' ls' ds'))=L at*
 have c:=DU (gs:=[]) (t:=tNm 1) (f:=AJ (Cy 8) [eV 0,eV 1]) (C:=[Gc X]) (m:=1) (e:=id) (g:=λT=>D.bl (C1 X T)) (S:=S2) Ah (xs:=L) (acc:=[]) (os:=[none]) rfl (qD (show _<=50 by simp;lia) (AN (by decide))) (by
  intro T hT os ho
  obtain⟨o,rfl⟩:=Og ho
  have is:=Ze (S:=S2) (tp T hT) (n:=8) (X:=X) (by decide) (Thg.plain hX)
  exact⟨[Gc T],rfl,by simp,by simp[is]⟩)
 rw[yA,qU]at c
 have bb:=aI (p:=C1 X) (xs:=L)
 generalize Av t ls ds=B at*
 generalize Av t' ls' ds'=B' at*
 simp only[rF,qU]at c
 generalize L.map (λT=>D.bl (C1 X T))=BB at*
 simp[D0,Hi,e1,e2,e5,c,bb]
theorem Ye{X:D}{L:List D}(hX:Th X)(h:Eg t ls ds)(h':Eg t' ls' ds')(hL:L=(clL (tdB t ls ds) (tdB t' ls' ds')).map (prD (tdB t ls ds) (tdB t' ls' ds')))(hq:S[q]?=Gc (.lst L)):∃S',FY [Av t ls ds,Av t' ls' ds',.ref q,X] S=Gc (.bl true,S')/\Ca [] S S':=by
 obtain⟨S2,e2,s2⟩:=Td (S:=S) hX h h'
 rw[<-hL]at e2
 have tp:∀T∈L,TpN 3 T:=λT hT=>by
  rw[hL]at hT
  obtain⟨n,_,rfl⟩:=qi.mp hT
  exact VX
 have hl:L.length<=10:=by rw[hL,qP];exact P1
 have c:=DK (gs:=[(q,L)]) (t:=tNm 1) (c:=AJ (C6 8) [eV 1,eV 0]) (f:=eV 1) (C:=[Gc X]) (m:=1) (e:=id) (g:=id) (b:=C1 X) (S:=S) (λg hg=>by rw[qV.mp hg];exact AR hq) (xs:=L) (acc:=[]) (os:=[none]) rfl (qD (show _<=50 by simp;lia) (AN (by decide))) (by
  intro T hT os ho
  obtain⟨o,rfl⟩:=Og ho
  have is:=Y1 (S:=S) (tp T hT) (n:=8) (X:=X) (by decide) (Thg.plain hX)
  exact⟨[Gc T],rfl,by simp,by simp[is],by simp⟩)
 rw[yA,qU,yA]at c
 simp only[rF,qU]at c
 have ly:D.Km (L.filter (C1 X))=true:=by
  have:=Ey (f:=id) (xs:=L.filter (C1 X)) λd hd=>(tp d (se.mp hd).1).lay
  rwa [yA]at this
 have nn:=Nn ly
 rw[TX]at nn
 have sq:=Dv hq
 refine⟨S2,?_,s2⟩
 generalize L.filter (C1 X)=FL at*
 generalize L.any (C1 X)=bo at*
 generalize Av t ls ds=B at*
 generalize Av t' ls' ds'=B' at*
 have eq:wEq (.val (.bl bo)) (.val (.bl bo))=Gc (.val (.bl true)):=by cases bo<;>rfl
 simp[FY,L3,sq,c,-Gu,nn,e2,St.Kd.isA,-Z1,eq]
theorem NC{i:Int}(h:i.natAbs<2^200):i.natAbs.log2<1920:=by
 by_cases h0:i.natAbs=0
 .rw[h0];decide
 .exact tJ ((Nat.log2_lt h0).mpr h) (by decide)
theorem gM(h:Eg t ls ds):∀r∈tdB t ls ds,r.u<2^200/\r.k<2^200/\r.g.natAbs<2^200/\r.o<2^200/\r.n.natAbs<2^200:=by
 intro r hr
 have u9:=h.tok.le r hr
 obtain⟨d,hd,e⟩:=vo.mp hr
 obtain⟨_,_,t3,t4,_⟩:=h.tr
 cases d with
 |B5 u l g k n=>
  injection e with e
  subst e
  obtain⟨i,hi⟩:=List.getElem?_of_mem hd
  have can:=JS h.good hi
  have il:i<ds.length:=(qF.mp hi).1
  obtain⟨k1,hk1,inv⟩:=h.inv i (by lia)
  obtain⟨c1,c2,c3,c4,_,c6,c7,_⟩:=can
  have pc:=inv.pcs _ (BG c1)
  have g1:g<2^147:=xf c3 (uS pc.2 (Ht (by lia)))
  obtain⟨k2,hk2,inv2⟩:=h.inv ds.length (p9 _)
  rw[wg]at inv2
  have lt:=(Qp h.good hd).1
  have kk:=inv2.kind _ (BG lt)
  have big:(5:Nat)<2^200:=by decide
  have b147:(2:Int)^147=((2^147:Nat):Int):=by decide
  have b131:(2:Int)^131=((2^131:Nat):Int):=by decide
  refine⟨rR u9 (by decide),qB kk (sF (rR t4 big)),?_,qB c4 (sF (rR t4 big)),?_⟩
  .have:g.natAbs<2^147:=by rw[b147]at g1;lia
   exact tJ this (by decide)
  .have:n.natAbs<2^131:=by rw[b131]at c7;lia
   exact tJ this (by decide)
 |_=>cases e
theorem fR(h:Eg t ls ds){n:Nat}:SjN 1 (oD (lk (tdB t ls ds) n)):=by
 cases e:lk (tdB t ls ds) n with
 |none=>exact .non
 |some r=>
  have z:=gM h r ((IU h.tok).mp e).1
  refine .tup (λd hd=>?_) (by show 5<=100;decide)
  simp only[qA,qT,rP]at hd
  rcases hd with rfl|rfl|rfl|rfl|rfl
  .exact .int (NC (by rw[rW];exact z.1))
  .exact .int (NC (by rw[rW];exact z.2.1))
  .exact .int (NC z.2.2.1)
  .exact .int (NC (by rw[rW];exact z.2.2.2.1))
  .exact .int (NC z.2.2.2.2)
theorem j5(h:Eg t ls ds)(h':Eg t' ls' ds'){n:Nat}(hn:n<2^200):SjN 2 (prD (tdB t ls ds) (tdB t' ls' ds') n):=by
 refine .tup (λd hd=>?_) (by show 3<=100;decide)
 simp only[qA,qT,rP]at hd
 rcases hd with rfl|rfl|rfl
 .exact .int (NC (by rw[rW];exact hn))
 .exact fR h
 .exact fR h'
theorem spC:∀{ds acc:List D} {o:pY D} {S:Sto},(∀d∈ds,SjN 2 d)->Bg p S->acc.length+ds.length<=100->∃Xs S',CC [] (tNm 1) By (AJ (BW 8) [eV 0,eV 1]) ds acc [Gc (.ref p),o] S=Gc (acc++Xs,S')/\(∀x∈Xs,Th x)/\Xs.length=ds.length/\Pn p S S'
 | [],acc,o,S,_,hp,_=>⟨[],S,by rw[Fj Ah,uX],(λ_ z=>nomatch z),rfl,.refl hp⟩
 |d::ds,acc,o,S,hd,hp,hl=>by
  simp only[qg]at hl
  obtain⟨X,S1,e1,t1,p1⟩:=Jd 8 2 (by decide) (hd d qH) hp
  obtain⟨Xs,S',e2,t2,l2,p2⟩:=spC (ds:=ds) (acc:=acc++[X]) (o:=Gc d) (S:=S1) (λx hx=>hd x (qC _ hx)) p1.pen (by simp;lia)
  refine⟨X::Xs,S',?_,λx hx=>by rcases qA.mp hx with rfl|z;exact t1;exact t2 x z,by simp[l2],p1.trans p2⟩
  rw[Ia (E1:=[Gc (.ref p),Gc d]) Ah (qB (show acc.length<101 by lia) (AN (by decide))) (by simp) Hn]
  have:AJ (BW 8) [eV 0,eV 1] [Gc (.ref p),Gc d] S=Gc (X,S1):=by simp[e1]
  rw[this,Ar]
  dsimp only
  rw[e2]
  simp
end
end Mi
end
noncomputable section
namespace Mi
open PySem PySem.Spec L2 PyProof.Rows
section
variable{S:Sto}{p q q5 q6:Nat}{t t':Tr}{ls ls':List Ld}{ds ds':List AV}{a b:List Trd}
theorem W6{o:pY Trd}:Th (oD o):=aQ.th
theorem gS{n:Nat}:Th (prD a b n):=VX.th
theorem jg(hx:ML S (.ref q5)=Gc (CS a))(hy:ML S (.ref q6)=Gc (CS b)):CC [] (tNm 2) By (BL [eV 2,GW (eV 0) (eV 2),GW (eV 1) (eV 2)]) (Kb 0 11) [] [Gc (.ref q5),Gc (.ref q6),none] S=Gc ((qR 11).map (prD a b),S):=by
 have c:=DU (gs:=[]) (t:=tNm 2) (f:=BL [eV 2,GW (eV 0) (eV 2),GW (eV 1) (eV 2)]) (C:=[Gc (.ref q5),Gc (.ref q6)]) (m:=1) (e:=λn:Nat=>D.int (0+(n:Int))) (g:=prD a b) (S:=S) Ah (xs:=qR 11) (acc:=[]) (os:=[none]) rfl (qD (show _<=50 by simp) (AN (by decide))) (by
  intro n hn os ho
  obtain⟨o,rfl⟩:=Og ho
  have v1:=Gw (n:=n) (rs:=a)
  have v2:=Gw (n:=n) (rs:=b)
  have sz:(3:Nat)<=sizeLine:=AN (by decide)
  refine⟨[Gc (.int n)],rfl,by simp,?_⟩
  unfold prD
  generalize oD (lk a n)=A at*
  generalize oD (lk b n)=B at*
  simp[hx,hy,SW,v1,v2,sz])
 rw[qU]at c
 exact c
theorem k8(hq:S[q]?=Gc (.lst ((clL a b).map (prD a b)))):CC [(q,(clL a b).map (prD a b))] (tNm 0) By (BL [eIx (eV 0) (eI 0),eIx (eV 0) (eI 2),eIx (eV 0) (eI 1)]) ((clL a b).map (prD a b)) [] [none] S=Gc ((clL a b).map λn:Nat=>D.tup [.int (n:Int),oD (lk b n),oD (lk a n)],S):=by
 have l10:=P1 (a:=a) (b:=b)
 have c:=DU (gs:=[(q,(clL a b).map (prD a b))]) (t:=tNm 0) (f:=BL [eIx (eV 0) (eI 0),eIx (eV 0) (eI 2),eIx (eV 0) (eI 1)]) (C:=[]) (m:=1) (e:=prD a b) (g:=λn:Nat=>D.tup [.int (n:Int),oD (lk b n),oD (lk a n)]) (S:=S) (λg hg=>by rw[qV.mp hg];exact AR hq) (xs:=clL a b) (acc:=[]) (os:=[none]) rfl (qD (show _<=50 by simp;lia) (AN (by decide))) (by
  intro n hn os ho
  obtain⟨o,rfl⟩:=Og ho
  have sz:(3:Nat)<=sizeLine:=AN (by decide)
  refine⟨[Gc (prD a b n)],rfl,by simp,?_⟩
  unfold prD
  generalize oD (lk a n)=A at*
  generalize oD (lk b n)=B at*
  simp[sz])
 rw[qU]at c
 exact c
theorem lN(hq:S[q]?=Gc (.lst ((clL a b).map (prD a b)))):CC [(q,(clL a b).map (prD a b))] (tNm 0) By (eOp (o1 Jq) [eV 0]) ((clL a b).map (prD a b)) [] [none] S=Gc ((clL a b).map λn:Nat=>D.lst [.int (n:Int),oD (lk a n),oD (lk b n)],S):=by
 have l10:=P1 (a:=a) (b:=b)
 have c:=DU (gs:=[(q,(clL a b).map (prD a b))]) (t:=tNm 0) (f:=eOp (o1 Jq) [eV 0]) (C:=[]) (m:=1) (e:=prD a b) (g:=λn:Nat=>D.lst [.int (n:Int),oD (lk a n),oD (lk b n)]) (S:=S) (λg hg=>by rw[qV.mp hg];exact AR hq) (xs:=clL a b) (acc:=[]) (os:=[none]) rfl (qD (show _<=50 by simp;lia) (AN (by decide))) (by
  intro n hn os ho
  obtain⟨o,rfl⟩:=Og ho
  refine⟨[Gc (prD a b n)],rfl,by simp,?_⟩
  unfold prD
  generalize oD (lk a n)=A at*
  generalize oD (lk b n)=B at*
  simp)
 rw[qU]at c
 exact c
def thB:Ex:=(xIf (ZQ (AJ FY [eV 3,eV 4,eV 7,eV 9])) (BR (eC (.bl false))) CZ)
theorem VU{e0 e1 e2 e5 e6 e8:pY D}{L:List D}(h:Eg t ls ds)(h':Eg t' ls' ds')(hL:L=(clL (tdB t ls ds) (tdB t' ls' ds')).map (prD (tdB t ls ds) (tdB t' ls' ds')))(hq:S[q]?=Gc (.lst L)):∀{xs:List D} {S':Sto} {o:pY D},(∀x∈xs,Th x)->Ca [] S S'->∃o' S2,IV [] (tNm 9) thB xs [e0,e1,e2,Gc (Av t ls ds),Gc (Av t' ls' ds'),e5,e6,Gc (.ref q),e8,o] S'=Gc (.nx,[e0,e1,e2,Gc (Av t ls ds),Gc (Av t' ls' ds'),e5,e6,Gc (.ref q),e8,o'],S2)/\Ca [] S S2
 | [],S',o,hx,s=>⟨o,S',by rw[EI Ah],s⟩
 |x::xs,S',o,hx,s=>by
  obtain⟨S1,e,s1⟩:=Ye (S:=S') (hx x qH) h h' hL (s.get hq (by simp))
  obtain⟨o',S2,f,s2⟩:=VU (e0:=e0) (e1:=e1) (e2:=e2) (e5:=e5) (e6:=e6) (e8:=e8) h h' hL hq (xs:=xs) (S':=S1) (o:=Gc x) (λy z=>hx y (qC _ z)) (s.trans s1)
  refine⟨o',S2,?_,s2⟩
  rw[Bq Ah]
  generalize Av t ls ds=B at*
  generalize Av t' ls' ds'=B' at*
  simp[thB,e]
  exact f
end
end Mi
end
noncomputable section
namespace Mi
open PySem PySem.Spec L2 PyProof.Rows
section
variable{S:Sto}{p q:Nat}{t t':Tr}{ls ls':List Ld}{ds ds':List AV}
def otB:Ex:=(AU (Nz (tTp [tNm 5,tNm 6]) (BL [AJ Bl [eV 3],AJ Bl [eV 4]]))
    (AU (A4 7 (AJ CV [eV 5,eV 6]))
    (AU (A4 8 (eOp (o2 Be) [eV 7,Cc [5,6] 1 (K8 [eI 11]) (tNm 2) By (BL [eV 2,GW (eV 0) (eV 2),GW (eV 1) (eV 2)])]))
    (AU (A4 8 (eOp (o2 Be) [eOp (o2 Be) [eV 8,Cc [] 1 (Fp (eV 7)) (tNm 0) By (BL [eIx (eV 0) (eI 0),eIx (eV 0) (eI 2),eIx (eV 0) (eI 1)])],Cc [] 1 (Fp (eV 7)) (tNm 0) By (eOp (o1 Jq) [eV 0])]))
    (AU (A4 8 (eOp (o2 Be) [eV 8,Cc [2] 1 (Fp (eOp (o2 Be) [eV 7,eV 7])) (tNm 1) By (AJ (BW 8) [eV 0,eV 1])]))
    (IF (Fp (eOp (o2 Be) [eV 8,GH [eC .non,BL [],BL [eI 0,eC .non,eC .non],BL [eC (.bl true),eC .non,eC .non],BL [eI 1,eC .non],AJ (BA 8) [eV 2,eI 3]]])) (tNm 9) thB))))))
theorem dD{e0 e1 u5 u6 u7 u8 u9:pY D}(h:Eg t ls ds)(h':Eg t' ls' ds')(hp:Bg p S):∃us S',us.length=5/\otB [e0,e1,Gc (.ref p),Gc (Av t ls ds),Gc (Av t' ls' ds'),u5,u6,u7,u8,u9] S=Gc (.nx,[e0,e1,Gc (.ref p),Gc (Av t ls ds),Gc (Av t' ls' ds')]++us,S')/\Bg p S':=by
 obtain⟨q5,S1,x1,a1,s1,n1⟩:=Gq (S:=S) h
 obtain⟨q6,S2,x2,a2,s2,n2⟩:=Gq (S:=S1) h'
 have k1:∀{T:Sto},Ca [] S2 T->ML T (.ref q5)=Gc (CS (tdB t ls ds)):=λz=>OR (z.get (s2.get a1 (by simp)) (by simp))
 have k2:∀{T:Sto},Ca [] S2 T->ML T (.ref q6)=Gc (CS (tdB t' ls' ds')):=λz=>OR (z.get a2 (by simp))
 obtain⟨q7,S3,x3,a3,s3⟩:=UM (S:=S2) (x:=.ref q5) (y:=.ref q6) k1 k2
 have g1:=jg (S:=S3) (k1 s3) (k2 s3)
 have g2:=k8 a3
 have g3:=lN a3
 have l10:=P1 (a:=tdB t ls ds) (b:=tdB t' ls' ds')
 have s03:Ca [] S S3:=(s1.trans s2).trans s3
 have p3:Bg p S3:=by
  obtain⟨pd,pe,ph⟩:=hp
  exact⟨pd,s03.get pe (by simp),ph⟩
 have ne:q7≠p:=by
  intro z
  obtain⟨pd,pe,x,_,_,_,rfl,_⟩:=p3
  rw[z,pe]at a3
  injection a3 with a3
  injection a3 with a3
  cases hc:clL (tdB t ls ds) (tdB t' ls' ds')with
  |nil=>rw[hc]at a3;cases a3
  |cons n r=>
   rw[hc,qS]at a3
   injection a3 with a3
   cases a3
 have sj:∀d∈(clL (tdB t ls ds) (tdB t' ls' ds')).map (prD (tdB t ls ds) (tdB t' ls' ds'))++(clL (tdB t ls ds) (tdB t' ls' ds')).map (prD (tdB t ls ds) (tdB t' ls' ds')),SjN 2 d:=λd hd=>by
  have hd:d∈(clL (tdB t ls ds) (tdB t' ls' ds')).map (prD (tdB t ls ds) (tdB t' ls' ds')):=(qW.mp hd).elim id id
  obtain⟨n,hn,rfl⟩:=qi.mp hd
  have:n<10:=uu.mp (se.mp hn).1
  exact j5 h h' (tJ this (by decide))
 obtain⟨Xs,S4,x4,t4,l4,p4⟩:=spC (o:=none) (acc:=[]) sj p3 (by simp;lia)
 rw[qU]at x4
 obtain⟨W,S5,x5,t5,p5⟩:=Oa (n:=8) (d:=3) (by decide) p4.pen
 rw[show((3:Nat):Int)=3 from rfl]at x5
 have a4:=p4.get a3 ne
 have a5:=p5.get a4 ne
 have hl7:((clL (tdB t ls ds) (tdB t' ls' ds')).map (prD (tdB t ls ds) (tdB t' ls' ds'))).length<=10:=by rw[qP];exact l10
 have hlB:((clL (tdB t ls ds) (tdB t' ls' ds')).map λn:Nat=>D.tup [.int (n:Int),oD (lk (tdB t' ls' ds') n),oD (lk (tdB t ls ds) n)]).length<=10:=by rw[qP];exact l10
 have hlC:((clL (tdB t ls ds) (tdB t' ls' ds')).map λn:Nat=>D.lst [.int (n:Int),oD (lk (tdB t ls ds) n),oD (lk (tdB t' ls' ds') n)]).length<=10:=by rw[qP];exact l10
 have hlP:((qR 11).map (prD (tdB t ls ds) (tdB t' ls' ds'))).length=11:=by simp
 have thL:∀x∈(clL (tdB t ls ds) (tdB t' ls' ds')).map (prD (tdB t ls ds) (tdB t' ls' ds')),Th x:=λx hx=>by
  obtain⟨n,_,rfl⟩:=qi.mp hx;exact gS
 have thP:∀x∈(qR 11).map (prD (tdB t ls ds) (tdB t' ls' ds')),Th x:=λx hx=>by
  obtain⟨n,_,rfl⟩:=qi.mp hx;exact gS
 have th3:∀(n:Nat) (x y:D),Th x->Th y->∀d∈ [D.int (n:Int),x,y],Th d:=λn x y hx hy d hd=>by
  simp only[qA,qT,rP]at hd
  rcases hd with rfl|rfl|rfl
  .exact .int _
  .exact hx
  .exact hy
 have thB':∀x∈(clL (tdB t ls ds) (tdB t' ls' ds')).map λn:Nat=>D.tup [.int (n:Int),oD (lk (tdB t' ls' ds') n),oD (lk (tdB t ls ds) n)],Th x:=λx hx=>by
  obtain⟨n,_,rfl⟩:=qi.mp hx
  exact .tup (th3 n _ _ W6 W6) (by show 3<=1000;decide)
 have thC:∀x∈(clL (tdB t ls ds) (tdB t' ls' ds')).map λn:Nat=>D.lst [.int (n:Int),oD (lk (tdB t ls ds) n),oD (lk (tdB t' ls' ds') n)],Th x:=λx hx=>by
  obtain⟨n,_,rfl⟩:=qi.mp hx
  exact .lst (th3 n _ _ W6 W6) (by show 3<=1000;decide)
 have thE:∀x∈ [D.non,.tup [],.tup [.int 0,.non,.non],.tup [.bl true,.non,.non],.tup [.int 1,.non],W],Th x:=λx hx=>by
  have t3:∀a:D,Th a->Th (.tup [a,.non,.non]):=λa ha=>.tup (λd hd=>by
   simp only[qA,qT,rP]at hd
   rcases hd with rfl|rfl|rfl
   .exact ha
   .exact .non
   .exact .non) (by show 3<=1000;decide)
  simp only[qA,qT,rP]at hx
  rcases hx with rfl|rfl|rfl|rfl|rfl|rfl
  .exact .non
  .exact .tup (λ_ z=>nomatch z) (by show 0<=1000;decide)
  .exact t3 _ (.int _)
  .exact t3 _ (.bl _)
  .exact .tup (λd hd=>by
    simp only[qA,qT,rP]at hd
    rcases hd with rfl|rfl
    .exact .int _
    .exact .non) (by show 2<=1000;decide)
  .exact t5
 have sq3:=Dv a3
 have d3:=Aq a3
 have d4:=Aq a4
 have lp:=λ(e8:pY D) (xs:List D) (hx:∀x∈xs,Th x)=>VU (S:=S5) (S':=S5) (o:=u9) (e0:=e0) (e1:=e1) (e2:=Gc (.ref p)) (e5:=Gc (.ref q5)) (e6:=Gc (.ref q6)) (e8:=e8) h h' rfl a5 (xs:=xs) hx .refl
 generalize hL:(clL (tdB t ls ds) (tdB t' ls' ds')).map (prD (tdB t ls ds) (tdB t' ls' ds'))=L at*
 generalize hP:(qR 11).map (prD (tdB t ls ds) (tdB t' ls' ds'))=P at*
 generalize ((clL (tdB t ls ds) (tdB t' ls' ds')).map λn:Nat=>D.tup [.int (n:Int),oD (lk (tdB t' ls' ds') n),oD (lk (tdB t ls ds) n)])=LB at*
 generalize ((clL (tdB t ls ds) (tdB t' ls' ds')).map λn:Nat=>D.lst [.int (n:Int),oD (lk (tdB t ls ds) n),oD (lk (tdB t' ls' ds') n)])=LC at*
 obtain⟨o9,S6,x6,s6⟩:=lp (Gc (.lst (L++P++LB++LC++Xs))) (L++P++LB++LC++Xs++[D.non,.tup [],.tup [.int 0,.non,.non],.tup [.bl true,.non,.non],.tup [.int 1,.non],W]) (λx hx=>by
  simp only[qW]at hx
  rcases hx with((((z|z)|z)|z)|z)|z
  .exact thL x z
  .exact thP x z
  .exact thB' x z
  .exact thC x z
  .exact t4 x z
  .exact thE x z)
 have l4':Xs.length<=20:=by rw[l4,qw];lia
 have big:∀n:Nat,n<=100->n<=sizeLine:=λn hn=>qD hn (AN (by decide))
 have z1:L.length+P.length<=sizeLine:=big _ (by lia)
 have z2:L.length+P.length+LB.length<=sizeLine:=big _ (by lia)
 have z3:L.length+P.length+LB.length+LC.length<=sizeLine:=big _ (by lia)
 have z4:L.length+L.length<=sizeLine:=big _ (by lia)
 have z5:L.length+P.length+LB.length+LC.length+Xs.length<=sizeLine:=big _ (by lia)
 have z6:L.length+P.length+LB.length+LC.length+Xs.length+6<=sizeLine:=big _ (by lia)
 have y3:L.length+(P.length+LB.length)+LC.length<=sizeLine:=big _ (by lia)
 have y5:L.length+(P.length+(LB.length+LC.length))+Xs.length<=sizeLine:=big _ (by lia)
 have y6:L.length+(P.length+(LB.length+(LC.length+Xs.length)))+6<=sizeLine:=big _ (by lia)
 have sz6:=big 6 (by decide)
 have sz3:=big 3 (by decide)
 have sz2:=big 2 (by decide)
 have r11:Ho 11=true:=C4 (by decide) (by decide)
 have p6:Bg p S6:=by
  obtain⟨pd,pe,ph⟩:=p5.pen
  exact⟨pd,s6.get pe (by simp),ph⟩
 refine⟨[Gc (.ref q5),Gc (.ref q6),Gc (.ref q7),Gc (.lst (L++P++LB++LC++Xs)),o9],S6,rfl,?_,p6⟩
 generalize Av t ls ds=B at*
 generalize Av t' ls' ds'=B' at*
 simp only[rz]at x6⊢
 simp[otB,x1,x2,x3,sz6,sz3,sz2,r11,Qf,g1,d3,z1,sq3,g2,g3,z2,z3,z4,x4,z5,x5,z6,y3,y5,y6,x6]
def iV:Ex:=(AU (A4 2 (AJ Hv [AJ C2 [eV 0,eV 1]]))
    (AU (A4 3 (AJ B2 [eV 2]))
    (IF (Fp (BL [AJ DA [eV 2,eV 3],AJ B2 [eV 2]])) (tNm 4) otB)))
theorem dC{ns:List Int}{k:Nat}{us:En}(hu:us.length=8):∃us' S',us'.length=8/\iV ([Gc (.scr ns),Gc (.int k)]++us) S=Gc (.nx,[Gc (.scr ns),Gc (.int k)]++us',S'):=by
 obtain⟨u2,u3,u4,u5,u6,u7,u8,u9,rfl⟩:∃a b c d e f g h,us=[a,b,c,d,e,f,g,h]:=by
  match us,hu with
  | [a,b,c,d,e,f,g,h],_=>exact⟨a,b,c,d,e,f,g,h,rfl⟩
 obtain⟨c,e0⟩:=az (S:=S) (ns:=ns) (k:=k)
 obtain⟨p,S1,e1,p1,s1,l1⟩:=ff (S:=S) c
 obtain⟨t,ls,ds,S2,e2,⟨b2,m2⟩,p2,k2⟩:=NX p1
 have g2:=b2.g
 obtain⟨x3,S3,e3,b3,p3,k3⟩:=Qb p2 g2 m2
 obtain⟨t4,ls4,ds4,S4,e4,⟨b4,m4⟩,p4,k4⟩:=NX p3
 obtain⟨v,S5,lv,e5,p5⟩:=dD (e0:=Gc (.scr ns)) (e1:=Gc (.int k)) (u5:=u5) (u6:=u6) (u7:=u7) (u8:=u8) (u9:=u9) g2 b3 p4
 obtain⟨v5,v6,v7,v8,v9,rfl⟩:∃a b c d e,v=[a,b,c,d,e]:=by
  match v,lv with
  | [a,b,c,d,e],_=>exact⟨a,b,c,d,e,rfl⟩
 obtain⟨w,S6,lw,e6,p6⟩:=dD (e0:=Gc (.scr ns)) (e1:=Gc (.int k)) (u5:=v5) (u6:=v6) (u7:=v7) (u8:=v8) (u9:=v9) g2 b4.g p5
 have sz2:(2:Nat)<=sizeLine:=AN (by decide)
 refine⟨[Gc (.ref p),Gc (Av t ls ds),Gc (Av t4 ls4 ds4)]++w,S6,by simp[lw],?_⟩
 generalize Av (tM t.k) [] (mds 0 x3)=B3 at*
 generalize Av t4 ls4 ds4=B4 at*
 generalize Av t ls ds=B at*
 simp only[rF,qU]at e5 e6⊢
 have ef:IV [] (tNm 4) otB [B3,B4] [Gc (.scr ns),Gc (.int k),Gc (.ref p),Gc B,u4,u5,u6,u7,u8,u9] S4=Gc (.nx,Gc (.scr ns)::Gc (.int k)::Gc (.ref p)::Gc B::Gc B4::w,S6):=by
  rw[Bq Ah]
  simp[e5]
  rw[Bq Ah]
  simp[e6,EI Ah]
 simp[iV,e0,e1,e2,e3,e4,sz2,ef]
theorem gN(ns:List Int)(h:ns.length<=63):∃S',OP [.scr ns] S=Gc (.bl true,S'):=by
 obtain⟨n,hn,hn2⟩:∃n:Nat,(if(if(2:Int)<ns.length then(2:Int)else ns.length)>1 then(if(2:Int)<ns.length then(2:Int)else ns.length)else 1)=(n:Int)/\n<=3:=by
  refine⟨(if(if(2:Int)<ns.length then(2:Int)else ns.length)>1 then(if(2:Int)<ns.length then(2:Int)else ns.length)else 1).toNat,?_,?_⟩
  .split<;>split<;>lia
  .split<;>split<;>lia
 have rn:Ho (n:Int)=true:=C4 (by lia) (by lia)
 obtain⟨E',S',ef,q1,us,_,_,rfl⟩:=HV (gs:=[]) (t:=tNm 1) (b:=iV)
  (I:=λrs E S'=>∃(o1:pY D) (us:En),(∀d∈rs,∃k:Nat,d=.int k)/\us.length=8/\E=[Gc (.scr ns),o1]++us)
  (λ_ _ _ _=>Ah) (ds:=Kb 0 n) (E:=[Gc (.scr ns),none,none,none,none,none,none,none,none,none]) (S:=S)
  ⟨none,[none,none,none,none,none,none,none,none],by
    intro d hd
    obtain⟨k,_,rfl⟩:=qi.mp hd
    exact⟨k,by simp⟩,rfl,rfl⟩ (by
    rintro dd rs E T ⟨o1,us,i1,i2,rfl⟩
    obtain⟨k,rfl⟩:=i1 dd qH
    obtain⟨us',T2,l2,e⟩:=dC (S:=T) (ns:=ns) (k:=k) i2
    exact⟨_,_,T2,by simp,e,Gc (.int k),us',λd hd=>i1 d (qC _ hd),l2,rfl⟩)
 refine⟨S',?_⟩
 have eb:Sq=AU (IF (K8 [eOp (o2 gr) [eI 1,eOp (o2 Y6) [eOp (o1 HP) [eV 0],eI 2]]]) (tNm 1) iV) (BR (eC (.bl true))):=rfl
 unfold OP
 rw[eb]
 simp[hn,rn,ef]
end
end Mi
end
noncomputable section
namespace Mi
open PySem PySem.Spec L2
open PyProof.Rows (boot_isinstance boot_int boot_bool boot_tuple boot_str boot_list boot_abs boot_all boot_any boot_sum boot_max boot_min boot_range boot_enumerate boot_zip boot_sorted boot_set boot_divmod)
structure All(w:qq)(K:pV)(mg:Str->pY pW):Prop where
 bt:Bts mg
 Ej:St.Src K mg "is_whole" Ej
 Co:St.Src K mg "are_same" Co
 FP:St.Src K mg "is_same" FP
 DF:St.Src K mg "has_pieces" DF
 EW:St.Src K mg "can_pool" EW
 Ea:St.Src K mg "can_swap" Ea
 EC:St.Src K mg "can_do" EC
 Cg:St.Src K mg "held_without" Cg
 Cu:St.Src K mg "held_behind" Cu
 BO:St.Src K mg "held_at_first" BO
 Fm:St.Src K mg "held_by" Fm
 Cw:St.Src K mg "first_wrong" Cw
 CG:St.Src K mg "refuse_undone" CG
 Ct:St.Src K mg "trades_told" Ct
 Bs:St.Src K mg "seen_from_there" Bs
 Al:St.Src K mg "clashes_told" Al
 Bw:St.Src K mg "clash_holds" Bw
 HZ:St.Src K mg "_law_pen" HZ
 Dt:St.Src K mg "_law_cell_at" Dt
 Gb:St.Src K mg "_law_draw" Gb
 Ee:St.Src K mg "_law_common" Ee
 GK:St.Src K mg "_law_made" GK
 Cf:St.Src K mg "_law_whole" Cf
 FU:St.Src K mg "_law_train" FU
 ET:St.Src K mg "_law_pieces" ET
 Fh:St.Src K mg "_law_first" Fh
 Dd:St.Src K mg "_law_begun" Dd
 FV:St.Src K mg "_law_share" FV
 Cq:St.Src K mg "_law_worths" Cq
 CW:St.Src K mg "_law_deed" CW
 GY:St.Src K mg "_law_plus" GY
 FR:St.Src K mg "_law_times" FR
 EO:St.Src K mg "_law_pooled" EO
 EF:St.Src K mg "_law_cost" EF
 GJ:St.Src K mg "_law_less" GJ
 Fd:St.Src K mg "_law_borne" Fd
 Ge:St.Src K mg "_law_sold" Ge
 Gk:St.Src K mg "_law_turn" Gk
 G8:St.Src K mg "_law_do" G8
 EB:St.Src K mg "_law_book" EB
 Ce:St.Src K mg "_law_book_of" Ce
 Bh:St.Src K mg "_law_trading" Bh
 B1:St.Src K mg "_law_states" B1
 EN:St.Src K mg "_law_trades" EN
 DJ:St.Src K mg "_law_mirrored" DJ
 CD:St.Src K mg "_law_all_clashes" CD
 DY:St.Src K mg "_law_thing" DY
 EL:St.Src K mg "_law_spoilt" EL
 D9:St.Src K mg "_law_same" D9
 DZ:St.Src K mg "_law_is_so" DZ
 Du:St.Src K mg "law" Du
section
variable{P:qa}{w:qq}{K:pV}{mg:Str->pY pW}{base:qu}
theorem Yk{f:pz}{fd:tU}(F:Fun K "law" "law" Du f fd)(B:Bts mg)(Hc:O0 P w K mg base)(Dw:JY P w K mg base)(C7:JW P w K mg base)(Bz:Hx P w K mg base)(DB:IJ P w K mg base)(CT:GZ P w K mg base)(Bf:LN P w K mg base 8)(Cd:Pt P w K mg base 8)(Fe:Lr P w K mg base):PU P w K mg base CX0 20 f fd ["_law_script"] (spD K 1 OP):=by
 refine dB (k:=19) F DQ rfl λcdv A outer s H E hr=>?_
 have hu:=Uk hr
 exact(AG (D5 qv rfl (EE rfl B.range (AA (Ab (Sv rfl) rfl B.max boot_max (AA AE (AA (Ab (L0 rfl) rfl B.min boot_min (AA (Ab BY rfl B.len t8 (AA (AB 0) AD)) (AA AE AD))) AD))) AD)) (Aj 1 DQ.nd) (AG (Ac 2 (deM Hc hr (AA (deM Dw hr (AA (AB 0) (AA (AB 1) AD))) AD)) DQ.nd)
      (AG (Ac 3 (deM C7 hr (AA (AB 2) AD)) DQ.nd)
      (AL (D5 qv rfl (B7 (Ak (AA (deM DB hr (AA (AB 2) (AA (AB 3) AD))) (AA (deM C7 hr (AA (AB 2) AD)) AD)))) (Aj 4 DQ.nd) (AG (HI (Ak (AA (deM Bz hr (AA (AB 3) AD)) (AA (deM Bz hr (AA (AB 4) AD)) AD))) (GB rfl (AO (Aj 5 DQ.nd) (AO (Aj 6 DQ.nd) CB))))
      (AG (Ac 7 (deM CT hr (AA (AB 5) (AA (AB 6) AD))) DQ.nd)
      (AG (Ac 8 (Ag AY (AB 7) (CP [5,6] 1 ["_law_mine","_law_its","_law_number"] rfl SO (EE rfl B.range (AA AE AD)) (λs H fp=>⟨Aj 2 Rk,CJ,Ak (AA (AB 2) (AA (J0 hu (AB 0) (AB 2) ⟨rfl,rfl,rfl,rfl⟩) (AA (J0 hu (AB 1) (AB 2) ⟨rfl,rfl,rfl,rfl⟩) AD)))⟩))) DQ.nd)
      (AG (Ac 8 (Ag AY (Ag AY (AB 8) (CP [] 1 ["_law_row"] rfl Rr (B7 (AB 7)) (λs H fp=>⟨Aj 0 Rf,CJ,Ak (AA (AM Ae (AB 0) AE) (AA (AM Ae (AB 0) AE) (AA (AM Ae (AB 0) AE) AD)))⟩))) (CP [] 1 ["_law_row"] rfl Rh (B7 (AB 7)) (λs H fp=>⟨Aj 0 Rq,CJ,Ay H0 rfl B.list xJ (AA (AB 0) AD)⟩))) DQ.nd)
      (AG (Ac 8 (Ag AY (AB 8) (CP [2] 1 ["_law_pen_here","_law_row"] rfl SQ (B7 (Ag AY (AB 7) (AB 7))) (λs H fp=>⟨Aj 1 Rw,CJ,deM Cd hr (AA (AB 0) (AA (AB 1) AD))⟩))) DQ.nd)
      (AL (D5 qv rfl (B7 (Ag AY (AB 8) (BS (AA Ef (AA (Ak AD) (AA (Ak (AA AE (AA Ef (AA Ef AD)))) (AA (Ak (AA P5 (AA Ef (AA Ef AD)))) (AA (Ak (AA AE (AA Ef AD))) (AA (deM Bf hr (AA (AB 2) (AA AE AD))) AD))))))))) (Aj 9 DQ.nd) (AL (Bo (Zi (HS (deM Fe hr (AA (AB 3) (AA (AB 4) (AA (AB 7) (AA (AB 9) AD))))))) (AL (AW P5)) Ap))))))))))))))
      (AL (AW P5)))
theorem dO{f:pz}{fd:tU}(F:Fun K "law" "law" Du f fd)(T:All w K mg):PU P w K mg base CX0 20 f fd ["_law_script"] (spD K 1 OP):=by
 have B:=T.bt
 have Dr:=Dr (P:=P) (w:=w) (base:=base) T.Ej B
 obtain⟨d_p_are_same,d_p_is_same⟩:=fZ (P:=P) (w:=w) (base:=base) T.Co T.FP B Dr 8 (by decide)
 have A3:=A3 (P:=P) (w:=w) (base:=base) T.DF B
 have Eh:=Eh (P:=P) (w:=w) (base:=base) T.EW A3
 have Di:=Di (P:=P) (w:=w) (base:=base) T.Ea A3
 have GX:=GX (P:=P) (w:=w) (base:=base) T.EC A3 Eh Di
 have BM:=BM (P:=P) (w:=w) (base:=base) T.Cg
 have BV:=BV (P:=P) (w:=w) (base:=base) T.Cu BM
 have BD:=BD (P:=P) (w:=w) (base:=base) T.BO
 have Fg:=Fg (P:=P) (w:=w) (base:=base) T.Fm BV BD
 have Cz:=Cz (P:=P) (w:=w) (base:=base) T.Cw B GX BV BD
 have Bp:=Bp (P:=P) (w:=w) (base:=base) T.CG Cz
 have CM:=CM (P:=P) (w:=w) (base:=base) T.Ct B Fg
 have Bu:=Bu (P:=P) (w:=w) (base:=base) T.Bs
 have Ci:=Ci (P:=P) (w:=w) (base:=base) T.Al B CM Bu
 have Cr:=Cr (P:=P) (w:=w) (base:=base) T.Bw B d_p_is_same Bp Ci
 have Hc:=Hc (P:=P) (w:=w) (base:=base) T.HZ B
 have Dw:=Dw (P:=P) (w:=w) (base:=base) T.Dt B
 have AI:=AI (P:=P) (w:=w) (base:=base) T.Gb
 have ES:=ES (P:=P) (w:=w) (base:=base) T.Ee
 have Az:=Az (P:=P) (w:=w) (base:=base) T.GK B ES
 have Cs:=Cs (P:=P) (w:=w) (base:=base) T.Cf B AI Az
 have FQ:=FQ (P:=P) (w:=w) (base:=base) T.FU AI Cs
 have Bj:=Bj (P:=P) (w:=w) (base:=base) T.ET AI
 have Fc:=Fc (P:=P) (w:=w) (base:=base) T.Fh B AI Cs Bj
 have Bt:=Bt (P:=P) (w:=w) (base:=base) T.Dd B
 have FO:=FO (P:=P) (w:=w) (base:=base) T.FV AI Az
 have EZ:=EZ (P:=P) (w:=w) (base:=base) T.Cq B AI
 have Gh:=Gh (P:=P) (w:=w) (base:=base) T.CW B AI Bj FO EZ
 have Ba:=Ba (P:=P) (w:=w) (base:=base) T.GY Az
 have BJ:=BJ (P:=P) (w:=w) (base:=base) T.FR Az
 have EM:=EM (P:=P) (w:=w) (base:=base) T.EO B Az Ba BJ
 have GO:=GO (P:=P) (w:=w) (base:=base) T.EF B Az
 have Dm:=Dm (P:=P) (w:=w) (base:=base) T.GJ Ba
 have D6:=D6 (P:=P) (w:=w) (base:=base) T.Fd B Ba BJ Dm
 have FH:=FH (P:=P) (w:=w) (base:=base) T.Ge B Ba BJ Dm
 have GU:=GU (P:=P) (w:=w) (base:=base) T.Gk GO D6 FH
 have DV:=DV (P:=P) (w:=w) (base:=base) T.G8 B EM GU
 have FI:=FI (P:=P) (w:=w) (base:=base) T.EB B AI FQ Fc Bt Gh DV
 have Dx:=Dx (P:=P) (w:=w) (base:=base) T.Ce B FI
 have C7:=C7 (P:=P) (w:=w) (base:=base) T.Bh B AI Bt DV Dx
 have EU:=EU (P:=P) (w:=w) (base:=base) T.B1 B Bt DV
 have Bz:=Bz (P:=P) (w:=w) (base:=base) T.EN EU
 have DB:=DB (P:=P) (w:=w) (base:=base) T.DJ B AI Bz
 have CT:=CT (P:=P) (w:=w) (base:=base) T.CD B
 have Bf:=Bf (P:=P) (w:=w) (base:=base) T.DY B AI 8 (by decide)
 have Cd:=Cd (P:=P) (w:=w) (base:=base) T.EL B AI Bf 8 (by decide)
 have Dj:=Dj (P:=P) (w:=w) (base:=base) T.D9 B 8 (by decide)
 have Fe:=Fe (P:=P) (w:=w) (base:=base) T.DZ B Cr Dj
 exact Yk (P:=P) (w:=w) (base:=base) F B Hc Dw C7 Bz DB CT Bf Cd Fe
theorem gc{l:wo}{fa:pz}(hfa:mg "law"=Gc (.ref fa))(T:All w K mg):∃fd:tU,(∀(s:pX) (v:pW),BindsTo s fd ⟨[v],[]⟩ [("_law_script",v)])/\∀base:qu,K.In base->base.Ns mainGlobals mg->PU l.prog w K mg base CX0 20 fa fd ["_law_script"] (cW K):=by
 obtain⟨f,fd,F,hm⟩:=T.Du.ex
 have e:=hfa.symm.trans hm
 cases e
 refine⟨fd,λs v=>?_,λbase _ _=>?_⟩
 .obtain⟨oc,od,kV,doc,pm,an,cdv,ct,osl,hfd,_⟩:=F.ex
  subst hfd
  exact .of_eq rfl
 .exact dA (dO (P:=l.prog) (w:=w) (base:=base) F T) λns hl=>gN ns hl
end
theorem walk{l:wo}{q:qa}{loose:List Str}{XP:(Str->pY pW)->qu->Prop}{YP:qq->qu->Prop}{d:DefRec}{K:Params->pV}(hn:l.most=Gc 63)(hdf:d.params.defaults=[])(hY:∀(w:qq) (h:qu),YP w h->(K w.params).In h)(hd:d.name="law")(F:∀(w:qq) (mg:Str->pY pW) (h:qu),(K w.params).In h->h.Ns mainGlobals mg->All w (K w.params) mg):PySem.W.WalkO q loose XP YP l.row.toRowW d [] (λf vs=>PySem.call f vs):=
 L2.bf (n:=63) (k:=20) (x:="_law_script") (CX:=λ_=>CX0) (sp:=λw=>cW (K w.params)) hn (by decide) hdf ⟨rfl,by decide,by decide⟩ hY (λw mg fa h KX G hmg=>gc (by rw[<-hd];exact hmg) (F w mg h KX G)) (λ_ _ a ns hl _ hS=>⟨a,ns,rfl,hS,hl,λ_=>rfl⟩) λ_ _ _ _ _ z=>z
end Mi
end
noncomputable section
namespace PySem.W.Fast
theorem tw3200919526043228855:1=1:=rfl
theorem tw4500403801485510174:1=1:=rfl
theorem tw13026473230791409010:1=1:=rfl
theorem tw9791331132810375815:1=1:=rfl
theorem tw11598647294283773001:1=1:=rfl
theorem tw6649236218088568770:1=1:=rfl
theorem tw10217171871063913482:1=1:=rfl
theorem tw10043170057641445935:1=1:=rfl
theorem tw4434544401114964069:1=1:=rfl
theorem tw107783008492062459:1=1:=rfl
theorem tw7075942990112199971:1=1:=rfl
theorem tw18019635082788019303:1=1:=rfl
theorem tw12125442967138989920:1=1:=rfl
theorem tw4346693695639437287:1=1:=rfl
theorem tw3391228225718087132:1=1:=rfl
theorem tw18025437618617798772:1=1:=rfl
theorem tw12675759537834748579:1=1:=rfl
theorem tw1007701083410772346:1=1:=rfl
theorem tw13915581582583515464:1=1:=rfl
theorem tw13334275579178877792:1=1:=rfl
theorem tw3653814433236273597:1=1:=rfl
theorem tw15385485634073795282:1=1:=rfl
theorem tw16516149825023886759:1=1:=rfl
theorem tw15104448840396062598:1=1:=rfl
theorem tw17059157160588185943:1=1:=rfl
theorem tw13363172138499253526:1=1:=rfl
theorem tw5976537582606643083:1=1:=rfl
theorem tw16600289549701961270:1=1:=rfl
theorem tw10356514656601805667:1=1:=rfl
theorem tw4747312307470388220:1=1:=rfl
theorem tw15875480500917196918:1=1:=rfl
theorem tw9691493951374624310:1=1:=rfl
theorem tw17802337531809501232:1=1:=rfl
theorem tw6407156185039195311:1=1:=rfl
theorem tw3586799687285293536:1=1:=rfl
theorem tw7623050698303972385:1=1:=rfl
theorem tw5757025788430098306:1=1:=rfl
theorem tw593080246605572382:1=1:=rfl
theorem tw6903690086195051884:1=1:=rfl
theorem tw6653930491817089989:1=1:=rfl
theorem tw3944871705236398518:1=1:=rfl
theorem tw9822217184841256636:1=1:=rfl
theorem tw15831302880238224901:1=1:=rfl
theorem tw13275029545340295958:1=1:=rfl
theorem tw9390118760589621154:1=1:=rfl
theorem tw17576682975290262562:1=1:=rfl
theorem tw11950314823276898905:1=1:=rfl
theorem tw16679011085759422796:1=1:=rfl
theorem tw2642388745803885460:1=1:=rfl
theorem tw12704436415682828791:1=1:=rfl
theorem tw14749734428734292103:1=1:=rfl
theorem tw14793520635444580321:1=1:=rfl
theorem tw4823670790120404631:1=1:=rfl
theorem tw9354485598674659891:1=1:=rfl
theorem tw7138976701559651527:1=1:=rfl
theorem tw16688073895589391035:1=1:=rfl
theorem tw1180497706480153819:1=1:=rfl
theorem tw13806402866047905906:1=1:=rfl
theorem tw14752440032604076684:1=1:=rfl
theorem tw384019916975347269:1=1:=rfl
theorem tw6909245977176002137:1=1:=rfl
theorem tw7356087847045714827:1=1:=rfl
theorem tw17978000337962452687:1=1:=rfl
theorem tw613562229673879025:1=1:=rfl
theorem tw3472420415324799035:1=1:=rfl
theorem tw4043339275142749095:1=1:=rfl
theorem tw10183551067461556502:1=1:=rfl
theorem tw16170528585724875461:1=1:=rfl
theorem tw11996315167005187944:1=1:=rfl
theorem tw10764812638903224147:1=1:=rfl
theorem tw10614655082766179564:1=1:=rfl
theorem tw2159771690566329897:1=1:=rfl
theorem tw8537866716051908317:1=1:=rfl
theorem tw6628147684084219020:1=1:=rfl
theorem tw15877890849006250954:1=1:=rfl
theorem tw6339102985283356108:1=1:=rfl
theorem tw2232109783135216727:1=1:=rfl
theorem tw15744699471711422602:1=1:=rfl
theorem tw3693123674232377904:1=1:=rfl
theorem tw9807663872620972139:1=1:=rfl
theorem tw18198452471520170192:1=1:=rfl
theorem tw13101311903722642257:1=1:=rfl
theorem tw13836323132258820800:1=1:=rfl
theorem tw2919909725261963666:1=1:=rfl
theorem tw11785027767020423588:1=1:=rfl
theorem tw17169497121400048443:1=1:=rfl
theorem tw10943937452843510861:1=1:=rfl
theorem tw16007579600215184069:1=1:=rfl
theorem tw323744380599447933:1=1:=rfl
theorem tw14143909930304024553:1=1:=rfl
theorem tw18112871958290570769:1=1:=rfl
theorem tw2214261437826229831:1=1:=rfl
theorem tw3624851224472236851:1=1:=rfl
theorem tw16973438614829180264:1=1:=rfl
theorem tw17162949651166217951:1=1:=rfl
theorem tw15094685564757099087:1=1:=rfl
theorem tw7232840177304861385:1=1:=rfl
theorem tw14823969048301376502:1=1:=rfl
theorem tw6326899394961739553:1=1:=rfl
theorem tw14301329569940312023:1=1:=rfl
theorem tw2754585113352648138:1=1:=rfl
theorem tw5911029637567481099:1=1:=rfl
theorem tw16005674800014453354:1=1:=rfl
theorem tw5359129844494550921:1=1:=rfl
theorem tw3586448184154307841:1=1:=rfl
theorem tw17008509058838673196:1=1:=rfl
theorem tw3154101849218245984:1=1:=rfl
theorem tw5054226211506666177:1=1:=rfl
theorem tw12810525225210226040:1=1:=rfl
theorem tw15364968001753727545:1=1:=rfl
theorem tw18194452877756547818:1=1:=rfl
theorem tw584094969760668018:1=1:=rfl
theorem tw17872172757877272708:1=1:=rfl
theorem tw16145075213248366682:1=1:=rfl
theorem tw2933480713766313939:1=1:=rfl
theorem tw9128075710122510262:1=1:=rfl
theorem tw70886794104316496:1=1:=rfl
theorem tw13145115152010439424:1=1:=rfl
theorem tw4817122359406667480:1=1:=rfl
theorem tw8416320798383761791:1=1:=rfl
theorem tw3166017050471533109:1=1:=rfl
theorem tw17753823992481671779:1=1:=rfl
theorem tw11531899403628167247:1=1:=rfl
theorem tw8281639055642277483:1=1:=rfl
theorem tw12959764996710222594:1=1:=rfl
theorem tw14119873192021334276:1=1:=rfl
theorem tw8298008181013038434:1=1:=rfl
theorem tw4956812664519050332:1=1:=rfl
theorem tw10867755560596966671:1=1:=rfl
theorem tw5089259112187204971:1=1:=rfl
theorem tw2200894324620246839:1=1:=rfl
theorem tw11911673587943653808:1=1:=rfl
theorem tw6480189733344157817:1=1:=rfl
theorem tw8343166661029996330:1=1:=rfl
theorem tw5741287677364584115:1=1:=rfl
theorem tw4763158881058336568:1=1:=rfl
theorem tw17520691659468175773:1=1:=rfl
theorem tw4217592281027843110:1=1:=rfl
theorem tw14879689226406048131:1=1:=rfl
theorem tw17842288581888250428:1=1:=rfl
theorem tw9410673539613918421:1=1:=rfl
theorem tw5681953290226752491:1=1:=rfl
theorem tw16904914775922153735:1=1:=rfl
theorem tw15091376374677327923:1=1:=rfl
theorem tw5762010055915928905:1=1:=rfl
theorem tw5109665819842970389:1=1:=rfl
theorem tw13778449453077863067:1=1:=rfl
theorem tw7851322193434586562:1=1:=rfl
theorem tw7034666035184944419:1=1:=rfl
theorem tw9183658039689080755:1=1:=rfl
theorem tw3549444325808061132:1=1:=rfl
theorem tw12364383357821671581:1=1:=rfl
theorem tw15538545104457773198:1=1:=rfl
theorem tw16937642980862019743:1=1:=rfl
theorem tw5155357311204166205:1=1:=rfl
theorem tw16282368019783015745:1=1:=rfl
theorem tw6308290966049673588:1=1:=rfl
theorem tw2425379187462627371:1=1:=rfl
theorem tw17931849380369064583:1=1:=rfl
theorem tw9605225815852571830:1=1:=rfl
theorem tw5947296059589075516:1=1:=rfl
theorem tw18004248221756397314:1=1:=rfl
theorem tw3200983478449620405:1=1:=rfl
theorem tw18255526583194186530:1=1:=rfl
theorem tw7469206773275669792:1=1:=rfl
theorem tw12153627463149663283:1=1:=rfl
theorem tw9925458892383346537:1=1:=rfl
theorem tw13546651855486600132:1=1:=rfl
theorem tw7176951958332111730:1=1:=rfl
theorem tw16359765952740636203:1=1:=rfl
theorem tw2126624616957407405:1=1:=rfl
theorem tw14142558059568160514:1=1:=rfl
theorem tw2052256917551220216:1=1:=rfl
theorem tw5270806043827489851:1=1:=rfl
theorem tw11009227668692384387:1=1:=rfl
theorem tw13919735107877600638:1=1:=rfl
theorem tw1393323025104341810:1=1:=rfl
theorem tw3103718155172391227:1=1:=rfl
theorem tw5409990404076286381:1=1:=rfl
theorem tw7766071127774201814:1=1:=rfl
theorem tw15311241515825522218:1=1:=rfl
theorem tw700558968489043918:1=1:=rfl
theorem tw3104605912862924918:1=1:=rfl
theorem tw3964262602742096723:1=1:=rfl
theorem tw10606857467399862460:1=1:=rfl
theorem tw9684689475003517990:1=1:=rfl
theorem tw1658377165503846753:1=1:=rfl
theorem tw3518764571865499056:1=1:=rfl
theorem tw8484171110421960955:1=1:=rfl
theorem tw16137892421054186662:1=1:=rfl
theorem tw10800255018599892921:1=1:=rfl
theorem tw4524129174831731542:1=1:=rfl
theorem tw13300186975446009429:1=1:=rfl
theorem tw17578690381017577160:1=1:=rfl
theorem tw3620417007272865945:1=1:=rfl
theorem tw5516609820956271479:1=1:=rfl
theorem tw10075481363818074595:1=1:=rfl
theorem tw14065687833897791674:1=1:=rfl
theorem tw365732817622753459:1=1:=rfl
theorem tw8407080319927805345:1=1:=rfl
theorem tw10174804732778307872:1=1:=rfl
theorem tw12828600559378065724:1=1:=rfl
theorem tw1231095688405601730:1=1:=rfl
theorem tw11890196237502481189:1=1:=rfl
theorem tw6749385912359167523:1=1:=rfl
end PySem.W.Fast
open PySem PySem.W PyProof.Rows
set_option maxRecDepth 100000 in
set_option maxHeartbeats 0 in
theorem PySem.Challenge.cw_sharetrail_k62_clashes_looked_at_holds : PySem.Challenge.rw_sharetrail_k62_clashes_looked_at.Holds := by
 w_on;o_law;k_head;(case hw=>w_witness2)
 k_fill
 refine Mi.walk (l:=PySem.Challenge.rw_sharetrail_k62_clashes_looked_at) rfl rfl (λw h Y=>PySem.W.kIn_of Y) rfl ?F
 case F=>
  intro w mg h KX G
  have z_abs:mg "abs"=none:=by
   refine' PySem.W.mg_none_of KX G ?z
   (case z=>k_is)
  have z_all:mg "all"=none:=by
   refine' PySem.W.mg_none_of KX G ?z
   (case z=>k_is)
  have z_any:mg "any"=none:=by
   refine' PySem.W.mg_none_of KX G ?z
   (case z=>k_is)
  have z_bool:mg "bool"=none:=by
   refine' PySem.W.mg_none_of KX G ?z
   (case z=>k_is)
  have z_enumerate:mg "enumerate"=none:=by
   refine' PySem.W.mg_none_of KX G ?z
   (case z=>k_is)
  have z_int:mg "int"=none:=by
   refine' PySem.W.mg_none_of KX G ?z
   (case z=>k_is)
  have z_isinstance:mg "isinstance"=none:=by
   refine' PySem.W.mg_none_of KX G ?z
   (case z=>k_is)
  have z_len:mg "len"=none:=by
   refine' PySem.W.mg_none_of KX G ?z
   (case z=>k_is)
  have z_list:mg "list"=none:=by
   refine' PySem.W.mg_none_of KX G ?z
   (case z=>k_is)
  have z_max:mg "max"=none:=by
   refine' PySem.W.mg_none_of KX G ?z
   (case z=>k_is)
  have z_min:mg "min"=none:=by
   refine' PySem.W.mg_none_of KX G ?z
   (case z=>k_is)
  have z_range:mg "range"=none:=by
   refine' PySem.W.mg_none_of KX G ?z
   (case z=>k_is)
  have z_set:mg "set"=none:=by
   refine' PySem.W.mg_none_of KX G ?z
   (case z=>k_is)
  have z_sorted:mg "sorted"=none:=by
   refine' PySem.W.mg_none_of KX G ?z
   (case z=>k_is)
  have z_str:mg "str"=none:=by
   refine' PySem.W.mg_none_of KX G ?z
   (case z=>k_is)
  have z_sum:mg "sum"=none:=by
   refine' PySem.W.mg_none_of KX G ?z
   (case z=>k_is)
  have z_tuple:mg "tuple"=none:=by
   refine' PySem.W.mg_none_of KX G ?z
   (case z=>k_is)
  have z_zip:mg "zip"=none:=by
   refine' PySem.W.mg_none_of KX G ?z
   (case z=>k_is)
  refine⟨⟨z_abs,z_all,z_any,z_bool,z_enumerate,z_int,z_isinstance,z_len,z_list,z_max,z_min,z_range,z_set,z_sorted,z_str,z_sum,z_tuple,z_zip⟩,?_,?_,?_,?_,?_,?_,?_,?_,?_,?_,?_,?_,?_,?_,?_,?_,?_,?_,?_,?_,?_,?_,?_,?_,?_,?_,?_,?_,?_,?_,?_,?_,?_,?_,?_,?_,?_,?_,?_,?_,?_,?_,?_,?_,?_,?_,?_,?_,?_,?_,?_⟩
  all_goals (refine' Mi.gY KX G ?a ?l ?c ?k;(case a=>k_is);(case l=>k_is);(case c=>k_is);(case k=>k_is))
end
