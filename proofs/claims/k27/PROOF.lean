import PyProof.Rows.All
import Wide.All
import OpenK.AllK
import Wide.FinOn
import Lean
import PyProof.EqAt
import PyProof.EqKinds
import PyProof.TupleCall
import PyProof.Draws
import PyProof.EnumMake
import PyProof.EnumFor
import PyProof.ZipIter
import PyProof.ListMulRoad
import PyProof.NeData
import PyProof.SumWalkG
import KE.KSortedM
import PyProof.Rows.SetFrom
import PyProof.SetRoads
import PyProof.TupleIter
import PyProof.FactsAll.subtypes_4
import PyProof.MinMaxWalk
import PyProof.Rows.CallKwBuiltin
import PyProof.Rows.SortShell
import PySem.Challenge.RW_sharetrail_k27_chains_told_and_counted
set_option Elab.async false
set_option linter.all false
set_option maxRecDepth 100000
set_option maxHeartbeats 4000000
set_option exponentiation.threshold 10000
set_option compiler.extract_closed false
open _root_ renaming List->Wp,Option->qY,of_decide_eq_true->qu,if_pos->q9,if_neg->rA,Array->rP,Bool->rR,decide_eq_true->sZ,or_false->tm,decide_eq_false->t9,String->uO,False->uP,beq_iff_eq->vf,if_false->v8,if_true->wW,beq_eq_false_iff_ne->xn,decide_eq_true_eq->yb,not_or->yf,DecidableEq->zd,True->ze,of_decide_eq_false->AAe
open Array renaming length_toList->uF,getElem?_eq_some_iff->vE,toArray_toList->wC,getD->zF,getElem?_map->AAb
open Bool renaming and_eq_true->qt,false_ne_true->sC,or_eq_true->tS,noConfusion->uN,false_eq_true->uX,eq_iff_iff->xl,true_and->AAK
open False renaming elim->uj
open ForInStep renaming yield->xf
open Int renaming toNat_of_nonneg->sN,natAbs_natCast->ua,mul_pos->uf,emod_nonneg->vL,natAbs_mul->vb,emod_lt_of_pos->vo,toNat_natCast->vy,lt_of_lt_of_le->wZ,pow_succ->xF,mul_le_mul_of_nonneg_right->xQ,mul_ediv_cancel_left->yj,natCast_mul->zT,le_refl->z6
open Lean.Syntax renaming mkApp->yZ
open List renaming getD_eq_getElem?_getD->qV,getElem?_eq_getElem->qW,getElem?_append_left->qZ,getElem?_set_ne->qc,getElem?_eq_some_iff->qe,mem_cons_of_mem->qi,mem_cons->qj,getElem?_map->ql,getElem?_concat_length->qm,getElem?_set_self->qo,mem_cons_self->qp,size_toArray->qr,mem_of_getElem?->qx,length_map->qy,replicate->qz,mem_singleton->q8,mem_append->rC,map_cons->rD,not_mem_nil->rH,getElem?_append_right->rL,range->rO,length_cons->rV,mem_map->rW,length_append->rZ,map_map->r9,nil_append->sF,mem_append_right->sJ,filterMap_cons->sM,drop_eq_getElem_cons->sW,cons_append->sY,length_filter_le->sg,prefix_rfl->tF,sum_cons->tK,mem_range->tN,map_append->tU,getElem?_eq_none->tW,length_nil->uA,map_nil->uC,getElem_mem->uE,replicate_succ->uG,mem_filter->uK,append_nil->uL,lookup_cons->uM,drop_eq_nil_of_le->uR,length_set->uS,any_eq_true->uZ,nodup_cons->uk,length_pos_iff->uo,any_cons->uy,mem_or_eq_of_mem_set->vH,of_mem_zip->vJ,flatten_cons->vN,append_assoc->vO,nodup_append->vQ,take_of_length_le->vh,prefix_append->vk,find?_cons->vq,all_cons->vt,mem_iff_getElem?->vx,pairwise_iff_getElem->wK,getElem?_range->wN,map_congr_left->wO,lookup_append->wY,getElem?_replicate->wd,getElem?_inj->wy,zipWith->xC,map_set->xD,mem_range'_1->xE,flatMap_cons->xG,ext_getElem->xP,filter_cons->xR,mem_append_left->xU,getElem?_zipWith_eq_some->xZ,flatMap_append->xp,all_map->xt,zip_cons_cons->yA,mapM_cons->yG,pairwise_cons->yI,getElem?_eq_none_iff->yM,getElem?_zip_eq_some->yN,length->yT,ext_getElem?->ya,set_eq_of_length_le->yl,eq_of_mem_replicate->ym,length_take->yp,length_drop->yr,all_eq_true->y0,pairwise_lt_range->zG,zipWith_cons_cons->zL,foldl_cons->zP,forIn_cons->zR,length_singleton->zX,set_append_right->zb,forIn_nil->zk,drop_eq_nil_iff->zq,length_eraseIdx->zw,set_append_left->z0,getElem?_append->z7,mem_iff_getElem->z8,getElem_of_mem->AAE,Pairwise->AAJ,mem_filterMap->AAN,foldl->AAT,set_cons_zero->AAc
open List.MergeSort.Internal renaming splitInTwo->AAd
open List.Pairwise renaming nil->yV,sublist->zY
open List.Perm renaming refl->yJ
open Nat renaming lt_of_lt_of_le->qf,le_refl->qg,le_trans->qh,ne_of_lt->qv,lt_succ_of_lt->sQ,lt_irrefl->sV,zero_le->sf,le_succ_of_le->tL,pow_le_pow_right->tu,lt_of_le_of_lt->tw,mul_le_mul_right->t8,lt_succ_self->uD,ne_of_gt->ur,lt_or_ge->ux,le_of_lt->vM,mul_comm->ve,lt_trans->vg,pos_of_ne_zero->vn,le_of_succ_le->vz,le_succ->wk,zero_add->w9,mul_pos->xY,gcd->xu,one_lt_two_pow->yL,mul_assoc->yk,gcd_comm->zK,mul_le_mul->zy,lt_of_lt_of_eq->AAY,mod_lt->AAa
open Ne renaming symm->rh
open Option renaming some->Gc,bind_some->yw,isSome_some->AAV,map->AAX
open Option.some renaming inj->sL
open PyProof.Rows renaming slot_tuple_getitem->sS,IntsAre->sX,envOfC->tE,step_dedup->um,callWith_type1->uu,AllBare->wc,assignInOrder_cons->xw,sortedAll_old->yH,sortedAll_at->yO,IsTup->y7,subscriptTail_builtinR->zA,entry_tuple_getitem->AAA,args_tuple_getitem->AAS
open PyProof.Rows.F renaming plain_set_update_loop->wm,entry_set_update_loop->yy
open PyProof.Rows.IsTup renaming new->wL
open PySem renaming wpAny_bind->qR,Value->qT,Shared->qX,wpAny_pure->qa,Addr->qb,starEach->rB,Program->rF,Expr->rJ,Around->rS,Heap->rT,World->rX,wpAny_newObj_type->rm,wpAny_call_entry->sD,Stmt->sG,wpAny_callSpecial?_slot->sH,wpAny_holding->sI,mem_of_lookup->su,wpAny_pyIter_list->tJ,wpAny_seqItems->tT,wpAny_setField->tZ,codeAny_builtin->uB,wpAny_field->uH,Builtin->uQ,wpAny_updateSeq->uT,FuncData->uU,wpAny_Call_Name_kw->uV,wpAny_pyIter_tuple->uW,plainId_quiet->uc,wpAny_truthy_bool->ug,wpAny_mono->ui,Scope->uz,wpAny_rule->vA,wpAny_setField_rec->vD,wpAny_passesOwn->vI,wpAny_setState_of->vR,IsPair->vU,wpAny_setEntries_of->vX,NameKind->vY,wpAny_getItem_str_slice->vZ,wpAny_typeOf->vd,wpAny_letGo->wB,wpAny_execs_cons->wF,wpAny_isInstance->wH,wpAny_binaryOp_repeat_ref->wJ,wpAny_standAt->wQ,wpAny_attempt->wU,wpAny_execs_nil->wV,wpAny_pyNext_list_item->wo,codeAny_mono->wt,wpAny_tryCatch->xA,fits_of_scanBound->xB,wpAny_pyNext_list_end->xH,typeIs_int->xK,call_meets->xM,Env->xO,wpAny_updateSeq_pair->xX,post_val_or_str->xk,tupleKind_room_in1->yD,IsZip->yE,wpAny_fieldsOf->yK,Keyword->yS,wpAny_of_eq->yW,wpAny_setEpoch_of->yY,wpAny_comprehension_free->yd,wpAny_onRaise->ye,ExceptHandler->yh,wpAny_newList->yi,noFill_tuple_add->yq,wpAny_askSetting->yz,IsPart->y9,typeIs_str->zB,ElemsOf->zH,wpAny_specialOf->zS,wpAny_isTrue_Compare1->zV,wpAny_pyIter_listiter->zW,builtinLookup_eq_fast->zZ,isSubtype_stop->zl,intBits_le_iff->zp,codeAny_call_builtin->zt,wpAny_runValue->zu,isSubtype_type->zv,codeAny_extend_loopS->zx,Model->AAH,seq_tuple_add->AAI,wpAny_call->AAP
open PySem.Around renaming under_plainId->tq
open PySem.AutoSeq1 renaming wpAny_loadPart'->rG,sub_tuple_tuple->yc
open PySem.Builtin.Builtins renaming bindParams->uv
open PySem.Builtin.List renaming listExtendWith->sP,listTooLong->uI,listLengthHint->uw,listSameRef->vW,listItems->zJ
open PySem.Builtin.Slice renaming slicePlaces->vG,sliceAdjust->wI,sliceApplied->yB
open PySem.Builtin.SmallTypes renaming nextOf->sA,ownedTupleIsFree->uJ,ownedTupleHandOut->wM
open PySem.Builtin.Tuple renaming tupleExact->vT,tupleItemsOf->yC,tupleTooMany->yF
open PySem.Calls renaming Name_function_global->v7,spliced_cons->wG,evalArgs_plain->xV,spliced_nil->xo,call_function_entry->yP,loadGlobal_global->yo,callWith_builtin->zC
open PySem.Challenge renaming pw_sharetrail_k27_chains_told_and_counted->xT
open PySem.Code renaming quiet_builtin->AAZ
open PySem.EntryCells renaming newEntry->AAC
open PySem.F renaming slot_list_append->sv,type_list_append->tV,plain_min_loop->uY,slot_tuple_iterator_next->vC,slot_str_getitem->vV,called_set->vm,slot_int_rmul->vp,args_tuple_add_2->wR,entry_tuple_add->we,slot_tuple_add->wu,slot_dict_get->xI,slot_tuple_mul->xN,args_tuple_iterator_next_1->xg,slot_zip_next->xh,entry_tuple_iterator_next->xq,args_int_rmul_2->yU,slot_int_index->yt,entry_int_rmul->yu,args_dict_get_3->yv,entry_min_loop->yx,entry_dict_get->zD,fills_int_mul->zQ,args_list_extend_2->zh,excBase_ValueError->zr,entry_list_extend->AAB,plain_extend_loop->AAD,slot_list_extend->AAU,args_tuple_mul_2->AAW
open PySem.Heap renaming get?_push_of_some->qU,get?_push_size->qk,lt_size->qq,get?_update_other->rE,get?_update_self->rK,size_push->rQ,SameBut->uq,ExtBut->wg,IsTuple->xr,IsList->zo
open PySem.Heap.SameBut renaming update->sx
open PySem.NameKind renaming free->tH,cell->vv
open PySem.Obj renaming data_mapFields->sE,isFreed_of_fields->sU,mapFields->se,mapSeq->tY,cls_mapFields->v5,putSet->zI
open PySem.Paired renaming length->AAG
open PySem.PassesOwn renaming never->vK
open PySem.PyData renaming strOk->vw,canLayAll0->w6,depthAll->zU
open PySem.SeqAt.EqAt renaming int_str->AAL,str_int->AAM,int_int->AAR
open PySem.SetTable renaming below->sR,grown->va
open PySem.SetTable.probe renaming go->yX
open PySem.Shared renaming heap->vP
open PySem.Str renaming ofString->tM,ofString_eq_toList->zM
open PySem.Txt renaming slice_le->zE
open PySem.Value renaming ref->rY,none->rf,type->wX,int->xJ,bool->xv,isInt_shape->yQ,str->yn,isInt->zc,notImplemented->zg,isStrOf->AAF
open PySem.W renaming Frag->qS,kia_one->tQ,nsIn->ub,keepIn->ue,kitOne->vB,fnOf->vc,exmOne->wD,findIn->wq,mg_of->xS,OpenLaw->xW,codeIn->xy,methodObj->yR,excIn->yg,cellsFrom_some->y8,instObj->zO,lookIn->zf,kitx_tuple->AAO,callWith_K->AAQ
open Rat renaming intCast_eq_zero_iff->uh,le_of_lt->zN
open Sum renaming inl->vF,inr->z9
open True renaming intro->vS
noncomputable section
namespace L2
open PySem PySem.Spec PyProof.Rows
abbrev Key:=Sum Int Str
noncomputable def QG:Key->qT->rR
 | .inl k,v=>zc k v
 | .inr x,v=>AAF x v
noncomputable def nZ(w:rX):Key->Int
 | .inl k=>hashInt k
 | .inr x=>hashStr w x
theorem Bq:∀{k:Key} {v:qT},QG k v=true->(∃i t,k=vF i/\v=xJ i t)\/(∃x t,k=z9 x/\v=yn x t)
 | .inl i,v,h=>by
   obtain⟨t,e⟩:=yQ (k:=i) (v:=v) h
   exact .inl ⟨i,t,rfl,e⟩
 | .inr x,v,h=>by
   obtain⟨t,e⟩:=Value.isStrOf_shape (x:=x) (v:=v) h
   exact .inr ⟨x,t,rfl,e⟩
theorem U6(i:Int)(t:Tok):QG (.inl i) (.int i t)=true:=by simp[QG,zc]
theorem VS(x:Str)(t:Tok):QG (.inr x) (.str x t)=true:=by simp[QG,AAF]
theorem dU(a b:Int):decide ((vF a:Key)=vF b)=(a==b):=by
 by_cases e:a=b
 .subst e;simp
 .have h:¬(vF a:Key)=vF b:=λq=>e (Sum.inl.inj q)
  rw[t9 h]
  exact(xn.mpr e).symm
theorem eZ(a b:Str):decide ((z9 a:Key)=z9 b)=decide (a=b):=by
 by_cases e:a=b
 .subst e;simp
 .have h:¬(z9 a:Key)=z9 b:=λq=>e (Sum.inr.inj q)
  rw[t9 h,t9 e]
theorem fK(a:Int)(b:Str):decide ((vF a:Key)=z9 b)=false:=t9 (λq=>nomatch q)
theorem dc(a:Str)(b:Int):decide ((z9 a:Key)=vF b)=false:=t9 (λq=>nomatch q)
noncomputable def CJ(prog:rF)(w:rX):PySem.KeyKind prog w Key where
 is:=QG
 hash:=nZ w
 inj:=λv a b ha hb=>by
  rcases Bq ha with⟨i,t,rfl,rfl⟩|⟨x,t,rfl,rfl⟩
  .rcases Bq hb with⟨j,u,rfl,e⟩|⟨y,u,rfl,e⟩
   .injection e with e1 _;rw[e1]
   .exact nomatch e
  .rcases Bq hb with⟨j,u,rfl,e⟩|⟨y,u,rfl,e⟩
   .exact nomatch e
   .injection e with e1 _;rw[e1]
 byValue:=λk v h=>by
  rcases Bq h with⟨i,t,rfl,rfl⟩|⟨x,t,rfl,rfl⟩<;>rfl
 pyHash:=λhv h=>by
  rcases Bq hv with⟨i,t,rfl,rfl⟩|⟨x,t,rfl,rfl⟩
  .exact wpAny_pyHash_int h
  .exact wpAny_pyHash_str h
 eqBool:=λhu hv h=>by
  rcases Bq hu with⟨i,t,rfl,rfl⟩|⟨x,t,rfl,rfl⟩
  .rcases Bq hv with⟨j,u,rfl,rfl⟩|⟨y,u,rfl,rfl⟩
   .rw[dU]at h;exact wpAny_eqBool_int h
   .rw[fK]at h;exact AAL i t y u _ _ _ _ h
  .rcases Bq hv with⟨j,u,rfl,rfl⟩|⟨y,u,rfl,rfl⟩
   .rw[dc]at h;exact AAM x t j u _ _ _ _ h
   .rw[eZ]at h;exact wpAny_eqBool_str h
 «strs» :=λk x t v h=>by
  rcases Bq h with⟨i,u,rfl,e⟩|⟨y,u,rfl,e⟩
  .exact nomatch e
  .injection e with e1 _
   subst e1
   cases v<;>rfl
theorem Pp(prog:rF)(w:rX)(i:Int)(t:Tok):(CJ prog w).is (.inl i) (.int i t)=true:=U6 i t
theorem PY(prog:rF)(w:rX)(x:Str)(t:Tok):(CJ prog w).is (.inr x) (.str x t)=true:=VS x t
end L2
namespace L2
open PySem PySem.Spec PyProof.Rows
inductive V where
 |non|bl (b:rR)|int (i:Int)|str (x:Str)|byt (b:rP UInt8)|flt (b:UInt64)|ref (a:qb)|ty (n:uO)
 deriving zd
def RelV:V->qT->Prop
 | .non,u=>u=rf
 | .bl b,u=>u=xv b
 | .int i,u=>∃t,u=xJ i t
 | .str x,u=>∃t,u=yn x t
 | .byt b,u=>∃t,u=Value.bytes b t
 | .flt b,u=>∃t,u=Value.float b t
 | .ref a,u=>u=rY a
 | .ty n,u=>u=wX n
abbrev Vals:Wp V->Wp qT->Prop:=Paired RelV
theorem Vals.length{xs:Wp V}{us:Wp qT}(r:Vals xs us):xs.length=us.length:=AAG r
theorem Vals.get:∀{xs:Wp V} {us:Wp qT} {i:Nat} {x:V},Vals xs us->xs[i]?=Gc x->∃u,us[i]?=Gc u/\RelV x u
 |_,_,_,_,.nil,e=>by simp at e
 |_,_,0,_,.cons r _,e=>by simp at e;subst e;exact⟨_,rfl,r⟩
 |_,_,i+1,x,.cons _ t,e=>by
  obtain⟨u,h1,h2⟩:=Vals.get (i:=i) (x:=x) t (by simpa using e)
  exact⟨u,by simpa using h1,h2⟩
theorem Vals.set{x:V}{u:qT}(r:RelV x u):∀{xs:Wp V} {us:Wp qT} (i:Nat),Vals xs us->Vals (xs.set i x) (us.set i u)
 |_,_,_,.nil=>.nil
 |_,_,0,.cons _ t=>.cons r t
 |_,_,i+1,.cons q t=>.cons q (Vals.set r i t)
theorem Vals.append:∀{xs ys:Wp V} {us ws:Wp qT},Vals xs us->Vals ys ws->Vals (xs++ys) (us++ws)
 |_,_,_,_,.nil,s=>s
 |_,_,_,_,.cons r t,s=>.cons r (Vals.append t s)
theorem Vals.take:∀{xs:Wp V} {us:Wp qT} (n:Nat),Vals xs us->Vals (xs.take n) (us.take n)
 |_,_,0,_=>.nil
 |_,_,_+1,.nil=>.nil
 |_,_,n+1,.cons r t=>.cons r (Vals.take n t)
theorem Vals.drop:∀{xs:Wp V} {us:Wp qT} (n:Nat),Vals xs us->Vals (xs.drop n) (us.drop n)
 |_,_,0,r=>r
 |_,_,_+1,.nil=>.nil
 |_,_,n+1,.cons _ t=>Vals.drop n t
def V6:qY V->qY qT->Prop
 |some v,Gc u=>RelV v u
 |none,none=>ze
 |_,_=>uP
def KV{κ:Type}:Wp (κ×V)->Wp (κ×qT)->Prop:=Paired λ(p:κ×V) (q:κ×qT)=>p.1=q.1/\RelV p.2 q.2
noncomputable def kV:Key->V
 | .inl i=>.int i
 | .inr x=>.str x
inductive HO where
 |lst (xs:Wp V)
 |tup (xs:Wp V)
 |dK (kvs:Wp (Key×V))|dT (kvs:Wp (Wp Key×V))
 |set (S:Int->rR) (n:Nat)
 |ins (C dx:qb) (fs:Wp (Str×V))
 |own (x:qb)
 |xd (fs:Wp (Str×V))
 |met (f x:qb)
 |rng (lo hi:Int)
 |frz (o:Obj) (u:HO)
 |tbl (ps:rP qT)
 |ext (φ:rT->Prop)
abbrev Hp:=qb->qY HO
noncomputable def upd(H:Hp)(a:qb)(o:HO):Hp:=λb=>if b=a then Gc o else H b
theorem Au{H:Hp}{a:qb}{o:HO}:upd H a o a=Gc o:=by unfold upd;rw[q9 rfl]
theorem AX{H:Hp}{a b:qb}{o:HO}(h:b≠a):upd H a o b=H b:=by unfold upd;rw[rA h]
theorem To{H:Hp}{a:qb}{o u:HO}:upd (upd H a o) a u=upd H a u:=by
 funext b;unfold upd;split<;>rfl
theorem kP{H:Hp}{a b:qb}{o u:HO}(h:H a=Gc o)(h':H b=Gc u)(d:o≠u):a≠b:=by
 intro e;subst e;rw[h]at h';exact d (sL h')
theorem BA{H:Hp}{a b:qb}{o:HO}(h:H a=Gc o)(h':H b=none):a≠b:=by
 intro e;subst e;rw[h]at h';cases h'
section
variable(P:rF)(w:rX)
def Cv(H:Hp)(h:rT)(a:qb):HO->Prop
 | .lst xs=>xs.length<=sizeLine/\∃(its:Wp qT) (n:Nat),Vals xs its/\h.get? a=Gc {cls:=.type "list",data:=.seq its.toArray n}
 | .tup xs=>xs.length<=sizeLine/\∃its:Wp qT,Vals xs its/\y7 h a its.toArray
 | .dK kvs=>kvs.length<=sizeLine/\(a==sysModules)=false/\∃vs,KV kvs vs/\h.DictOf (CJ P w) a vs
 | .dT kvs=>kvs.length<=sizeLine/\(a==sysModules)=false/\∃xs:Wp (Wp Key×qb×qT),
    Paired (λ(p:Wp Key×V) (q:Wp Key×qb×qT)=>p.1=q.1/\H q.2.1=Gc (.tup (p.1.map kV))/\RelV p.2 q.2.2) kvs xs/\
    ∃o es ep,h.get? a=Gc o/\o.ExactDict/\o.data=.dict es ep/\es.toList=xs.map (entryOfKey (tupleKind (CJ P w)))/\(xs.map (·.1)).Nodup
 | .set S n=>h.SetOf (intKind P w) a S n
 | .ins C dx fs=>H dx=Gc (.own a)/\fs.length<=1000/\dx≠a/\h.get? a=Gc (zO C dx)/\
    ∃mA,h.Ns1 dx mA/\(∀f,V6 (fs.lookup f) (mA f))/\PySem.Within mA (fs.map (·.1))
 | .own _=>∃o,h.get? a=Gc o
 | .xd fs=>∃mA,h.Ns1 a mA/\∀f,V6 (fs.lookup f) (mA f)
 | .rng lo hi=>∃t u v,h.get? a=Gc {cls:=.type "range",data:=.fields #[.int lo t,.int hi u,.int 1 v]}
 | .frz o u=>h.get? a=Gc o/\Cv H h a u
 | .tbl ps=>h.get? a=Gc {cls:=.none,data:=.fields ps}
 | .met f x=>h.get? a=Gc (yR (.ref f) (.ref x))
 | .ext φ=>φ h/\(∃o,h.get? a=Gc o)/\∀h1 h2:rT,φ h1->(∀o,h1.get? a=Gc o->h2.get? a=Gc o)->φ h2
def HOk(H:Hp)(h:rT):Prop:=∀a o,H a=Gc o->Cv P w H h a o
end
section
variable{P:rF}{w:rX}{H H':Hp}{h h':rT}{a:qb}{o:HO}
theorem Cv.lt(x:Cv P w H h a o):a<h.objs.size:=by
 cases o with
 |lst xs=>obtain⟨_,_,_,_,e⟩:=x;exact qq e
 |tup xs=>obtain⟨_,_,_,p⟩:=x;exact p.lt
 |dK kvs=>obtain⟨_,_,_,_,o,_,_,e,_⟩:=x;exact qq e
 |dT kvs=>obtain⟨_,_,_,_,o,_,_,e,_⟩:=x;exact qq e
 |set S n=>obtain⟨o,_,_,_,e,_⟩:=x;exact qq e
 |ins C dx fs=>obtain⟨_,_,_,e,_⟩:=x;exact qq e
 |own y=>obtain⟨_,e⟩:=x;exact qq e
 |xd fs=>obtain⟨_,⟨_,_,_,e,_⟩,_⟩:=x;exact qq e
 |rng lo hi=>obtain⟨_,_,_,e⟩:=x;exact qq e
 |frz ob u=>obtain⟨e,_⟩:=x;exact qq e
 |tbl ps=>exact qq (show h.get? a=Gc _ from x)
 |met f y=>exact qq (show h.get? a=Gc _ from x)
 |ext φ=>obtain⟨_,⟨_,e⟩,_⟩:=x;exact qq e
theorem Paired.jh{α β:Type}{F G:α->β->Prop}:∀{l₁:Wp α} {l₂:Wp β},Paired F l₁ l₂->(∀a b,F a b->G a b)->Paired G l₁ l₂
 |_,_,.nil,_=>.nil
 |_,_,.cons r t,f=>.cons (f _ _ r) (Paired.jh t f)
theorem Cv.Wq(x:Cv P w H h a o)(k:∀b u,(b=a\/H b=Gc (.own a))->h.get? b=Gc u->h'.get? b=Gc u)(ho:∀b,H b=Gc (.own a)->H' b=Gc (.own a))(ht:∀b xs,H b=Gc (.tup xs)->H' b=Gc (.tup xs)):Cv P w H' h' a o:=by
 induction o with
 |lst xs=>obtain⟨z,its,n,r,e⟩:=x;exact⟨z,its,n,r,k _ _ (.inl rfl) e⟩
 |tup xs=>obtain⟨z,its,r,ob,e,c⟩:=x;exact⟨z,its,r,ob,k _ _ (.inl rfl) e,c⟩
 |dK kvs=>obtain⟨z,y,vs,r,ob,es,ep,e,c⟩:=x;exact⟨z,y,vs,r,ob,es,ep,k _ _ (.inl rfl) e,c⟩
 |dT kvs=>
  obtain⟨z,y,xs,r,ob,es,ep,e,c⟩:=x
  exact⟨z,y,xs,Paired.jh r λp q z=>⟨z.1,ht _ _ z.2.1,z.2.2⟩,ob,es,ep,k _ _ (.inl rfl) e,c⟩
 |set S n=>obtain⟨ob,es,ep,t,e,c⟩:=x;exact⟨ob,es,ep,t,k _ _ (.inl rfl) e,c⟩
 |ins C dx fs=>
  obtain⟨d,z,ne,e,mA,⟨od,es,ep,e2,c⟩,r⟩:=x
  exact⟨ho _ d,z,ne,k _ _ (.inl rfl) e,mA,⟨od,es,ep,k _ _ (.inr d) e2,c⟩,r⟩
 |own y=>obtain⟨ob,e⟩:=x;exact⟨ob,k _ _ (.inl rfl) e⟩
 |xd fs=>obtain⟨mA,⟨od,es,ep,e,c⟩,r⟩:=x;exact⟨mA,⟨od,es,ep,k _ _ (.inl rfl) e,c⟩,r⟩
 |rng lo hi=>obtain⟨t,u,v,e⟩:=x;exact⟨t,u,v,k _ _ (.inl rfl) e⟩
 |frz ob u ih=>obtain⟨e,q⟩:=x;exact⟨k _ _ (.inl rfl) e,ih q⟩
 |tbl ps=>
  have e:h.get? a=Gc {cls:=.none,data:=.fields ps}:=x
  show h'.get? a=Gc {cls:=.none,data:=.fields ps}
  exact k a _ (.inl rfl) e
 |met f y=>
  have e:h.get? a=Gc (yR (.ref f) (.ref y)):=x
  show h'.get? a=Gc (yR (.ref f) (.ref y))
  exact k a _ (.inl rfl) e
 |ext φ=>obtain⟨p,⟨o,e⟩,st⟩:=x;exact⟨st _ _ p λo q=>k _ _ (.inl rfl) q,⟨o,k _ _ (.inl rfl) e⟩,st⟩
theorem HOk.lt(x:HOk P w H h)(e:H a=Gc o):a<h.objs.size:=(x a o e).lt
theorem HOk.fresh(x:HOk P w H h)(e:h.objs.size<=a):H a=none:=by
 cases q:H a with
 |none=>rfl
 |some u=>exact absurd (qf (x.lt q) e) (sV _)
theorem HOk.kept(x:HOk P w H h)(k:∀b u,h.get? b=Gc u->h'.get? b=Gc u):HOk P w H h':=λa o e=>
 (x a o e).Wq (λb u _ q=>k b u q) (λ_ q=>q) λ_ _ q=>q
theorem HOk.laid(x:HOk P w H h)(k:∀b u,h.get? b=Gc u->h'.get? b=Gc u)(hp:h.objs.size<=a)(new:Cv P w (upd H a o) h' a o):HOk P w (upd H a o) h':=λb u e=>by
 have hn:=x.fresh hp
 by_cases hb:b=a
 .subst hb;rw[Au]at e;cases e;exact new
 .rw[AX hb]at e
  exact(x b u e).Wq (λc v _ q=>k c v q) (λc q=>by rw[AX (BA q hn)];exact q) λc xs q=>by rw[AX (BA q hn)];exact q
end
def Rd(H:Hp)(a:qb)(u:HO):Prop:=H a=Gc u\/∃o,H a=Gc (.frz o u)
theorem Rd.ok{P:rF}{w:rX}{H:Hp}{h:rT}{a:qb}{u:HO}(r:Rd H a u)(x:HOk P w H h):Cv P w H h a u:=by
 rcases r with r|⟨o,r⟩
 .exact x a u r
 .obtain⟨_,q⟩:=x a _ r
  exact q
def Mut:qY HO->Prop
 |some (.lst _)=>ze
 |some (.dK _)=>ze
 |some (.dT _)=>ze
 |some (.set _ _)=>ze
 |some (.ins _ _ _)=>ze
 |some (.ext _)=>ze
 |_=>uP
section
variable{P:rF}{w:rX}{H:Hp}{h h':rT}{x e:qb}{o':HO}
theorem HOk.write(ok:HOk P w H h)(mu:Mut (H x))(he:e=x\/H e=Gc (.own x))(k:∀b u,b≠e->h.get? b=Gc u->h'.get? b=Gc u)(heo:∃u,h'.get? e=Gc u)(new:Cv P w (upd H x o') h' x o'):HOk P w (upd H x o') h':=λb u q=>by
 have nown:∀c y,H c=Gc (.own y)->c≠x:=λc y r z=>by subst z;rw[r]at mu;exact mu
 have ntup:∀c xs,H c=Gc (.tup xs)->c≠x:=λc xs r z=>by subst z;rw[r]at mu;exact mu
 by_cases hb:b=x
 .subst hb;rw[Au]at q;cases q;exact new
 .rw[AX hb]at q
  by_cases hbe:b=e
  .have q':H b=Gc (.own x):=by
    rcases he with z|z
    .exact absurd (hbe.trans z) hb
    .rw[hbe];exact z
   rw[q]at q';cases q'
   obtain⟨v,hv⟩:=heo
   exact⟨v,by rw[hbe];exact hv⟩
  .refine(ok b u q).Wq (λc v hc r=>k c v ?_ r) (λc r=>by rw[AX (nown c b r)];exact r) λc xs r=>by rw[AX (ntup c xs r)];exact r
   rcases hc with rfl|hc
   .exact hbe
   .rintro rfl
    rcases he with z|z
    .exact nown c b hc z
    .rw[hc]at z;cases z;exact hb rfl
end
structure Un(fs ex:Wp qb)(H H':Hp)(h h':rT):Prop where
 keep:∀b o,h.get? b=Gc o->H b=none->b∉fs->b∉ex->h'.get? b=Gc o
 slot:∀b o,h.get? b=Gc o->H b=none->b∈fs->b∉ex->∃sl,h'.get? b=Gc {o with slots:=sl}
 free:∀b o,h.get? b=Gc o->H b=none->b∉ex->H' b=none
 there:∀b o,h.get? b=Gc o->b∉ex->∃o',h'.get? b=Gc o'
 WO:∀b xs,H b=Gc (.tup xs)->H' b=Gc (.tup xs)
 V5:∀b o u,H b=Gc (.frz o u)->H' b=Gc (.frz o u)
 WY:∀b ps,H b=Gc (.tbl ps)->∃more,H' b=Gc (.tbl (ps++more))
section
variable{fs fs' ex ex':Wp qb}{H H1 H2:Hp}{h h1 h2 h':rT}{a x e:qb}{o:HO}
theorem Un.any(u:Un fs ex H H1 h h1){b:qb}{ob:Obj}(q:h.get? b=Gc ob)(n:H b=none)(hx:b∉ex):∃sl,h1.get? b=Gc {ob with slots:=sl}:=by
 by_cases hb:b∈fs
 .exact u.slot b ob q n hb hx
 .exact⟨ob.slots,u.keep b ob q n hb hx⟩
theorem Un.kept(k:∀b u,h.get? b=Gc u->h'.get? b=Gc u):Un fs ex H H h h':=
 ⟨λb ob q _ _ _=>k b ob q,λb ob q _ _ _=>⟨ob.slots,k b ob q⟩,λ_ _ _ n _=>n,λb ob q _=>⟨ob,k b ob q⟩,λ_ _ q=>q,λ_ _ _ q=>q,λ_ ps q=>⟨#[],by rw[q];simp⟩⟩
theorem Un.refl:Un fs ex H H h h:=Un.kept λ_ _ q=>q
theorem Un.laid(k:∀b u,h.get? b=Gc u->h'.get? b=Gc u)(hp:h.objs.size<=a)(hn:H a=none):Un fs ex H (upd H a o) h h' where
 keep:=λb u q _ _ _=>k b u q
 slot:=λb u q _ _ _=>⟨u.slots,k b u q⟩
 free:=λb u q n _=>by rw[AX (qv (qf (qq q) hp))];exact n
 there:=λb u q _=>⟨u,k b u q⟩
 WO:=λb xs q=>by rw[AX (BA q hn)];exact q
 V5:=λb u xs q=>by rw[AX (BA q hn)];exact q
 WY:=λb ps q=>⟨#[],by rw[AX (BA q hn),q];simp⟩
theorem Un.write(mu:Mut (H x))(he:e=x\/H e=Gc (.own x))(k:∀b u,b≠e->h.get? b=Gc u->h'.get? b=Gc u)(heo:∃u,h'.get? e=Gc u):Un fs ex H (upd H x o) h h':=by
 have hx:∀b,H b=none->b≠x:=λb n z=>by subst z;rw[n]at mu;exact mu
 have hb:∀b,H b=none->b≠e:=λb n z=>by
  subst z
  rcases he with r|r
  .exact hx b n r
  .rw[n]at r;cases r
 have hm:∀b u,H b=Gc u->¬Mut (Gc u)->b≠x:=λb u q nm z=>by subst z;rw[q]at mu;exact nm mu
 refine⟨λb u q n _ _=>k b u (hb b n) q,λb u q n _ _=>⟨u.slots,k b u (hb b n) q⟩,λb u q n _=>by rw[AX (hx b n)];exact n,λb u q _=>?_,
  λb xs q=>by rw[AX (hm b _ q λz=>z)];exact q,λb u xs q=>by rw[AX (hm b _ q λz=>z)];exact q,λb ps q=>⟨#[],by rw[AX (hm b _ q λz=>z),q];simp⟩⟩
 by_cases hbe:b=e
 .subst hbe;exact heo
 .exact⟨u,k b u hbe q⟩
end
noncomputable def trk(h:rT)(H:Hp):Wp qb:=(rO h.objs.size).filter λa=>(H a).isSome
noncomputable def XY(h:rT)(H:Hp):rT:=PySem.W.hideAll h (trk h H)
theorem U7(h:rT)(H:Hp):(XY h H).objs.size=h.objs.size:=PySem.W.hideAll_size _ _
theorem Xr{h:rT}{H:Hp}{b:qb}{o:Obj}(e:h.get? b=Gc o)(n:H b=none):(XY h H).get? b=Gc o:=
 PySem.W.hideAll_get _ e λhm=>by
  have q:(H b).isSome=true:=(uK.mp hm).2
  rw[n]at q;simp at q
theorem Z4{h:rT}{H:Hp}{b:qb}{o:Obj}(e:(XY h H).get? b=Gc o):h.get? b=Gc o/\H b=none:=by
 have e':h.get? b=Gc o:=PySem.W.of_hideAll (trk h H) e
 refine⟨e',?_⟩
 cases q:H b with
 |none=>rfl
 |some x=>
  have hm:b∈trk h H:=uK.mpr ⟨tN.mpr (qq e'),by simp[q]⟩
  have z:(XY h H).get? b=none:=PySem.W.hideAll_none (trk h H) hm
  rw[z]at e;cases e
noncomputable def Y3(g h:rT)(L:qb):Wp (qb×Obj):=(rO h.objs.size).filterMap λa=>if a=L\/(g.get? a).isSome=true then none else(h.get? a).map λo=>(a,o)
noncomputable def rest(g h:rT)(L d:qb):Wp (qb×Obj):=(Y3 g h L).filter λp=>decide (p.1≠d)
end L2
namespace L2
open PySem PySem.Spec PyProof.Rows
structure Mod(K:qS)(mg:Str->qY qT)(base:rT):Prop where
 kin:K.In base
 glob:base.Ns mainGlobals mg
 blt:∃mb,base.Ns builtinsNs mb/\∀x:Str,x≠ "__name__"->mb x=bootBuiltins x
 nolimit:base.NoLimit
structure Cx where
 prog:rF
 w:rX
 K:qS
 mg:Str->qY qT
 base:rT
 A:rS
 N:Wp Str
 s₀:qX
 H₀:Hp
 env:Env
 outer:Wp Env
 stack:Wp Env
 ex:Wp qb
 fn:Str->rR
 calm:rR
 pn:Wp (qb×Obj)
 xe:qT->qX->Prop
noncomputable def frs(l:Wp Env):Wp qb:=l.filterMap (·.frame)
abbrev Cx.fs(X:Cx):Wp qb:=frs X.outer
def Vis(sc:uz)(x:Str):Prop:=sc.names.lookup x=Gc .local\/sc.names.lookup x=Gc .cell\/sc.names.lookup x=Gc .free
def Loc(sc:uz)(x:Str):Prop:=sc.names.lookup x=Gc .local\/sc.names.lookup x=Gc .cell
def Look(env:Env)(h:rT)(m:Str->qY qT)(x:Str)(u:qT):Prop:=
 (env.kindOf x=Gc .local/\m x=Gc u)\/((env.kindOf x=Gc .cell\/env.kindOf x=Gc .free)/\∃c,env.cells.lookup x=Gc c/\h.IsCell c (Gc u))
structure Cx.Ok(X:Cx):Prop where
 mod:Mod X.K X.mg X.base
 kind:X.env.scope.kind=.function
 glob:X.env.globals=mainGlobals
 blt:X.env.builtins=builtinsNs
 above:X.s₀.heap.objs.size<=X.env.locals
 inj:∀x y c,X.env.cells.lookup x=Gc c->X.env.cells.lookup y=Gc c->x=y
 has:∀x,(X.env.kindOf x=Gc .cell\/X.env.kindOf x=Gc .free)->∃c,X.env.cells.lookup x=Gc c
 cab:∀x c,X.fn x=true->X.env.cells.lookup x=Gc c->X.s₀.heap.objs.size<=c
 hd:X.calm=true->X.A.handled=none
 frames:X.A.frames=Gc X.stack
 stk:X.stack=X.outer\/(X.stack=X.env::X.outer/\X.env.frame=Gc X.env.locals)
 exf:∀b∈X.ex,b≠X.env.locals/\∀x c,X.env.cells.lookup x=Gc c->c≠b
 bs:∀b o,X.base.get? b=Gc o->X.s₀.heap.get? b=Gc o/\X.H₀ b=none
 bsz:X.base.objs.size<=X.s₀.heap.objs.size
 YY:∀b o,X.base.get? b=Gc o->b∉X.ex
 Zj:∀b∈X.ex,b∉X.fs
 SF:X.s₀.heap.FunFrames X.base X.outer
 frf:∀b∈X.fs,X.H₀ b=none
structure Inv(X:Cx)(pins:Wp (qb×Obj))(σ:Wp (qY V))(H:Hp)(s:qX):Prop where
 ok:X.Ok
 os:s.os=X.s₀.os
 bare:wc s.gens
 base:Un X.fs X.ex X.H₀ H X.s₀.heap s.heap
 loc:∃m,s.heap.Ns X.env.locals m/\∀(i:Nat) (x:Str) (v:V),X.N[i]?=Gc x->σ[i]?=Gc (Gc v)->Vis X.env.scope x->∃u,RelV v u/\Look X.env s.heap m x u
 cell:∀x c,X.env.cells.lookup x=Gc c->∃v,s.heap.IsCell c v
 free:H X.env.locals=none
 JP:∀x c,X.env.cells.lookup x=Gc c->H c=none
 pin:∀p∈X.pn++pins,s.heap.get? p.1=Gc p.2/\H p.1=none/\p.1≠X.env.locals/\p.1∉X.fs/\∀v,p.2.data≠.cell v
 hok:HOk X.prog X.w H s.heap
 len:σ.length=X.N.length
section
variable{X:Cx}{pins:Wp (qb×Obj)}{σ:Wp (qY V)}{H H':Hp}{s:qX}{h':rT}
theorem Cx.Ok.nq(ok:X.Ok){b:qb}{o:Obj}(e:X.base.get? b=Gc o):b∉X.fs:=λhb=>by
 have:=(ok.SF.mem hb).1
 rw[e]at this;cases this
theorem Inv.bs(I:Inv X pins σ H s):∀b o,X.base.get? b=Gc o->s.heap.get? b=Gc o/\H b=none:=λb o e=>
 ⟨I.base.keep b o (I.ok.bs b o e).1 (I.ok.bs b o e).2 (I.ok.nq e) (I.ok.YY b o e),I.base.free b o (I.ok.bs b o e).1 (I.ok.bs b o e).2 (I.ok.YY b o e)⟩
theorem Inv.bk(I:Inv X pins σ H s):∀b o,X.base.get? b=Gc o->s.heap.get? b=Gc o:=λb o e=>(I.bs b o e).1
theorem Inv.mod(I:Inv X pins σ H s):Mod X.K X.mg X.base:=I.ok.mod
theorem Inv.kIn(I:Inv X pins σ H s):X.K.In s.heap:=I.ok.mod.kin.keeps I.bk
theorem Inv.lt(I:Inv X pins σ H s):X.env.locals<s.heap.objs.size:=let⟨_,hn,_⟩:=I.loc;hn.lt
theorem Inv.sz(I:Inv X pins σ H s):X.s₀.heap.objs.size<=s.heap.objs.size:=qh I.ok.above (vM I.lt)
theorem Inv.pR(I:Inv X pins σ H s){a:qb}(h:s.heap.objs.size<=a):a∉X.fs:=λhb=>by
 obtain⟨_,o,ho,_⟩:=I.ok.SF.mem hb
 exact absurd (qf (qq ho) (qh I.sz h)) (sV _)
theorem Inv.cne(I:Inv X pins σ H s):∀x c,X.env.cells.lookup x=Gc c->c≠X.env.locals:=λx c e z=>by
 obtain⟨v,o,ho,hd⟩:=I.cell x c e
 obtain⟨m,⟨o',es,ep,ho',hd',_⟩,_⟩:=I.loc
 rw[z,ho']at ho;cases ho;rw[hd']at hd;cases hd
theorem Inv.SF(I:Inv X pins σ H s):s.heap.FunFrames X.base X.outer:=by
 have all:∀(l:Wp Env),(∀b∈frs l,b∈X.fs)->X.s₀.heap.FunFrames X.base l->s.heap.FunFrames X.base l:=by
  intro l
  induction l with
  |nil=>intro _ _;trivial
  |cons env r ih=>
   intro hs hl
   obtain⟨hk,⟨L,o,hf,hn,ho,hd⟩,hr⟩:=hl
   have hL:L∈X.fs:=hs L (by unfold frs;rw[sM,hf];exact qp)
   obtain⟨sl,e⟩:=I.base.slot L o ho (I.ok.frf L hL) hL λz=>I.ok.Zj L z hL
   exact⟨hk,⟨L,_,hf,hn,e,hd⟩,ih (λb hb=>hs b (by unfold frs;rw[sM,hf];exact qi _ hb)) hr⟩
 exact all X.outer (λ_ hb=>hb) I.ok.SF
theorem Inv.stack(I:Inv X pins σ H s):s.heap.FunFrames X.base X.stack:=by
 rcases I.ok.stk with e|⟨e,hf⟩
 .rw[e];exact I.SF
 .rw[e]
  obtain⟨m,hn,_⟩:=I.loc
  refine .cons (by rw[I.ok.kind];decide) hf hn ?_ I.SF
  exact Heap.get?_none_of_le (qh I.ok.bsz I.ok.above)
theorem Inv.Uw(I:Inv X pins σ H s):∀b∈frs X.stack,b∈X.env.locals::X.fs:=λb hb=>by
 rcases I.ok.stk with e|⟨e,hf⟩
 .rw[e]at hb;exact qi _ hb
 .rw[e]at hb
  unfold frs at hb
  rw[sM,hf]at hb
  exact hb
theorem Inv.PZ(I:Inv X pins σ H s):∀b∈frs X.stack,H b=none:=λb hb=>by
 rcases qj.mp (I.Uw b hb)with e|hb
 .rw[e];exact I.free
 .obtain⟨_,o,ho,_⟩:=I.ok.SF.mem hb
  exact I.base.free b o ho (I.ok.frf b hb) λz=>I.ok.Zj b z hb
theorem Inv.step{g':rP GenState}{t':Nat}{d':Drawn}{ch:Wp qb}(I:Inv X pins σ H s)(hch:∀b∈ch,(b∈X.ex\/X.s₀.heap.objs.size<=b)/\b≠X.env.locals/\(∀x c,X.env.cells.lookup x=Gc c->c≠b)/\∀p∈X.pn++pins,p.1≠b)(keep:∀b o,b≠X.env.locals->b∉X.fs->b∉ch->s.heap.get? b=Gc o->H b=none->h'.get? b=Gc o)(slot:∀b o,b≠X.env.locals->b∈X.fs->b∉ch->s.heap.get? b=Gc o->H b=none->∃sl,h'.get? b=Gc {o with slots:=sl})(free:∀b o,b∉ch->s.heap.get? b=Gc o->H b=none->H' b=none)(there:∀b o,b∉ch->s.heap.get? b=Gc o->∃o',h'.get? b=Gc o')(WO:∀b xs,H b=Gc (.tup xs)->H' b=Gc (.tup xs))(V5:∀b o u,H b=Gc (.frz o u)->H' b=Gc (.frz o u))(WY:∀b ps,H b=Gc (.tbl ps)->∃more,H' b=Gc (.tbl (ps++more)))(ns:∀m,s.heap.Ns X.env.locals m->h'.Ns X.env.locals m)(hok:HOk X.prog X.w H' h')(hg:wc g'):Inv X pins σ H' {s with heap:=h',gens:=g',drawn:=d',toks:=t'}:=by
 have neL:∀b o,X.s₀.heap.get? b=Gc o->b≠X.env.locals:=λb o e=>qv (qf (qq e) I.ok.above)
 have neC:∀b o,X.s₀.heap.get? b=Gc o->b∉X.ex->b∉ch:=λb o e hx hb=>by
  rcases(hch b hb).1 with z|z
  .exact hx z
  .exact absurd (qf (qq e) z) (sV _)
 have cellK:∀x c,X.env.cells.lookup x=Gc c->∀v,s.heap.IsCell c v->h'.IsCell c v:=λx c e v ⟨o,ho,hd⟩=>by
  have nch:c∉ch:=λz=>(hch c z).2.2.1 x c e rfl
  by_cases hc:c∈X.fs
  .obtain⟨sl,q⟩:=slot c o (I.cne x c e) hc nch ho (I.JP x c e)
   exact⟨_,q,hd⟩
  .exact⟨o,keep c o (I.cne x c e) hc nch ho (I.JP x c e),hd⟩
 refine⟨I.ok,I.os,hg,⟨λb o e n hb hx=>?_,λb o e n hb hx=>?_,λb o e n hx=>?_,λb o e hx=>?_,λb xs e=>WO b xs (I.base.WO b xs e),λb o xs e=>V5 b o xs (I.base.V5 b o xs e),λb ps e=>?_⟩,?_,λx c e=>?_,?_,λx c e=>?_,λp hp=>?_,hok,I.len⟩
 .exact keep b o (neL b o e) hb (neC b o e hx) (I.base.keep b o e n hb hx) (I.base.free b o e n hx)
 .obtain⟨sl,e1⟩:=I.base.slot b o e n hb hx
  obtain⟨sl',e2⟩:=slot b _ (neL b o e) hb (neC b o e hx) e1 (I.base.free b o e n hx)
  exact⟨sl',e2⟩
 .obtain⟨o',e1⟩:=I.base.there b o e hx
  exact free b o' (neC b o e hx) e1 (I.base.free b o e n hx)
 .obtain⟨o',e1⟩:=I.base.there b o e hx
  exact there b o' (neC b o e hx) e1
 .obtain⟨m1,e1⟩:=I.base.WY b ps e
  obtain⟨m2,e2⟩:=WY b _ e1
  exact⟨m1++m2,by rw[e2,Array.append_assoc]⟩
 .obtain⟨m,hn,hl⟩:=I.loc
  refine⟨m,ns m hn,λi x v e1 e2 e3=>?_⟩
  obtain⟨u,r,l⟩:=hl i x v e1 e2 e3
  refine⟨u,r,?_⟩
  rcases l with l|⟨k,c,e,z⟩
  .exact .inl l
  .exact .inr ⟨k,c,e,cellK x c e _ z⟩
 .obtain⟨v,z⟩:=I.cell x c e
  exact⟨v,cellK x c e v z⟩
 .obtain⟨m,⟨o,_,_,ho,_⟩,_⟩:=I.loc
  exact free _ o (λz=>(hch _ z).2.1 rfl) ho I.free
 .obtain⟨v,o,ho,hd⟩:=I.cell x c e
  exact free c o (λz=>(hch c z).2.2.1 x c e rfl) ho (I.JP x c e)
 .obtain⟨e,n,ne,nf,d⟩:=I.pin p hp
  have nch:p.1∉ch:=λz=>(hch p.1 z).2.2.2 p hp rfl
  exact⟨keep p.1 p.2 ne nf nch e n,free p.1 p.2 nch e n,ne,nf,d⟩
theorem Inv.un{t':Nat}(I:Inv X pins σ H s)(u:Un X.fs [] H H' s.heap h')(hok:HOk X.prog X.w H' h'):Inv X pins σ H' {s with heap:=h',toks:=t'}:=by
 obtain⟨m,⟨o,es,ep,ho,r⟩,_⟩:=id I.loc
 obtain⟨sl,hL⟩:=u.any ho I.free (by simp)
 exact I.step (g':=s.gens) (d':=s.drawn) (ch:=[]) (λ_ z=>nomatch z) (λb o _ hb _ e n=>u.keep b o e n hb (by simp)) (λb o _ hb _ e n=>u.slot b o e n hb (by simp)) (λb o _ e n=>u.free b o e n (by simp)) (λb o _ e=>u.there b o e (by simp)) u.WO u.V5 u.WY (λm' hm=>by
  obtain⟨o',es',ep',ho',r'⟩:=hm
  rw[ho]at ho';cases ho'
  exact⟨_,es',ep',hL,r'⟩) hok I.bare
theorem Inv.call{g':rP GenState}{t':Nat}{d':Drawn}{ch:Wp qb}(I:Inv X pins σ H s)(u:Un (frs X.stack) ch H H' s.heap h')(hok:HOk X.prog X.w H' h')(hg:wc g')(hch:∀b∈ch,(b∈X.ex\/X.s₀.heap.objs.size<=b)/\b≠X.env.locals/\(∀x c,X.env.cells.lookup x=Gc c->c≠b)/\∀p∈X.pn++pins,p.1≠b):Inv X pins σ H' {s with heap:=h',gens:=g',drawn:=d',toks:=t'}:=by
 obtain⟨m,⟨o,es,ep,ho,r⟩,_⟩:=id I.loc
 obtain⟨sl,hL⟩:=u.any ho I.free λz=>(hch _ z).2.1 rfl
 exact I.step (ch:=ch) hch (λb o hL hb hc e n=>u.keep b o e n (λz=>(qj.mp (I.Uw b z)).elim hL hb) hc) (λb o _ _ hc e n=>u.any e n hc) (λb o hc e n=>u.free b o e n hc) (λb o hc e=>u.there b o e hc) u.WO u.V5 u.WY (λm' hm=>by
  obtain⟨o',es',ep',ho',r'⟩:=hm
  rw[ho]at ho';cases ho'
  exact⟨_,es',ep',hL,r'⟩) hok hg
theorem Inv.turned{t':Nat}{it:qb}(I:Inv X pins σ H s)(k:∀b o,b≠it->s.heap.get? b=Gc o->h'.get? b=Gc o)(hn:H it=none)(hL:it≠X.env.locals)(h1:it∈X.ex\/X.s₀.heap.objs.size<=it)(h2:∀x c,X.env.cells.lookup x=Gc c->c≠it)(h3:∀p∈X.pn++pins,p.1≠it):Inv X pins σ H {s with heap:=h',toks:=t'}:=by
 have nit:∀b u,H b=Gc u->b≠it:=λb u e z=>by rw[z,hn]at e;cases e
 refine I.step (g':=s.gens) (d':=s.drawn) (ch:=[it]) (λb hb=>?_) (λb o _ _ hc e _=>k b o (λz=>hc (by simp[z])) e) (λb o _ _ hc e _=>⟨o.slots,k b o (λz=>hc (by simp[z])) e⟩) (λ_ _ _ _ n=>n)
  (λb o hc e=>⟨o,k b o (λz=>hc (by simp[z])) e⟩) (λ_ _ e=>e) (λ_ _ _ e=>e) (λb ps e=>⟨#[],by rw[e];simp⟩) (λm hm=>?_) (λb u e=>?_) I.bare
 .have e:b=it:=by simpa using hb
  subst e
  exact⟨h1,hL,h2,h3⟩
 .obtain⟨o,es,ep,ho,r⟩:=hm
  exact⟨o,es,ep,k _ o (rh hL) ho,r⟩
 .refine(I.hok b u e).Wq (λc v hc q=>k c v ?_ q) (λ_ q=>q) λ_ _ q=>q
  rcases hc with z|z
  .rw[z];exact nit b u e
  .exact nit c _ z
theorem Inv.tok(I:Inv X pins σ H s)(t:Nat):Inv X pins σ H {s with toks:=t}:=I.un (h':=s.heap) (t':=t) Un.refl I.hok
theorem Inv.kept{t':Nat}(I:Inv X pins σ H s)(k:∀b u,s.heap.get? b=Gc u->h'.get? b=Gc u):Inv X pins σ H {s with heap:=h',toks:=t'}:=I.un (Un.kept k) (I.hok.kept k)
theorem Inv.laid{a:qb}{o:HO}{t':Nat}(I:Inv X pins σ H s)(k:∀b u,s.heap.get? b=Gc u->h'.get? b=Gc u)(hp:s.heap.objs.size<=a)(new:Cv X.prog X.w (upd H a o) h' a o):Inv X pins σ (upd H a o) {s with heap:=h',toks:=t'}:=I.un (Un.laid k hp (I.hok.fresh hp)) (I.hok.laid k hp new)
theorem Inv.write{x e:qb}{o:HO}{t':Nat}(I:Inv X pins σ H s)(mu:Mut (H x))(he:e=x\/H e=Gc (.own x))(k:∀b u,b≠e->s.heap.get? b=Gc u->h'.get? b=Gc u)(heo:∃u,h'.get? e=Gc u)(new:Cv X.prog X.w (upd H x o) h' x o):Inv X pins σ (upd H x o) {s with heap:=h',toks:=t'}:=I.un (Un.write mu he k heo) (I.hok.write mu he k heo new)
theorem Inv.Uo{pins':Wp (qb×Obj)}(I:Inv X pins σ H s)(h:∀p∈pins',s.heap.get? p.1=Gc p.2/\H p.1=none/\p.1≠X.env.locals/\p.1∉X.fs/\∀v,p.2.data≠.cell v):Inv X pins' σ H s:=
 ⟨I.ok,I.os,I.bare,I.base,I.loc,I.cell,I.free,I.JP,λp hp=>(rC.mp hp).elim (λz=>I.pin p (xU _ z)) (h p),I.hok,I.len⟩
theorem Q5{N:Wp Str}(hN:N.Nodup){i j:Nat}{x:Str}(a:N[i]?=Gc x)(b:N[j]?=Gc x):i=j:=by
 obtain⟨h1,e1⟩:=qe.mp a
 obtain⟨h2,e2⟩:=qe.mp b
 exact(List.getElem_inj hN).mp (e1.trans e2.symm)
theorem PH{M:AAH}{A:rS}{E:qT->qX->Prop}{i:Nat}{x:Str}{v:V}{u:qT}{Q:Unit->qX->Prop}(I:Inv X pins σ H s)(hN:X.N.Nodup)(hi:X.N[i]?=Gc x)(hx:Loc X.env.scope x)(r:RelV v u)(h:∀s',Inv X pins (σ.set i (Gc v)) H s'->(∃a,uq a s.heap s'.heap/\(a=X.env.locals\/X.env.cells.lookup x=Gc a))->Q () s')(hf:X.fn x=true\/X.env.scope.names.lookup x=Gc .local:=by first|exact .inl rfl|exact .inr rfl|assumption):wpAny M A (storeName X.env x u) Q E s:=by
 obtain⟨m,hn,hl⟩:=id I.loc
 have hcls:(X.env.scope.kind== .class||(X.env.scope.kind== .module && X.env.locals !=X.env.globals))=false:=by rw[I.ok.kind];rfl
 have hiσ:i<σ.length:=by rw[I.len];exact(qe.mp hi).1
 have cne:=I.cne
 have tracked:∀{a:qb} {h':rT},(∃o,s.heap.get? a=Gc o/\H a=none)->uq a s.heap h'->HOk X.prog X.w H h':=λ{a h'} ha hs b ob e=>by
  obtain⟨_,_,hfree⟩:=ha
  refine(I.hok b ob e).Wq (λc w' hc q=>(hs.2 c ?_).trans q) (λ_ q=>q) λ_ _ q=>q
  rintro rfl
  rcases hc with rfl|hc
  .rw[hfree]at e;cases e
  .rw[hfree]at hc;cases hc
 rcases hx with hk|hk
 .refine wpAny_storeName_local hk hn (λh' hn' hs=>?_) hcls
  obtain⟨oL,_,_,hoL,_⟩:=id hn
  refine h _ ⟨I.ok,I.os,I.bare,⟨λb o e n hb hx=>?_,λb o e n hb hx=>?_,I.base.free,λb o e hx=>?_,I.base.WO,I.base.V5,I.base.WY⟩,⟨_,hn',λj y v' e1 e2 e3=>?_⟩,λy c e=>?_,I.free,I.JP,λp hp=>?_,tracked ⟨oL,hoL,I.free⟩ hs,by simpa using I.len⟩ ⟨_,hs,.inl rfl⟩
  .exact(hs.2 b (qv (qf (qq e) I.ok.above))).trans (I.base.keep b o e n hb hx)
  .obtain⟨sl,e1⟩:=I.base.slot b o e n hb hx
   exact⟨sl,(hs.2 b (qv (qf (qq e) I.ok.above))).trans e1⟩
  .obtain⟨o',e1⟩:=I.base.there b o e hx
   exact⟨o',(hs.2 b (qv (qf (qq e) I.ok.above))).trans e1⟩
  .by_cases hj:j=i
   .subst hj
    rw[hi]at e1;cases e1
    rw[qo hiσ]at e2
    cases e2
    exact⟨u,r,.inl ⟨hk,by simp⟩⟩
   .rw[qc (rh hj)]at e2
    obtain⟨u',r',q⟩:=hl j y v' e1 e2 e3
    refine⟨u',r',?_⟩
    rcases q with⟨k,e⟩|⟨k,c,e,z⟩
    .refine .inl ⟨k,?_⟩
     have:y≠x:=λe=>hj (Q5 hN e1 (e▸hi))
     simp[this,e]
    .exact .inr ⟨k,c,e,z.sameBut hs (cne y c e)⟩
  .obtain⟨w',z⟩:=I.cell y c e
   exact⟨w',z.sameBut hs (cne y c e)⟩
  .obtain⟨e,n,ne,nf,d⟩:=I.pin p hp
   exact⟨(hs.2 p.1 ne).trans e,n,ne,nf,d⟩
 .have hfn:X.fn x=true:=by
   rcases hf with z|z
   .exact z
   .rw[z]at hk;cases hk
  obtain⟨c,hc⟩:=I.ok.has x (.inl hk)
  obtain⟨w',z⟩:=I.cell x c hc
  refine wpAny_storeName_cell I.ok.kind hk hc z (λh' hc' hs=>?_)
  obtain⟨oc,hoc,hocd⟩:=id z
  refine h {s with heap:=h'} ⟨I.ok,I.os,I.bare,⟨λb o e n hb hx=>?_,λb o e n hb hx=>?_,I.base.free,λb o e hx=>?_,I.base.WO,I.base.V5,I.base.WY⟩,⟨m,hn.sameBut hs (rh (cne x c hc)),λj y v' e1 e2 e3=>?_⟩,λy c' e=>?_,I.free,I.JP,λp hp=>?_,tracked ⟨oc,hoc,I.JP x c hc⟩ hs,by simpa using I.len⟩ ⟨c,hs,.inr hc⟩
  .exact(hs.2 b (qv (qf (qq e) (I.ok.cab x c hfn hc)))).trans (I.base.keep b o e n hb hx)
  .obtain⟨sl,e1⟩:=I.base.slot b o e n hb hx
   exact⟨sl,(hs.2 b (qv (qf (qq e) (I.ok.cab x c hfn hc)))).trans e1⟩
  .obtain⟨o',e1⟩:=I.base.there b o e hx
   exact⟨o',(hs.2 b (qv (qf (qq e) (I.ok.cab x c hfn hc)))).trans e1⟩
  .by_cases hj:j=i
   .subst hj
    rw[hi]at e1;cases e1
    rw[qo hiσ]at e2
    cases e2
    exact⟨u,r,.inr ⟨.inl hk,c,hc,hc'⟩⟩
   .rw[qc (rh hj)]at e2
    obtain⟨u',r',q⟩:=hl j y v' e1 e2 e3
    refine⟨u',r',?_⟩
    rcases q with q|⟨k,c',e,z'⟩
    .exact .inl q
    .refine .inr ⟨k,c',e,z'.sameBut hs ?_⟩
     rintro rfl
     exact hj (Q5 hN e1 (I.ok.inj _ _ _ e hc▸hi))
  .by_cases hcc:c'=c
   .subst hcc;exact⟨_,hc'⟩
   .obtain⟨w2,z2⟩:=I.cell y c' e
    exact⟨w2,z2.sameBut hs hcc⟩
  .obtain⟨e,n,ne,nf,d⟩:=I.pin p hp
   refine⟨(hs.2 p.1 ?_).trans e,n,ne,nf,d⟩
   intro q
   rw[q,hoc]at e
   have q':oc=p.2:=sL e
   exact d w' (by rw[<-q'];exact hocd)
theorem KO{M:AAH}{A:rS}{E:qT->qX->Prop}{i:Nat}{x:Str}{v:V}{u:qT}{Q:Unit->qX->Prop}(I:Inv X pins σ H s)(hN:X.N.Nodup)(hi:X.N[i]?=Gc x)(hx:Loc X.env.scope x)(r:RelV v u)(h:∀s',Inv X pins (σ.set i (Gc v)) H s'->Q () s')(hf:X.fn x=true\/X.env.scope.names.lookup x=Gc .local:=by first|exact .inl rfl|exact .inr rfl|assumption):wpAny M A (storeName X.env x u) Q E s:=
 PH I hN hi hx r (λs' I' _=>h s' I') hf
theorem Inv.fc{s':qX}{ch:Wp qb}(I:Inv X pins σ H s)(ho:s'.os=s.os)(u:Un (frs X.stack) ch H H' s.heap s'.heap)(hok:HOk X.prog X.w H' s'.heap)(hg:wc s'.gens)(hch:∀b∈ch,(b∈X.ex\/X.s₀.heap.objs.size<=b)/\b≠X.env.locals/\(∀x c,X.env.cells.lookup x=Gc c->c≠b)/\∀p∈X.pn++pins,p.1≠b):Inv X pins σ H' s':=by
 obtain⟨h',g',d',t',o'⟩:=s'
 have e:o'=s.os:=ho
 subst e
 exact I.call (g':=g') (t':=t') (d':=d') u hok hg hch
end
abbrev XK:=qT->qY qb->Hp->Prop
abbrev St:=Wp (qY V)
abbrev VK:=V->Hp->Prop
abbrev TE:=St->Hp->VK->Prop
abbrev TT:=St->Hp->(rR->Hp->Prop)->Prop
abbrev TA:=St->Hp->(Wp V->Hp->Prop)->Prop
structure Ends where
 nx:St->Hp->Prop
 rt:VK
 bk:St->Hp->Prop:=λ_ _=>uP
 ct:St->Hp->Prop:=λ_ _=>uP
abbrev TS:=Ends->St->Hp->Prop
def EP(X:Cx)(pins:Wp (qb×Obj))(σ:St)(Q:VK)(u:qT)(s':qX):Prop:=∃v H',Inv X pins σ H' s'/\RelV v u/\Q v H'
def TP(X:Cx)(pins:Wp (qb×Obj))(σ:St)(Q:rR->Hp->Prop)(b:rR)(s':qX):Prop:=∃H',Inv X pins σ H' s'/\Q b H'
def AP(X:Cx)(pins:Wp (qb×Obj))(σ:St)(Q:Wp V->Hp->Prop)(us:Wp qT)(s':qX):Prop:=∃vs H',Inv X pins σ H' s'/\Vals vs us/\Q vs H'
def SP(X:Cx)(pins:Wp (qb×Obj))(D:Ends)(f:Flow)(s':qX):Prop:=
 match f with
 | .next=>∃σ' H',Inv X pins σ' H' s'/\D.nx σ' H'
 | .brk=>∃σ' H',Inv X pins σ' H' s'/\D.bk σ' H'
 | .cont=>∃σ' H',Inv X pins σ' H' s'/\D.ct σ' H'
 | .ret u=>∃v σ' H',Inv X pins σ' H' s'/\RelV v u/\D.rt v H'
def PE(X:Cx)(e:rJ)(t:TE):Prop:=
 ∀(pins:Wp (qb×Obj)) (s:qX) (σ:St) (H:Hp) (Q:VK),Inv X pins σ H s->t σ H Q->wpAny (model X.prog X.w) X.A (eval e X.env) (EP X pins σ Q) X.xe s
def PT(X:Cx)(e:rJ)(t:TT):Prop:=
 ∀(pins:Wp (qb×Obj)) (s:qX) (σ:St) (H:Hp) (Q:rR->Hp->Prop),Inv X pins σ H s->t σ H Q->wpAny (model X.prog X.w) X.A (isTrue e X.env (eval e X.env)) (TP X pins σ Q) X.xe s
def PW(X:Cx)(e:rJ)(t:TT):Prop:=
 ∀(whole:Sem qT) (pins:Wp (qb×Obj)) (s:qX) (σ:St) (H:Hp) (Q:rR->Hp->Prop),Inv X pins σ H s->t σ H Q->wpAny (model X.prog X.w) X.A (isTrue e X.env whole) (TP X pins σ Q) X.xe s
theorem PW.pt{X:Cx}{e:rJ}{t:TT}(h:PW X e t):PT X e t:=h _
def PA(X:Cx)(es:Wp rJ)(t:TA):Prop:=
 ∀(pos:Pos) (pins:Wp (qb×Obj)) (s:qX) (σ:St) (H:Hp) (Q:Wp V->Hp->Prop),Inv X pins σ H s->t σ H Q->wpAny (model X.prog X.w) X.A (spliced (backTo pos (rB es X.env))) (AP X pins σ Q) X.xe s
def PS(X:Cx)(st:sG)(t:TS):Prop:=
 ∀(pins:Wp (qb×Obj)) (s:qX) (σ:St) (H:Hp) (D:Ends),Inv X pins σ H s->t D σ H->wpAny (model X.prog X.w) X.A (exec st X.env) (SP X pins D) X.xe s
def PSs(X:Cx)(st:Wp sG)(t:TS):Prop:=
 ∀(pins:Wp (qb×Obj)) (s:qX) (σ:St) (H:Hp) (D:Ends),Inv X pins σ H s->t D σ H->wpAny (model X.prog X.w) X.A (execs st X.env) (SP X pins D) X.xe s
theorem thn{α:Type}{t:Sem α}{Q Q':α->qX->Prop}{M:AAH}{A:rS}{E:qT->qX->Prop}{s:qX}(h:wpAny M A t Q E s)(hQ:∀a s,Q a s->Q' a s):wpAny M A t Q' E s:=ui h hQ λ_ _ x=>x
end L2
namespace L2
open PySem PySem.Spec PyProof.Rows
section
variable{X:Cx}
noncomputable def l8(i:Nat):TE:=λσ H Q=>∃v,σ[i]?=Gc (Gc v)/\Q v H
noncomputable def tC(v:V):TE:=λ_ H Q=>Q v H
theorem YZ{i:Nat}{x:Str}{pos:Pos}(hN:X.N[i]?=Gc x)(hv:Vis X.env.scope x)(hd:(x==("__debug__":Str))=false:=by decide)(hcd:(x==("__classdict__":Str))=false:=by decide):PE X (.Name x pos) (l8 i):=by
 intro pins s σ H Q I h
 obtain⟨v,e,h⟩:=h
 obtain⟨m,hn,hl⟩:=I.loc
 obtain⟨u,r,l⟩:=hl i x v hN e hv
 have fin:EP X pins σ Q u s:=⟨v,H,I,r,h⟩
 rcases l with⟨hk,hm⟩|⟨hk,c,hc,hcell⟩
 .exact wpAny_Name (wpAny_loadName_local I.ok.kind hk hn hm fin) hd
 .rcases hk with hk|hk
  .exact wpAny_Name (wpAny_loadName_cell I.ok.kind hk hc hcell fin) hd
  .exact wpAny_Name (wpAny_loadName_free I.ok.kind hk hc hcell fin hcd) hd
theorem dY{i j pos}:PE X (.Constant (.int i) j pos) (tC (.int i)):=λ_ _ _ H _ I h=>wpAny_Constant_int ⟨.int i,H,I.tok _,⟨_,rfl⟩,h⟩
theorem jK{b j pos}:PE X (.Constant (.bool b) j pos) (tC (.bl b)):=λ_ _ _ H _ I h=>Constant_bool ⟨.bl b,H,I,rfl,h⟩
theorem gC{j pos}:PE X (.Constant .none j pos) (tC .non):=λ_ _ _ H _ I h=>Constant_none ⟨.non,H,I,rfl,h⟩
theorem cV{x j pos}:PE X (.Constant (.str x) j pos) (tC (.str x)):=λ_ _ _ H _ I h=>Calls.Constant_str ⟨.str x,H,I.tok _,⟨_,rfl⟩,h⟩
def Gl(X:Cx)(x:Str):Prop:=X.env.kindOf x=Gc .globalImplicit
theorem NA{E:qT->qX->Prop}{pins:Wp (qb×Obj)}{s:qX}{σ:St}{H:Hp}{x:Str}{u:qT}{pos:Pos}{Q:qT->qX->Prop}(I:Inv X pins σ H s)(hg:Gl X x)(hm:X.mg x=Gc u)(h:Q u s)(hd:(x==("__debug__":Str))=false:=by decide):wpAny (model X.prog X.w) X.A (eval (.Name x pos) X.env) Q E s:=
 v7 I.ok.kind hg (yo (by rw[I.ok.glob];exact I.mod.glob.keeps I.bk) hm h) hd
theorem Ic{E:qT->qX->Prop}{pins:Wp (qb×Obj)}{s:qX}{σ:St}{H:Hp}{x:Str}{u:qT}{pos:Pos}{Q:qT->qX->Prop}(I:Inv X pins σ H s)(hg:Gl X x)(hm:X.mg x=none)(hv:bootBuiltins x=Gc u)(h:Q u s)(hn:x≠ "__name__":=by decide)(hd:(x==("__debug__":Str))=false:=by decide):wpAny (model X.prog X.w) X.A (eval (.Name x pos) X.env) Q E s:=by
 obtain⟨mb,h1,h2⟩:=I.mod.blt
 exact v7 I.ok.kind hg (Calls.loadGlobal_builtin (by rw[I.ok.glob];exact I.mod.glob.keeps I.bk) hm (by rw[I.ok.blt];exact h1.keeps I.bk) ((h2 x hn).trans hv) h) hd
theorem ZN{x:Str}{v:V}{u:qT}{pos:Pos}(hg:Gl X x)(hm:X.mg x=Gc u)(r:RelV v u)(hd:(x==("__debug__":Str))=false:=by decide):PE X (.Name x pos) (tC v):=
 λ_ _ _ H _ I h=>NA I hg hm ⟨v,H,I,r,h⟩ hd
theorem aL{x:Str}{v:V}{u:qT}{pos:Pos}(hg:Gl X x)(hm:X.mg x=none)(hv:bootBuiltins x=Gc u)(r:RelV v u)(hn:x≠ "__name__":=by decide)(hd:(x==("__debug__":Str))=false:=by decide):PE X (.Name x pos) (tC v):=
 λ_ _ _ H _ I h=>Ic I hg hm hv ⟨v,H,I,r,h⟩ hn hd
variable{a b:rJ}{ta tb:TE}{pos:Pos}
def PC(X:Cx)(op:CmpOp)(a b:rJ)(t:TE):Prop:=
 ∀(pins:Wp (qb×Obj)) (s:qX) (σ:St) (H:Hp) (Q:VK),Inv X pins σ H s->t σ H Q->
  wpAny (model X.prog X.w) X.A (eval a X.env) (λv s₁=>wpAny (model X.prog X.w) X.A (eval b X.env) (λu s₂=>wpAny (model X.prog X.w) X.A (compareOp op v u) (EP X pins σ Q) X.xe s₂) X.xe s₁) X.xe s
theorem Ww(b:rJ){op:CmpOp}(h:op≠.In)(h2:op≠.NotIn):behindInMarks op b=false:=by
 have e1:(op==CmpOp.In)=false:=by cases op<;>first|rfl|exact absurd rfl h
 have e2:(op==CmpOp.NotIn)=false:=by cases op<;>first|rfl|exact absurd rfl h2
 cases b<;>simp[behindInMarks,e1,e2]
noncomputable def tB(t:TE):TT:=λσ H Q=>t σ H λx H1=>∃c,x=.bl c/\Q c H1
theorem cY{op:CmpOp}{t:TE}(h:PC X op a b t)(h1:behindInMarks op b=false:=by first|exact Ww _ (by decide) (by decide)|rfl):PT X (.Compare a [op] [b] pos) (tB t):=by
 intro pins s σ H Q I hw
 refine zV (thn (h pins s σ H _ I hw) λv s1 h1=>thn h1 λu s2 h2=>thn h2 λc s3 ⟨x,H1,I1,r1,q1⟩=>?_) h1
 obtain⟨d,rfl,q⟩:=q1
 cases r1
 exact ug ⟨H1,I1,q⟩
theorem dN{e:rJ}{t:TE}(h:PE X e t)(he:∀whole,isTrue e X.env whole=(do let v<-whole;standAt e.pos;holding [v] (truthy v)):=by intro _;rfl):PT X e (tB t):=by
 intro pins s σ H Q I hw
 refine isTrue_plain (thn (h pins s σ H _ I hw) λv s1 ⟨x,H1,I1,r1,q1⟩=>?_) (he _)
 obtain⟨d,rfl,q⟩:=q1
 cases r1
 exact ug ⟨H1,I1,q⟩
variable{tA tB':TT}{rest:Wp rJ}
noncomputable def nX(t u:TT):TT:=λσ H Q=>t σ H λc H1=>if c=true then u σ H1 Q else Q false H1
noncomputable def tOr(t u:TT):TT:=λσ H Q=>t σ H λc H1=>if c=true then Q true H1 else u σ H1 Q
noncomputable def oB(t:TT):TT:=λσ H Q=>t σ H λc H1=>Q (!c) H1
theorem ZJ(ha:PT X a tA):PW X (.BoolOp .And [a] pos) tA:=by
 intro wh pins s σ H Q I h
 refine isTrue_and (thn (ha pins s σ H Q I h) λc s1 e=>?_)
 cases c with
 |true=>exact isTrue_and_nil e
 |false=>exact e
theorem gL(ha:PT X a tA):PW X (.BoolOp .Or [a] pos) tA:=by
 intro wh pins s σ H Q I h
 refine isTrue_or (thn (ha pins s σ H Q I h) λc s1 e=>?_)
 cases c with
 |false=>exact isTrue_or_nil e
 |true=>exact e
theorem bz(ha:PT X a tA)(hb:PW X (.BoolOp .And (b::rest) pos) tB'):PW X (.BoolOp .And (a::b::rest) pos) (nX tA tB'):=by
 intro wh pins s σ H Q I h
 refine isTrue_and (thn (ha pins s σ H _ I h) λc s1 ⟨H1,I1,q1⟩=>?_)
 cases c with
 |true=>exact hb wh pins s1 σ H1 Q I1 q1
 |false=>exact⟨H1,I1,q1⟩
theorem kD(ha:PT X a tA)(hb:PW X (.BoolOp .Or (b::rest) pos) tB'):PW X (.BoolOp .Or (a::b::rest) pos) (tOr tA tB'):=by
 intro wh pins s σ H Q I h
 refine isTrue_or (thn (ha pins s σ H _ I h) λc s1 ⟨H1,I1,q1⟩=>?_)
 cases c with
 |true=>exact⟨H1,I1,q1⟩
 |false=>exact hb wh pins s1 σ H1 Q I1 q1
theorem cM(ha:PT X a tA):PT X (.UnaryOp .Not a pos) (oB tA):=by
 intro pins s σ H Q I h
 exact isTrue_not (ha pins s σ H (λc H1=>Q (!c) H1) I h)
noncomputable def jt(ta tb:TE):TE:=λσ H Q=>ta σ H λx H1=>∃c,x=.bl c/\if c=true then tb σ H1 Q else Q (.bl false) H1
noncomputable def lJ(ta:TE):TE:=λσ H Q=>ta σ H λx H1=>∃c,x=.bl c/\Q (.bl (!c)) H1
theorem cF{op}{t:TE}(h:PE X a t):PE X (.BoolOp op [a] pos) t:=λpins s σ H Q I hw=>BoolOp_one (h pins s σ H Q I hw)
theorem cG(ha:PE X a ta)(hb:PE X (.BoolOp .And (b::rest) pos) tb):PE X (.BoolOp .And (a::b::rest) pos) (jt ta tb):=by
 intro pins s σ H Q I h
 refine BoolOp_and (thn (ha pins s σ H _ I h) λv s1 ⟨x,H1,I1,r1,q1⟩=>?_)
 obtain⟨c,rfl,q1⟩:=q1
 cases r1
 refine ug ?_
 cases c with
 |true=>exact hb pins s1 σ H1 Q I1 q1
 |false=>exact⟨.bl false,H1,I1,rfl,q1⟩
theorem ck(ha:PE X a ta):PE X (.UnaryOp .Not a pos) (lJ ta):=by
 intro pins s σ H Q I h
 refine UnaryOp_ (thn (ha pins s σ H _ I h) λv s1 ⟨x,H1,I1,r1,q1⟩=>?_)
 obtain⟨c,rfl,q1⟩:=q1
 cases r1
 exact not_of (ug ⟨.bl (!c),H1,I1,rfl,q1⟩)
noncomputable def tIf(t:TT)(ta tb:TE):TE:=λσ H Q=>t σ H λc H1=>if c=true then ta σ H1 Q else tb σ H1 Q
theorem XH{c:rJ}(hc:PT X c tA)(ha:PE X a ta)(hb:PE X b tb):PE X (.IfExp c a b pos) (tIf tA ta tb):=by
 intro pins s σ H Q I h
 refine wpAny_IfExp (thn (hc pins s σ H _ I h) λd s1 ⟨H1,I1,q1⟩=>?_)
 cases d with
 |true=>exact ha pins s1 σ H1 Q I1 q1
 |false=>exact hb pins s1 σ H1 Q I1 q1
end
end L2
namespace L2
open PySem PySem.Spec PyProof.Rows
def SqL(K:qS)(H:Hp)(a:qb)(xs:Wp V):Prop:=
 Rd H a (.lst xs)∨
  ∃(o:Obj) (its:rP qT) (n:Nat),K.lookup a=Gc o/\o.cls=.type "list" /\o.dict=none/\o.data=.seq its n/\its.size<=sizeLine/\Vals xs its.toList
def SqT(K:qS)(H:Hp)(a:qb)(xs:Wp V):Prop:=
 Rd H a (.tup xs)∨
  ∃(o:Obj) (its:rP qT) (n:Nat),K.lookup a=Gc o/\o.cls=.type "tuple" /\o.data=.seq its n/\its.size<=sizeLine/\Vals xs its.toList
noncomputable def pJ:qT->qY V
 | .none=>Gc .non
 | .bool b=>Gc (.bl b)
 | .int i _=>Gc (.int i)
 | .str x _=>Gc (.str x)
 | .bytes b _=>Gc (.byt b)
 | .float b _=>Gc (.flt b)
 | .ref a=>Gc (.ref a)
 | .type n=>Gc (.ty n)
 |_=>none
theorem RelV.abs{x:V}{u:qT}(r:RelV x u):pJ u=Gc x:=by
 cases x with
 |non=>cases r;rfl
 |bl _=>cases r;rfl
 |int _=>obtain⟨t,rfl⟩:=r;rfl
 |str _=>obtain⟨t,rfl⟩:=r;rfl
 |byt _=>obtain⟨t,rfl⟩:=r;rfl
 |flt _=>obtain⟨t,rfl⟩:=r;rfl
 |ref _=>cases r;rfl
 |ty _=>cases r;rfl
theorem RelV.inj{x y:V}{u:qT}(r:RelV x u)(q:RelV y u):x=y:=sL (r.abs.symm.trans q.abs)
theorem Vals.inj:∀{xs ys:Wp V} {us:Wp qT},Vals xs us->Vals ys us->xs=ys
 |_,_,_,.nil,.nil=>rfl
 |_,_,_,.cons r t,.cons r' t'=>by rw[r.inj r',Vals.inj t t']
section
variable{X:Cx}{pins:Wp (qb×Obj)}{σ:St}{H:Hp}{s:qX}{a:qb}{xs ys:Wp V}
theorem SqL.of{K:qS}(h:H a=Gc (.lst xs)):SqL K H a xs:=.inl (.inl h)
theorem SqT.of{K:qS}(h:H a=Gc (.tup xs)):SqT K H a xs:=.inl (.inl h)
theorem Inv.list(I:Inv X pins σ H s)(h:SqL X.K H a xs):∃its:Wp qT,Vals xs its/\PlainL s.heap a its.toArray/\xs.length<=sizeLine:=by
 rcases h with h|⟨o,its,n,hk,hc,hd,hs,hz,r⟩
 .obtain⟨z,its,n,r,e⟩:=h.ok I.hok
  exact⟨its,r,⟨_,n,e,rfl,rfl,rfl⟩,z⟩
 .refine⟨its.toList,r,⟨o,n,I.kIn a o hk,hc,hd,by simpa using hs⟩,?_⟩
  have e:=r.length
  simp only[uF]at e
  lia
theorem Inv.tuple(I:Inv X pins σ H s)(h:SqT X.K H a xs):∃its:Wp qT,Vals xs its/\y7 s.heap a its.toArray/\xs.length<=sizeLine:=by
 rcases h with h|⟨o,its,n,hk,hc,hs,hz,r⟩
 .obtain⟨z,its,r,p⟩:=h.ok I.hok
  exact⟨its,r,p,z⟩
 .refine⟨its.toList,r,⟨o,I.kIn a o hk,hc,n,by simpa using hs⟩,?_⟩
  have e:=r.length
  simp only[uF]at e
  lia
theorem Inv.Qk(I:Inv X pins σ H s)(h:SqL X.K H a xs)(h':SqL X.K H a ys):xs=ys:=by
 obtain⟨its,r,⟨o,n,e,_,_,d⟩,_⟩:=I.list h
 obtain⟨its',r',⟨o',n',e',_,_,d'⟩,_⟩:=I.list h'
 rw[e]at e';cases e'
 rw[d]at d'
 injection d' with d1 _
 have:its=its':=by simpa using congrArg Array.toList d1
 subst this
 exact r.inj r'
theorem Inv.PB(I:Inv X pins σ H s)(h:SqT X.K H a xs)(h':SqT X.K H a ys):xs=ys:=by
 obtain⟨its,r,⟨o,e,_,n,d⟩,_⟩:=I.tuple h
 obtain⟨its',r',⟨o',e',_,n',d'⟩,_⟩:=I.tuple h'
 rw[e]at e';cases e'
 rw[d]at d'
 injection d' with d1 _
 have:its=its':=by simpa using congrArg Array.toList d1
 subst this
 exact r.inj r'
end
abbrev Cx.V2(X:Cx)(E:qT->qX->Prop):Cx:={X with xe:=E}
abbrev Cx.nox(X:Cx):Cx:=X.V2 λ_ _=>uP
theorem Cx.Ok.V2{X:Cx}(ok:X.Ok)(E:qT->qX->Prop):(X.V2 E).Ok:=
 ⟨ok.mod,ok.kind,ok.glob,ok.blt,ok.above,ok.inj,ok.has,ok.cab,ok.hd,ok.frames,ok.stk,ok.exf,ok.bs,ok.bsz,ok.YY,ok.Zj,ok.SF,ok.frf⟩
theorem Cx.Ok.Jm{X:Cx}{E:qT->qX->Prop}(ok:(X.V2 E).Ok):X.Ok:=
 ⟨ok.mod,ok.kind,ok.glob,ok.blt,ok.above,ok.inj,ok.has,ok.cab,ok.hd,ok.frames,ok.stk,ok.exf,ok.bs,ok.bsz,ok.YY,ok.Zj,ok.SF,ok.frf⟩
section
variable{X:Cx}{pins:Wp (qb×Obj)}{σ:St}{H:Hp}{s:qX}{E:qT->qX->Prop}
theorem Inv.V2(I:Inv X pins σ H s)(E:qT->qX->Prop):Inv (X.V2 E) pins σ H s:=⟨I.ok.V2 E,I.os,I.bare,I.base,I.loc,I.cell,I.free,I.JP,I.pin,I.hok,I.len⟩
theorem Inv.Jm(I:Inv (X.V2 E) pins σ H s):Inv X pins σ H s:=⟨I.ok.Jm,I.os,I.bare,I.base,I.loc,I.cell,I.free,I.JP,I.pin,I.hok,I.len⟩
theorem SP.Jm{D:Ends}{f:Flow}{s':qX}(h:SP (X.V2 E) pins D f s'):SP X pins D f s':=by
 cases f with
 |next=>obtain⟨σ',H',I,q⟩:=h;exact⟨σ',H',I.Jm,q⟩
 |brk=>obtain⟨σ',H',I,q⟩:=h;exact⟨σ',H',I.Jm,q⟩
 |cont=>obtain⟨σ',H',I,q⟩:=h;exact⟨σ',H',I.Jm,q⟩
 |ret u=>obtain⟨v,σ',H',I,r,q⟩:=h;exact⟨v,σ',H',I.Jm,r,q⟩
theorem PSs.nox{st:Wp sG}{t:TS}(h:PSs X.nox st t):PSs X st t:=λpins s σ H D I hw=>
 ui (h pins s σ H D (I.V2 _) hw) (λ_ _ q=>q.Jm) λ_ _ z=>uj z
end
section
variable{X:Cx}{st:sG}{rest:Wp sG}{t u:TS}{e:rJ}{te:TE}{pos:Pos}
noncomputable def jP:TS:=λD σ H=>D.nx σ H
noncomputable def pG(t u:TS):TS:=λD σ H=>t {D with nx:=u D} σ H
theorem aH:PSs X [] jP:=λ_ _ σ H _ I h=>wV ⟨σ,H,I,h⟩
theorem Xd(h1:PS X st t)(h2:PSs X rest u):PSs X (st::rest) (pG t u):=by
 intro pins s σ H D I h
 refine wF (thn (h1 pins s σ H {D with nx:=u D} I h) λf s1 q=>?_)
 cases f with
 |next=>
  obtain⟨σ',H',I',q⟩:=q
  exact h2 pins s1 σ' H' D I' q
 |ret v=>exact q
 |brk=>exact q
 |cont=>exact q
theorem aF(h1:PS X st t):PSs X [st] t:=by
 intro pins s σ H D I h
 refine wF (thn (h1 pins s σ H D I h) λf s1 q=>?_)
 cases f with
 |next=>exact wV q
 |ret v=>exact q
 |brk=>exact q
 |cont=>exact q
theorem Inv.quiet{pins:Wp (qb×Obj)}{σ:St}{H:Hp}{s:qX}(I:Inv X pins σ H s):interactive X.env=false:=by simp[interactive,I.ok.kind]
noncomputable def lM(te:TE):TS:=λD σ H=>te σ H λ_ H1=>D.nx σ H1
theorem ay(he:PE X e te)(hs:swapsWith e none pos.line X.env=pure false:=by rfl):PS X (.Expr e pos) (lM te):=by
 intro pins s σ H D I h
 exact wpAny_Expr_any (thn (he pins s σ H _ I h) λv s1 ⟨x,H1,I1,r1,q1⟩=>⟨σ,H1,I1,q1⟩) I.quiet hs
noncomputable def oO(te:TE):TS:=λD σ H=>te σ H D.rt
theorem gI(he:PE X e te):PS X (.Return (Gc e) pos) (oO te):=by
 intro pins s σ H D I h
 exact wpAny_Return_some (thn (he pins s σ H _ I h) λv s1 ⟨x,H1,I1,r1,q1⟩=>⟨x,σ,H1,I1,r1,q1⟩)
noncomputable def og(c:TT)(t u:TS):TS:=λD σ H=>c σ H λb H1=>if b=true then t D σ H1 else u D σ H1
theorem jx{c:rJ}{a b:Wp sG}{tc:TT}(hc:PT X c tc)(ha:PSs X a t)(hb:PSs X b u):PS X (.If c a b pos) (og tc t u):=by
 intro pins s σ H D I h
 refine wpAny_If (thn (hc pins s σ H _ I h) λd s1 ⟨H1,I1,q1⟩=>?_)
 cases d with
 |true=>exact ha pins s1 σ H1 D I1 q1
 |false=>exact hb pins s1 σ H1 D I1 q1
end
abbrev TG:=V->St->Hp->(St->Hp->Prop)->Prop
abbrev TGs:=Wp V->St->Hp->(St->Hp->Prop)->Prop
def PG(X:Cx)(target:rJ)(t:TG):Prop:=
 ∀(pins:Wp (qb×Obj)) (s:qX) (σ:St) (H:Hp) (v:V) (u:qT) (Q:St->Hp->Prop),Inv X pins σ H s->RelV v u->t v σ H Q->
  wpAny (model X.prog X.w) X.A (assign target X.env u) (λ_ s'=>∃σ' H',Inv X pins σ' H' s'/\Q σ' H') X.xe s
def PGs(X:Cx)(ts:Wp rJ)(t:TGs):Prop:=
 ∀(pins:Wp (qb×Obj)) (s:qX) (σ:St) (H:Hp) (vs:Wp V) (us:Wp qT) (Q:St->Hp->Prop),Inv X pins σ H s->Vals vs us->t vs σ H Q->
  wpAny (model X.prog X.w) X.A (assignInOrder ((assignEach ts X.env).map (·.2)) us) (λ_ s'=>∃σ' H',Inv X pins σ' H' s'/\Q σ' H') X.xe s
abbrev k9:=V->V->V->Hp->(Hp->Prop)->Prop
def mM(X:Cx)(t:k9):Prop:=
 ∀(pins:Wp (qb×Obj)) (s:qX) (σ:St) (H:Hp) (o i v:V) (ov iv u:qT) (Q:Hp->Prop),Inv X pins σ H s->RelV o ov->RelV i iv->RelV v u->t o i v H Q->
  wpAny (model X.prog X.w) X.A (setItem ov iv u) (λ_ s'=>∃H',Inv X pins σ H' s'/\Q H') X.xe s
section
variable{X:Cx}{pos:Pos}
noncomputable def aR(i:Nat):TG:=λv σ H Q=>Q (σ.set i (Gc v)) H
theorem Zs{i:Nat}{x:Str}(hN:X.N.Nodup)(hi:X.N[i]?=Gc x)(hx:Loc X.env.scope x)(hf:X.fn x=true\/X.env.scope.names.lookup x=Gc .local:=by first|exact .inl rfl|exact .inr rfl|assumption):PG X (.Name x pos) (aR i):=by
 intro pins s σ H v u Q I r h
 exact wpAny_assign_Name (KO I hN hi hx r (λs' I'=>⟨_,H,I',h⟩) hf)
noncomputable def m8:TGs:=λvs σ H Q=>vs=[]/\Q σ H
noncomputable def eP(t:TG)(u:TGs):TGs:=λvs σ H Q=>∃v r,vs=v::r/\t v σ H λσ' H'=>u r σ' H' Q
theorem ZS:PGs X [] m8:=by
 intro pins s σ H vs us Q I r h
 obtain⟨e,h⟩:=h
 subst e
 cases r
 exact assignInOrder_nil ⟨σ,H,I,h⟩
theorem Wb{e:rJ}{es:Wp rJ}{t:TG}{u:TGs}(h1:PG X e t)(h2:PGs X es u)(hs:(assignEach (e::es) X.env).map (·.2)=assign e X.env::(assignEach es X.env).map (·.2):=by rfl):PGs X (e::es) (eP t u):=by
 intro pins s σ H vs us Q I r h
 obtain⟨v,vr,e1,h⟩:=h
 subst e1
 cases r with
 |cons r rr=>
  rw[hs]
  refine xw (thn (h1 pins s σ H _ _ _ I r h) λ_ s1 ⟨σ1,H1,I1,q1⟩=>?_)
  exact h2 pins s1 σ1 H1 _ _ Q I1 rr q1
noncomputable def pT(K:qS)(n:Nat)(t:TGs):TG:=λv σ H Q=>∃a xs,v=.ref a/\SqT K H a xs/\xs.length=n/\t xs σ H Q
theorem fg{es:Wp rJ}{k:Nat}{t:TGs}{n:Nat}(hc:X.calm=true)(h:PGs X es t)(hn:(assignEach es X.env).length=n:=by rfl)(hst:(assignEach es X.env).findIdx? (·.1)=none:=by rfl):PG X (.Tuple es k pos) (pT X.K n t):=by
 intro pins s σ H v u Q I r hw
 obtain⟨a,xs,e1,hq,hl,hw⟩:=hw
 subst e1
 cases r
 obtain⟨its,rv,ht,hz⟩:=I.tuple hq
 refine assign_Tuple_tuple (I.ok.hd hc) ht (by simp[hn,<-hl,rv.length]) hst λh' hx=>?_
 have I1:Inv X pins σ H {s with heap:=h'}:=I.kept (t':=s.toks) λb o e=>hx b o (qv (qq e)) e
 exact h pins _ σ H xs _ Q I1 (by simpa using rv) hw
noncomputable def pB(to ti:TE)(t:k9):TG:=λv σ H Q=>to σ H λo H1=>ti σ H1 λi H2=>t o i v H2 λH3=>Q σ H3
theorem dD {o i : rJ} {to ti : TE} {t : k9} (ho : PE X o to) (hi : PE X i ti) (hs : mM X t) (ha : ∀ v, assign (.Subscript o i pos) X.env v = (do
      let ov ← holding [v] (eval o X.env)
      let iv ← holding [v, ov] (eval i X.env)
      standAt pos
      holding [v, ov, iv] (setItem ov iv v)
      release [v, ov, iv] []) := by intro _; rfl) : PG X (.Subscript o i pos) (pB to ti t) := by
  intro pins s σ H v u Q I r h
  rw [ha]
  refine qR (sI (thn (ho pins s σ H _ I h) fun ov s1 ⟨x, H1, I1, r1, q1⟩ => ?_))
  refine qR (sI (thn (hi pins s1 σ H1 _ I1 q1) fun iv s2 ⟨y, H2, I2, r2, q2⟩ => ?_))
  refine qR (wQ (qR (sI (thn (hs pins s2 σ H2 x y v ov iv u _ I2 r1 r2 r q2) fun _ s3 ⟨H3, I3, q3⟩ => ?_))))
  exact wpAny_release ⟨σ, H3, I3, q3⟩
noncomputable def kq(te:TE)(g:TG):TS:=λD σ H=>te σ H λx H1=>g x σ H1 D.nx
theorem YT{tg e:rJ}{te:TE}{g:TG}(he:PE X e te)(hg:PG X tg g)(hs:swapsWithSole [tg] e pos.line X.env=pure false:=by rfl)(hw:swappedStores [tg] e X.env=pure none:=by rfl)(h1:(assignEach [tg] X.env).map (·.2)=[assign tg X.env]:=by rfl):PS X (.Assign [tg] e pos) (kq te g):=by
 intro pins s σ H D I h
 refine wpAny_Assign_stores (thn (he pins s σ H _ I h) λv s1 ⟨x,H1,I1,r1,q1⟩=>?_) hs hw
 rw[h1]
 exact thn (hg pins s1 σ H1 x v _ I1 r1 q1) λ_ s2 q=>q
theorem bx{i:Nat}{x:Str}{e:rJ}{te:TE}{pos':Pos}(hN:X.N.Nodup)(hi:X.N[i]?=Gc x)(hx:Loc X.env.scope x)(he:PE X e te)(hs:swapsWith e (Gc (.Name x pos')) pos.line X.env=pure false:=by rfl)(hf:X.fn x=true\/X.env.scope.names.lookup x=Gc .local:=by first|exact .inl rfl|exact .inr rfl|assumption):PS X (.Assign [.Name x pos'] e pos) (kq te (aR i)):=by
 intro pins s σ H D I h
 refine wpAny_Assign_Name (thn (he pins s σ H _ I h) λv s1 ⟨y,H1,I1,r1,q1⟩=>?_) hs
 exact KO I1 hN hi hx r1 (λs2 I2=>⟨_,H1,I2,q1⟩) hf
noncomputable def oG(i j:Nat)(ta:TA):TS:=λD σ H=>ta σ H λvs H1=>∃v w,vs=[v,w]/\D.nx ((σ.set i (Gc v)).set j (Gc w)) H1
theorem fq{i j:Nat}{x y:Str}{a b:rJ}{ta:TA}{px py pt:Pos}{kt k2 pt2}(hc:X.calm=true)(hN:X.N.Nodup)(hi:X.N[i]?=Gc x)(hj:X.N[j]?=Gc y)(hij:i≠j)(hx:X.env.scope.names.lookup x=Gc .local)(hy:X.env.scope.names.lookup y=Gc .local)(ha:PA X [a,b] ta)(hw:swappedStores [.Tuple [.Name x px,.Name y py] kt pt] (.Tuple [a,b] k2 pt2) X.env=pure (Gc [x,y]))(hs:swapsWithSole [.Tuple [.Name x px,.Name y py] kt pt] (.Tuple [a,b] k2 pt2) pos.line X.env=pure false:=by rfl):PS X (.Assign [.Tuple [.Name x px,.Name y py] kt pt] (.Tuple [a,b] k2 pt2) pos) (oG i j ta):=by
 intro pins s σ H D I h
 rw[exec_Assign_arm]
 refine qR (wQ ?_)
 rw[hs]
 refine qR (qa ?_)
 rw[rA (by decide)]
 refine qR (Tuple_ (thn (ha _ pins s σ H _ I h) λus s1 ⟨vs,H1,I1,r1,q1⟩=>?_))
 obtain⟨v,w,e1,q1⟩:=q1
 subst e1
 obtain⟨u1,u2,rfl,rv,rw'⟩:∃u1 u2,us=[u1,u2]/\RelV v u1/\RelV w u2:=by
  cases r1 with
  |cons p q=>
   cases q with
   |cons p' q'=>
    cases q'
    exact⟨_,_,rfl,p,p'⟩
 refine rm ?_ (by show 2<=sizeLine;decide)
 have I2:Inv X pins σ H1 {s1 with heap:=s1.heap.push {cls:=.type "tuple",data:=.seq [u1,u2].toArray}}:=I1.kept (t':=s1.toks) λb o e=>qU _ e
 rw[hw]
 refine qR (qa ?_)
 show wpAny (model X.prog X.w) X.A (do rule "assign.swapped-stores"; let items<-unpackItems (.ref s1.heap.objs.size) 2 none;assignInOrder [λv=>bindName X.env y v,λv=>bindName X.env x v] items.reverse;pure Flow.next) _ _ _
 refine qR (vA (qR (unpackItems_tuple (items:= #[u1,u2]) (I.ok.hd hc) (wL s1.heap _) λh' hx'=>?_)))
 have I3:=I2.kept (h':=h') (t':=s1.toks) λb o e=>hx' b o (qv (qq e)) e
 show wpAny _ _ (assignInOrder [λv=>bindName X.env y v,λv=>bindName X.env x v] [u2,u1] >>= λ_=>pure Flow.next) _ _ _
 refine qR (xw (wpAny_bindName (KO I3 hN hj (.inl hy) rw' (λs2 I4=>?_) (.inr hy))))
 refine xw (wpAny_bindName (KO I4 hN hi (.inl hx) rv (λs3 I5=>assignInOrder_nil (qa ?_)) (.inr hx)))
 rw[List.set_comm _ _ (rh hij)]at I5
 exact⟨_,H1,I5,q1⟩
end
section
variable{X:Cx}{pos:Pos}
noncomputable def cg(c:TT)(tb:TS):TS:=λD σ H=>∃W:Nat->St->Hp->Prop,(∃m,W m σ H)/\∀m σ H,W m σ H->
 c σ H λb H1=>if b=true then∃N:St->Hp->Prop,(∀σ' H',N σ' H'->∃m',m'<m/\W m' σ' H')/\tb {D with nx:=N,ct:=N,bk:=D.nx} σ H1 else D.nx σ H1
theorem Xh{c:rJ}{body:Wp sG}{tc:TT}{tb:TS}(hp:PassesOwn (model X.prog X.w) X.A X.env X.xe)(hc:PT X c tc)(hb:PSs X body tb):PS X (.While c body [] pos) (cg tc tb):=by
 intro pins s σ H D I h
 obtain⟨W,⟨m0,w0⟩,turn⟩:=h
 refine wpAny_While (codeAny_whileLoop (λn s'=>∃σ' H',Inv X pins σ' H' s'/\W n σ' H') ?_ m0 ⟨σ,H,I,w0⟩)
 rintro n s1 ⟨σ1,H1,I1,w1⟩
 refine vI hp (thn (hc pins s1 σ1 H1 _ I1 (turn n σ1 H1 w1)) λb s2 ⟨H2,I2,q2⟩=>?_)
 cases b with
 |true=>
  obtain⟨N,hN,q2⟩:=q2
  rw[q9 rfl]
  refine vI hp (thn (hb pins s2 σ1 H2 _ I2 q2) λf s3 q3=>?_)
  cases f with
  |next=>
   obtain⟨σ3,H3,I3,n3⟩:=q3
   obtain⟨m',hm,w3⟩:=hN σ3 H3 n3
   exact⟨m',hm,σ3,H3,I3,w3⟩
  |cont=>
   obtain⟨σ3,H3,I3,n3⟩:=q3
   obtain⟨m',hm,w3⟩:=hN σ3 H3 n3
   exact⟨m',hm,σ3,H3,I3,w3⟩
  |brk=>exact q3
  |ret v=>exact q3
 |false=>
  rw[rA sC]
  exact wV ⟨σ1,H2,I2,q2⟩
end
structure It where
 go:Nat->Hp->Prop
 yld:Nat->Hp->V->Hp->Prop
 stop:Nat->Hp->Prop
def QW(X:Cx)(pins:Wp (qb×Obj))(H:Hp)(b:qb):Prop:=
 H b=none/\b≠X.env.locals/\b∉X.fs/\(b∈X.ex\/X.s₀.heap.objs.size<=b)/\(∀x c,X.env.cells.lookup x=Gc c->c≠b)/\∀p∈X.pn++pins,p.1≠b
theorem Inv.ZZ{X:Cx}{pins:Wp (qb×Obj)}{σ:St}{H H':Hp}{s:qX}{b:qb}(I:Inv X pins σ H s)(hb:s.heap.objs.size<=b)(hn:H' b=none):QW X pins H' b:=by
 refine⟨hn,ur (qf I.lt hb),I.pR hb,.inr (qh I.sz hb),λx c e z=>?_,λp hp z=>?_⟩
 .obtain⟨v,q⟩:=I.cell x c e
  exact absurd (qf q.lt (by rw[z];exact hb)) (sV _)
 .exact absurd (qf (qq (I.pin p hp).1) (by rw[z];exact hb)) (sV _)
structure Turn(P:rF)(w:rX)(K:qS)(tg:rJ)(J:It)(fp:Wp qb)(it:qb)(tn:Nat->rT->Prop):Prop where
 mem:it∈fp
 obj:∀i h,tn i h->∀b∈fp,∃o,h.get? b=Gc o/\∀v,o.data≠.cell v
 keep:∀i h h',tn i h->(∀b∈fp,∀o,h.get? b=Gc o->h'.get? b=Gc o)->tn i h'
 item:∀(X:Cx),X.prog=P->X.w=w->X.K=K->X.calm=true->∀(i:Nat) (pins:Wp (qb×Obj)) (s:qX) (σ:St) (H:Hp) (E:qT->qX->Prop),Inv X pins σ H s->(∀b∈fp,QW X pins H b)->tn i s.heap->J.go i H->
  wpAny (model P w) X.A (pyNext (.ref it)) (λr s1=>∃u,r=Gc u/\
   wpAny (model P w) X.A (letOwnedTupleGo tg (.ref it) u) (λ_ s2=>∃x H',Inv X pins σ H' s2/\RelV x u/\J.yld i H x H'/\tn (i+1) s2.heap/\∀b∈fp,H' b=none) E s1) E s
 done:∀(X:Cx),X.prog=P->X.w=w->X.K=K->X.calm=true->∀(i:Nat) (pins:Wp (qb×Obj)) (s:qX) (σ:St) (H:Hp) (E:qT->qX->Prop),Inv X pins σ H s->(∀b∈fp,QW X pins H b)->tn i s.heap->J.stop i H->
  wpAny (model P w) X.A (pyNext (.ref it)) (λr s1=>r=none/\Inv X pins σ H s1) E s
 self:∀(A:rS) (i:Nat) (s:qX) (Q:qT->qX->Prop) (E:qT->qX->Prop),tn i s.heap->Q (.ref it) s->wpAny (model P w) A (pyIter (.ref it)) Q E s
abbrev TI:=St->Hp->(It->Hp->Prop)->Prop
def PIE(X:Cx)(pins:Wp (qb×Obj))(σ:St)(tg:rJ)(R:It->Hp->Prop)(itv:qT)(s2:qX):Prop:=
 ∃(it:qb) (fp:Wp qb) (tn:Nat->rT->Prop) (J:It) (H':Hp),itv=.ref it/\Inv X pins σ H' s2/\Turn X.prog X.w X.K tg J fp it tn/\tn 0 s2.heap/\(∀b∈fp,QW X pins H' b)/\R J H'
def PI(X:Cx)(tg iter:rJ)(wi:TI):Prop:=
 ∀(pins:Wp (qb×Obj)) (s:qX) (σ:St) (H:Hp) (R:It->Hp->Prop),Inv X pins σ H s->wi σ H R->
  wpAny (model X.prog X.w) X.A (eval iter X.env) (λv s1=>wpAny (model X.prog X.w) X.A (pyIter v) (PIE X pins σ tg R) X.xe s1) X.xe s
theorem aq{M:AAH}{A:rS}{E:qT->qX->Prop}{s:qX}{tg:rJ}{it:qb}{u:qT}{o:Obj}{n:uO}{vs:rP qT}{Q:Unit->qX->Prop}(ho:s.heap.get? it=Gc o)(hc:o.cls=.type n)(hd:o.data=.fields vs)(hn:["enumerate","zip","dict_itemiterator","dict_reverseitemiterator","odict_iterator","itertools.zip_longest","itertools.pairwise"].contains n=false)(hQ:Q () s):wpAny M A (letOwnedTupleGo tg (.ref it) u) Q E s:=by
 unfold letOwnedTupleGo
 cases tg<;>first
  |exact qa hQ
  |(cases u<;>first
     |exact qa hQ
     |(refine qR (wpAny_load ho ?_)
       rw[hc,hd]
       show wpAny M A (if(["enumerate","zip","dict_itemiterator","dict_reverseitemiterator","odict_iterator","itertools.zip_longest","itertools.pairwise"].contains n && vs[0]?==Gc (rawInt _))=true then _ else _) Q E s
       rw[rA (by intro h;rw[hn,Bool.false_and]at h;cases h)]
       exact qa hQ))
noncomputable def Itl(K:qS)(a:qb):It:=
 ⟨λi H=>∃xs x,SqL K H a xs/\xs[i]?=Gc x,λi H x H'=>H'=H/\∀xs,SqL K H a xs->xs[i]?=Gc x,λi H=>∃xs,SqL K H a xs/\xs.length<=i⟩
noncomputable def Itt(K:qS)(a:qb):It:=
 ⟨λi H=>∃xs x,SqT K H a xs/\xs[i]?=Gc x,λi H x H'=>H'=H/\∀xs,SqT K H a xs->xs[i]?=Gc x,λi H=>∃xs,SqT K H a xs/\xs.length<=i⟩
noncomputable def Itr(lo:Int)(n:Nat):It:=⟨λi _=>i<n,λi H x H'=>H'=H/\x=.int (lo+i),λi _=>n<=i⟩
theorem T7{P:rF}{w:rX}{K:qS}{tg:rJ}(a it:qb):Turn P w K tg (Itl K a) [it] it (λi h=>h.IsListIter it a i) where
 mem:=by simp
 obj:=λi h st b hb=>by
  have e:b=it:=by simpa using hb
  subst e
  obtain⟨o,e,c,d⟩:=st
  exact⟨o,e,λv z=>by rw[d]at z;cases z⟩
 keep:=λi h h' st k=>st.at λo e=>k it (by simp) o e
 item:=by
  intro X hP hw hK hc i pins s σ H E I hf st hg
  subst hP hw hK
  obtain⟨xs,x,hq,hx⟩:=hg
  obtain⟨its,rv,p,hz⟩:=I.list hq
  obtain⟨u,hu,ru⟩:=rv.get hx
  obtain⟨f0,f1,f2,f3,f4,f5⟩:=hf it (by simp)
  refine wo st p.isList (x:=u) (by simpa using hu) λh' st' sb=>?_
  have I1:Inv X pins σ H {s with heap:=h'}:=I.turned (t':=s.toks) (λb o hb e=>(sb.2 b hb).trans e) f0 f1 f3 f4 f5
  obtain⟨o,e,c,d⟩:=id st'
  exact⟨u,rfl,aq (s:={s with heap:=h'}) e c d (by decide) ⟨x,H,I1,ru,⟨rfl,λys hy=>by rw[I.Qk hy hq];exact hx⟩,st',λb hb=>(hf b hb).1⟩⟩
 done:=by
  intro X hP hw hK hc i pins s σ H E I hf st hg
  subst hP hw hK
  obtain⟨xs,hq,hx⟩:=hg
  obtain⟨its,rv,p,hz⟩:=I.list hq
  obtain⟨f0,f1,f2,f3,f4,f5⟩:=hf it (by simp)
  have hl:=rv.length
  exact xH (I.ok.hd hc) st p.isList (by simp;lia) λh' eb=>⟨rfl,I.turned (t':=s.toks) (λb o hb e=>eb b o hb e) f0 f1 f3 f4 f5⟩
 self:=λ_ _ _ _ _ st h=>zW st h
theorem Sq{P:rF}{w:rX}{K:qS}{tg:rJ}(a it:qb):Turn P w K tg (Itt K a) [it] it (λi h=>h.IsTupleIter it a i) where
 mem:=by simp
 obj:=λi h st b hb=>by
  have e:b=it:=by simpa using hb
  subst e
  obtain⟨o,e,c,d⟩:=st
  exact⟨o,e,λv z=>by rw[d]at z;cases z⟩
 keep:=λi h h' st k=>st.at λo e=>k it (by simp) o e
 item:=by
  intro X hP hw hK hc i pins s σ H E I hf st hg
  subst hP hw hK
  obtain⟨xs,x,hq,hx⟩:=hg
  obtain⟨its,rv,p,hz⟩:=I.tuple hq
  obtain⟨u,hu,ru⟩:=rv.get hx
  obtain⟨f0,f1,f2,f3,f4,f5⟩:=hf it (by simp)
  refine wpAny_pyNext_tuple_item st (show s.heap.IsTuple a its.toArray from p) (x:=u) (by simpa using hu) λh' st' sb=>?_
  have I1:Inv X pins σ H {s with heap:=h'}:=I.turned (t':=s.toks) (λb o hb e=>(sb.2 b hb).trans e) f0 f1 f3 f4 f5
  obtain⟨o,e,c,d⟩:=id st'
  exact⟨u,rfl,aq (s:={s with heap:=h'}) e c d (by decide) ⟨x,H,I1,ru,⟨rfl,λys hy=>by rw[I.PB hy hq];exact hx⟩,st',λb hb=>(hf b hb).1⟩⟩
 done:=by
  intro X hP hw hK hc i pins s σ H E I hf st hg
  subst hP hw hK
  obtain⟨xs,hq,hx⟩:=hg
  obtain⟨its,rv,p,hz⟩:=I.tuple hq
  obtain⟨f0,f1,f2,f3,f4,f5⟩:=hf it (by simp)
  have hl:=rv.length
  exact wpAny_pyNext_tuple_end (I.ok.hd hc) st (show s.heap.IsTuple a its.toArray from p) (by simp;lia) λh' eb=>⟨rfl,I.turned (t':=s.toks) (λb o hb e=>eb b o hb e) f0 f1 f3 f4 f5⟩
 self:=λ_ _ _ _ _ st h=>wpAny_pyIter_tupleiter st h
theorem Rp{P:rF}{w:rX}{K:qS}{tg:rJ}(it:qb)(lo:Int)(n:Nat):Turn P w K tg (Itr lo n) [it] it (λi h=>IsRangeIter h it (lo+(i:Nat)*1) ((n:Int)-(i:Nat)) 1) where
 mem:=by simp
 obj:=λi h st b hb=>by
  have e:b=it:=by simpa using hb
  subst e
  exact⟨_,st,λv z=>by
   have z':Data.fields _=Data.cell v:=z
   cases z'⟩
 keep:=λi h h' st k=>k it (by simp) _ st
 item:=by
  intro X hP hw hK hc i pins s σ H E I hf st hg
  subst hP hw hK
  obtain⟨f0,f1,f2,f3,f4,f5⟩:=hf it (by simp)
  have W:=Walks.range (prog:=X.prog) (w:=X.w) (I.ok.hd hc) it lo 1 n
  refine W.item i s _ _ hg st λv h' tk hv st' kk=>?_
  obtain⟨t,rfl⟩:=hv
  have I1:Inv X pins σ H {s with heap:=h',toks:=tk}:=I.turned (λb o hb e=>kk b o (by simpa using hb) e) f0 f1 f3 f4 f5
  refine⟨_,rfl,aq (s:={s with heap:=h',toks:=tk}) (n:="range_iterator") st' rfl rfl (by decide) ⟨.int (lo+i),H,I1,⟨t,?_⟩,⟨rfl,rfl⟩,st',λb hb=>(hf b hb).1⟩⟩
  rw[Int.mul_one]
 done:=by
  intro X hP hw hK hc i pins s σ H E I hf st hg
  subst hP hw hK
  obtain⟨f0,f1,f2,f3,f4,f5⟩:=hf it (by simp)
  exact wpAny_pyNext_range_end (I.ok.hd hc) st (by have:n<=i:=hg;lia) λh' eb=>⟨rfl,I.turned (t':=s.toks) (λb o hb e=>eb b o hb e) f0 f1 f3 f4 f5⟩
 self:=λ_ _ _ _ _ st h=>wpAny_pyIter_rangeiter st h
end L2
namespace L2
open PySem PySem.Spec PyProof.Rows
section
variable{X:Cx}{tg:rJ}
theorem WH{pins:Wp (qb×Obj)}{σ:St}{H:Hp}{s:qX}{R:It->Hp->Prop}{E:qT->qX->Prop}{lo hi:Int}{t u v:Tok}{tk:Nat}(I:Inv X pins σ H s)(h1: -(2^62)<=lo)(h2:lo<2^62)(h3: -(2^62)<=hi)(h4:hi<2^62)(q:R (Itr lo (hi-lo).toNat) H):wpAny (model X.prog X.w) X.A (pyIter (.ref s.heap.objs.size)) (PIE X pins σ tg R) E {s with heap:=s.heap.push {cls:=.type "range",data:=.fields #[.int lo t,.int hi u,.int 1 v]},toks:=tk}:=by
 refine wpAny_pyIter_range (IsRange.new ..) (small_one h1 h2 h3 h4) ?_
 have I1:Inv X pins σ H {s with heap:=s.heap.push {cls:=.type "range",data:=.fields #[.int lo t,.int hi u,.int 1 v]},toks:=tk}:=I.kept λb o e=>qU _ e
 refine⟨(s.heap.push {cls:=.type "range",data:=.fields #[.int lo t,.int hi u,.int 1 v]}).objs.size,[(s.heap.push {cls:=.type "range",data:=.fields #[.int lo t,.int hi u,.int 1 v]}).objs.size],_,_,H,rfl,
  I1.kept (t':=tk) λb o e=>qU _ e,Rp _ lo (hi-lo).toNat,?_,λb hb=>?_,q⟩
 .have e1:lo+((0:Nat):Int)*1=lo:=by simp
  have e2:(((hi-lo).toNat:Nat):Int)-((0:Nat):Int)=Builtin.Range.rangeSize lo hi 1:=by rw[rangeSize_one];split<;>lia
  show IsRangeIter _ _ (lo+((0:Nat):Int)*1) ((((hi-lo).toNat:Nat):Int)-((0:Nat):Int)) 1
  rw[e1,e2]
  exact qk _ rfl
 .have e:b=(s.heap.push {cls:=.type "range",data:=.fields #[.int lo t,.int hi u,.int 1 v]}).objs.size:=by simpa using hb
  subst e
  exact I1.ZZ (qg _) (I1.hok.fresh (qg _))
noncomputable def kW(ta:TA):TI:=λσ H R=>ta σ H λvs H1=>∃j:Int,vs=[.int j]/\ -(2^62)<=j/\j<2^62/\R (Itr 0 j.toNat) H1
theorem Ud{a:rJ}{ta:TA}{p pos:Pos}(hg:Gl X "range")(hm:X.mg "range"=none)(ha:PA X [a] ta)(hs:rB [a] X.env=[(false,eval a X.env)]:=by rfl):PI X tg (.Call (.Name "range" p) [a] [] pos) (kW ta):=by
 intro pins s σ H R I h
 refine Call_ (Ic I hg hm boot_range (uu (thn (ha pos pins s σ H _ I h) λus s1 ⟨vs,H1,I1,r1,q1⟩=>?_) hs rfl))
 obtain⟨j,e,q1,q2,q⟩:=q1
 subst e
 cases r1 with
 |cons r rr=>
  cases rr
  obtain⟨t,rfl⟩:=r
  exact call_range_1 (WH I1 (by lia) (by lia) q1 q2 (by simpa using q))
noncomputable def nU(wi:TI)(g:TG)(tb:TS):TS:=λD σ H=>wi σ H λJ H1=>∃W:Nat->Nat->St->Hp->Prop,(∃m,W 0 m σ H1)/\∀i m σ H,W i m σ H->
 (J.stop i H/\D.nx σ H)\/(J.go i H/\∃N:St->Hp->Prop,(∀σ' H',N σ' H'->∃m',m'<m/\W (i+1) m' σ' H')/\∀x H',J.yld i H x H'->g x σ H' λσ2 H2=>tb {D with nx:=N,ct:=N,bk:=D.nx} σ2 H2)
noncomputable def OO(fp:Wp qb)(h:rT):Wp (qb×Obj):=fp.filterMap λb=>(h.get? b).map λo=>(b,o)
theorem Hj{fp:Wp qb}{h:rT}{b:qb}{o:Obj}(hb:b∈fp)(e:h.get? b=Gc o):(b,o)∈OO fp h:=AAN.mpr ⟨b,hb,by rw[e];rfl⟩
theorem Vv{fp:Wp qb}{h:rT}{p:qb×Obj}(hp:p∈OO fp h):p.1∈fp/\h.get? p.1=Gc p.2:=by
 obtain⟨b,hb,e⟩:=AAN.mp hp
 cases q:h.get? b with
 |none=>rw[q]at e;cases e
 |some o=>
  rw[q]at e
  have e':(b,o)=p:=sL e
  subst e'
  exact⟨hb,q⟩
theorem Inv.pinned{pins:Wp (qb×Obj)}{σ:St}{H:Hp}{s:qX}{fp:Wp qb}(I:Inv X pins σ H s)(hf:∀b∈fp,QW X pins H b)(ho:∀b∈fp,∃o,s.heap.get? b=Gc o/\∀v,o.data≠.cell v):Inv X (pins++OO fp s.heap) σ H s:=
 I.Uo λp hp=>(rC.mp hp).elim (λz=>I.pin p (sJ _ z)) λz=>by
  obtain⟨hb,e⟩:=Vv z
  obtain⟨f0,f1,f2,_⟩:=hf p.1 hb
  obtain⟨o,e',d⟩:=ho p.1 hb
  rw[e]at e';cases e'
  exact⟨e,f0,f1,f2,d⟩
theorem Inv.KS{pins pl:Wp (qb×Obj)}{σ:St}{H:Hp}{s:qX}(I:Inv X (pins++pl) σ H s):Inv X pins σ H s:=I.Uo λp hp=>I.pin p (sJ _ (xU _ hp))
theorem eO{iter:rJ}{body:Wp sG}{wi:TI}{g:TG}{tb:TS}{pos:Pos}(hp:PassesOwn (model X.prog X.w) X.A X.env X.xe)(hc:X.calm=true)(hi:PI X tg iter wi)(hg:PG X tg g)(hb:PSs X body tb)(hs:∀x,foldedSetIterable iter X.env x=pure x:=by intro _;rfl):PS X (.For tg iter body [] pos) (nU wi g tb):=by
 intro pins s σ H D I h
 refine wpAny_For (thn (hi pins s σ H _ I h) λv s1 h1=>thn h1 λitv s2 h2=>?_) hs
 obtain⟨it,fp,tn,J,H2,e,I2,T,st2,f2,W,⟨m0,w0⟩,turn⟩:=h2
 subst e
 have stat:∀{H':Hp},(∀b∈fp,H' b=none)->∀b∈fp,QW X pins H' b:=λhn b hb=>⟨hn b hb,(f2 b hb).2⟩
 refine codeAny_forLoop_any (λn s'=>∃i σ' H',Inv X pins σ' H' s'/\tn i s'.heap/\(∀b∈fp,H' b=none)/\W i n σ' H') ?_ m0 ⟨0,σ,H2,I2,st2,λb hb=>(f2 b hb).1,w0⟩
 rintro n s3 ⟨i,σ3,H3,I3,st3,fr3,w3⟩
 rcases turn i n σ3 H3 w3 with⟨stop,qn⟩|⟨go,N,hN,step⟩
 .refine vI hp (thn (T.done X rfl rfl rfl hc i pins s3 σ3 H3 X.xe I3 (stat fr3) st3 stop) λr s4 ⟨hr,I4⟩=>?_)
  subst hr
  exact wV ⟨σ3,H3,I4,qn⟩
 .refine vI hp (thn (T.item X rfl rfl rfl hc i pins s3 σ3 H3 X.xe I3 (stat fr3) st3 go) λr s4 ⟨u,hr,h4⟩=>?_)
  subst hr
  refine vI hp (thn h4 λ_ s5 ⟨x,H5,I5,r5,y5,st5,fr5⟩=>?_)
  have I5':=I5.pinned (stat fr5) (T.obj _ _ st5)
  refine vI hp (thn (hg _ s5 σ3 H5 x u _ I5' r5 (step x H5 y5)) λ_ s6 ⟨σ6,H6,I6,q6⟩=>?_)
  refine vI hp (thn (hb _ s6 σ6 H6 _ I6 q6) λf s7 q7=>?_)
  have again:∀{σ7:St} {H7:Hp},Inv X (pins++OO fp s5.heap) σ7 H7 s7->N σ7 H7->∃m,m<n/\∃i σ' H',Inv X pins σ' H' s7/\tn i s7.heap/\(∀b∈fp,H' b=none)/\W i m σ' H':=λ{σ7 H7} I7 n7=>by
   obtain⟨m',hm,w7⟩:=hN σ7 H7 n7
   refine⟨m',hm,i+1,σ7,H7,I7.KS,T.keep _ _ _ st5 λb hb o e=>(I7.pin (b,o) (sJ _ (sJ _ (Hj hb e)))).1,λb hb=>?_,w7⟩
   obtain⟨o,e,d⟩:=T.obj _ _ st5 b hb
   exact(I7.pin (b,o) (sJ _ (sJ _ (Hj hb e)))).2.1
  cases f with
  |next=>obtain⟨σ7,H7,I7,n7⟩:=q7;exact again I7 n7
  |cont=>obtain⟨σ7,H7,I7,n7⟩:=q7;exact again I7 n7
  |brk=>obtain⟨σ7,H7,I7,q7⟩:=q7;exact⟨σ7,H7,I7.KS,q7⟩
  |ret v=>obtain⟨x7,σ7,H7,I7,r7,q7⟩:=q7;exact⟨x7,σ7,H7,I7.KS,r7,q7⟩
end
end L2
namespace L2
open PySem PySem.Spec PyProof.Rows
abbrev R2:=V->V->Hp->VK->Prop
def OpR(X:Cx)(f:qT->qT->Sem qT)(r:R2):Prop:=
 ∀(pins:Wp (qb×Obj)) (s:qX) (σ:St) (H:Hp) (x y:V) (v u:qT) (Q:VK),Inv X pins σ H s->RelV x v->RelV y u->r x y H Q->
  wpAny (model X.prog X.w) X.A (f v u) (EP X pins σ Q) X.xe s
def UnR(X:Cx)(f:qT->Sem qT)(r:V->Hp->VK->Prop):Prop:=
 ∀(pins:Wp (qb×Obj)) (s:qX) (σ:St) (H:Hp) (x:V) (v:qT) (Q:VK),Inv X pins σ H s->RelV x v->r x H Q->
  wpAny (model X.prog X.w) X.A (f v) (EP X pins σ Q) X.xe s
def Cj(X:Cx)(f:qT)(r:Wp V->Hp->VK->Prop):Prop:=
 ∀(pins:Wp (qb×Obj)) (s:qX) (σ:St) (H:Hp) (xs:Wp V) (us:Wp qT) (Q:VK),Inv X pins σ H s->Vals xs us->r xs H Q->
  wpAny (model X.prog X.w) X.A (call f us) (EP X pins σ Q) X.xe s
noncomputable def tOp(r:R2)(ta tb:TE):TE:=λσ H Q=>ta σ H λx H1=>tb σ H1 λy H2=>r x y H2 Q
noncomputable def tUn(r:V->Hp->VK->Prop)(ta:TE):TE:=λσ H Q=>ta σ H λx H1=>r x H1 Q
noncomputable def rI(C:Int->Int->Prop)(g:Int->Int->V):R2:=λx y H Q=>∃i j,x=.int i/\y=.int j/\C i j/\Q (g i j) H
noncomputable def rI0(g:Int->Int->V):R2:=λx y H Q=>∃i j,x=.int i/\y=.int j/\Q (g i j) H
def rU(g:Int->V):V->Hp->VK->Prop:=λx H Q=>∃i,x=.int i/\Q (g i) H
section
variable{X:Cx}{a b c:rJ}{ta tb tc:TE}{pos:Pos}
theorem k8(ha:PE X a ta)(hb:PE X b tb){pins:Wp (qb×Obj)}{s:qX}{σ:St}{H:Hp}{R:V->V->Hp->Prop}(I:Inv X pins σ H s)(h:ta σ H λx H1=>tb σ H1 λy H2=>R x y H2){Q:qT->qX->Prop}{f:qT->qT->Sem qT}(hf:∀v u s2 x y H2,Inv X pins σ H2 s2->RelV x v->RelV y u->R x y H2->wpAny (model X.prog X.w) X.A (f v u) Q X.xe s2):wpAny (model X.prog X.w) X.A (eval a X.env) (λv s₁=>wpAny (model X.prog X.w) X.A (eval b X.env) (λu s₂=>wpAny (model X.prog X.w) X.A (f v u) Q X.xe s₂) X.xe s₁) X.xe s:=by
 refine thn (ha pins s σ H _ I h) λv s1 ⟨x,H1,I1,r1,q1⟩=>?_
 refine thn (hb pins s1 σ H1 _ I1 q1) λu s2 ⟨y,H2,I2,r2,q2⟩=>?_
 exact hf v u s2 x y H2 I2 r1 r2 q2
theorem lE{op:Operator}{r:R2}(ho:OpR X (binaryOp op) r)(ha:PE X a ta)(hb:PE X b tb):PE X (.BinOp a op b pos) (tOp r ta tb):=by
 intro pins s σ H Q I h
 exact wpAny_BinOp (k8 ha hb I h λv u s2 x y H2 I2 rx ry q=>ho pins s2 σ H2 x y v u Q I2 rx ry q)
theorem kx{op:UnaryOp}{r:V->Hp->VK->Prop}(ho:UnR X (unaryOp op) r)(ha:PE X a ta):PE X (.UnaryOp op a pos) (tUn r ta):=by
 intro pins s σ H Q I h
 exact UnaryOp_ (thn (ha pins s σ H _ I h) λv s1 ⟨x,H1,I1,r1,q1⟩=>ho pins s1 σ H1 x v Q I1 r1 q1)
theorem opI{f:qT->qT->Sem qT}{C:Int->Int->Prop}{g:Int->Int->Int}(rule:∀(i j:Int) (t u:Tok) (s:qX) (Q:qT->qX->Prop) (E:qT->qX->Prop),C i j->Q (.int (g i j) s.toks) {s with toks:=s.toks+1}->wpAny (model X.prog X.w) X.A (f (.int i t) (.int j u)) Q E s):OpR X f (rI C λi j=>.int (g i j)):=by
 intro pins s σ H x y v u Q I rx ry h
 obtain⟨i,j,rfl,rfl,hc,q⟩:=h
 obtain⟨t,rfl⟩:=rx
 obtain⟨t',rfl⟩:=ry
 exact rule i j t t' s _ _ hc ⟨.int (g i j),H,I.tok _,⟨_,rfl⟩,q⟩
theorem mL{f:qT->qT->Sem qT}{g:Int->Int->Int}(rule:∀(i j:Int) (t u:Tok) (s:qX) (Q:qT->qX->Prop) (E:qT->qX->Prop),Q (.int (g i j) s.toks) {s with toks:=s.toks+1}->wpAny (model X.prog X.w) X.A (f (.int i t) (.int j u)) Q E s):OpR X f (rI0 λi j=>.int (g i j)):=by
 intro pins s σ H x y v u Q I rx ry h
 obtain⟨i,j,rfl,rfl,q⟩:=h
 obtain⟨t,rfl⟩:=rx
 obtain⟨t',rfl⟩:=ry
 exact rule i j t t' s _ _ ⟨.int (g i j),H,I.tok _,⟨_,rfl⟩,q⟩
theorem ip{f:qT->qT->Sem qT}{g:Int->Int->rR}(rule:∀(i j:Int) (t u:Tok) (s:qX) (Q:qT->qX->Prop) (E:qT->qX->Prop),Q (.bool (g i j)) s->wpAny (model X.prog X.w) X.A (f (.int i t) (.int j u)) Q E s):OpR X f (rI0 λi j=>.bl (g i j)):=by
 intro pins s σ H x y v u Q I rx ry h
 obtain⟨i,j,rfl,rfl,q⟩:=h
 obtain⟨t,rfl⟩:=rx
 obtain⟨t',rfl⟩:=ry
 exact rule i j t t' s _ _ ⟨.bl (g i j),H,I,rfl,q⟩
def oA(i j:Int):Prop:=0<=j/\j<=1000000/\i.natAbs<2^64
def jj(i j:Int):Prop:=(-(2^64)<i/\i<2^64)\/(-(2^64)<j/\j<2^64)
theorem jj.ok{i j:Int}(h:jj i j):IntMulOk i j:=by
 rcases h with⟨h1,h2⟩|⟨h1,h2⟩
 .exact .of_left (intBits_le_64 h1 h2)
 .exact .of_right (intBits_le_64 h1 h2)
theorem cQ:OpR X (binaryOp .Add) (rI0 λi j=>.int (i+j)):=mL λ_ _ _ _ _ _ _ q=>add_int q
theorem bW:OpR X (binaryOp .Sub) (rI0 λi j=>.int (i-j)):=mL λ_ _ _ _ _ _ _ q=>sub_int q
theorem Yd:OpR X (binaryOp .Mult) (rI jj λi j=>.int (i*j)):=opI λ_ _ _ _ _ _ _ hc q=>mul_int q hc.ok
theorem fE:OpR X (binaryOp .Mod) (rI (λ_ j=>0<j) λi j=>.int (i % j)):=opI λi j _ _ _ _ _ hc q=>by
 have h1:(0:Int)<j:=hc
 exact mod_int' (by lia) (by rw[Int.fmod_eq_emod_of_nonneg i (by lia)];exact q)
theorem fJ:OpR X (binaryOp .Pow) (rI oA λi j=>.int (i^j.toNat)):=opI λ_ _ _ _ _ _ _ hc q=>pow_int_small hc.1 hc.2.1 hc.2.2 q
theorem unI{f:qT->Sem qT}{g:Int->Int}(rule:∀(i:Int) (t:Tok) (s:qX) (Q:qT->qX->Prop) (E:qT->qX->Prop),Q (.int (g i) s.toks) {s with toks:=s.toks+1}->wpAny (model X.prog X.w) X.A (f (.int i t)) Q E s):UnR X f (rU λi=>.int (g i)):=by
 intro pins s σ H x v Q I rx h
 obtain⟨i,rfl,q⟩:=h
 obtain⟨t,rfl⟩:=rx
 exact rule i t s _ _ ⟨.int (g i),H,I.tok _,⟨_,rfl⟩,q⟩
theorem cR:UnR X (unaryOp .USub) (rU λi=>.int (-i)):=unI λ_ _ _ _ _ q=>neg_int q
end
section
variable{X:Cx}{a b c:rJ}{ta tb tc:TE}{pos:Pos}
theorem fH{pins:Wp (qb×Obj)}{σ:St}{H:Hp}{s:qX}{Q:VK}{k k':rR}(I:Inv X pins σ H s)(q:Q (.bl k) H)(e:k=k'):EP X pins σ Q (.bool k') s:=by
 subst e
 exact⟨.bl k,H,I,rfl,q⟩
theorem jf:OpR X (compareOp .Lt) (rI0 λi j=>.bl (decide (i<j))):=ip λ_ _ _ _ _ _ _ q=>lt_int q
theorem kZ:OpR X (compareOp .LtE) (rI0 λi j=>.bl (decide (i<=j))):=ip λ_ _ _ _ _ _ _ q=>le_int q
theorem kL:OpR X (compareOp .Gt) (rI0 λi j=>.bl (decide (j<i))):=ip λ_ _ _ _ _ _ _ q=>gt_int q
theorem jk:OpR X (compareOp .GtE) (rI0 λi j=>.bl (decide (j<=i))):=ip λ_ _ _ _ _ _ _ q=>ge_int q
theorem Y0:OpR X (compareOp .IsNot) (λx y H Q=>y=.non/\Q (.bl (!decide (x=.non))) H):=by
 intro pins s σ H x y v u Q I rx ry h
 obtain⟨rfl,q⟩:=h
 cases ry
 refine isnot_none_gen (fH I q ?_)
 cases x<;>first
  |(cases rx;rfl)
  |(obtain⟨t,rfl⟩:=rx;rfl)
theorem ZW{op:CmpOp}{r:R2}(ho:OpR X (compareOp op) r)(ha:PE X a ta)(hb:PE X b tb)(hm:behindInMarks op b=false):PE X (.Compare a [op] [b] pos) (tOp r ta tb):=by
 intro pins s σ H Q I h
 exact wpAny_Compare1 (k8 ha hb I h λv u s2 x y H2 I2 rx ry q=>ho pins s2 σ H2 x y v u Q I2 rx ry q) hm
noncomputable def cU(t:TE):TT:=λσ H Q=>t σ H λx H'=>∃k,x=.bl k/\Q k H'
theorem bA{op:CmpOp}{r:R2}(ho:OpR X (compareOp op) r)(ha:PE X a ta)(hb:PE X b tb)(hm:behindInMarks op b=false):PT X (.Compare a [op] [b] pos) (cU (tOp r ta tb)):=by
 intro pins s σ H Q I h
 refine zV (thn (ha pins s σ H _ I h) λv s1 ⟨x,H1,I1,r1,q1⟩=>thn (hb pins s1 σ H1 _ I1 q1) λu s2 ⟨y,H2,I2,r2,q2⟩=>
  thn (ho pins s2 σ H2 x y v u _ I2 r1 r2 q2) λc s3 ⟨z,H3,I3,r3,k,e,q3⟩=>?_) hm
 subst e
 cases r3
 exact ug ⟨H3,I3,q3⟩
theorem N4:(sizeLine:Nat)<2^63:=by rw[sizeLine_eq];decide
theorem R9:OpR X (binaryOp .Add) (λx y H Q=>∃i j,x=.str i/\y=.str j/\i.length+j.length<=sizeLine/\Q (.str (i++j)) H):=by
 intro pins s σ H x y v u Q I rx ry h
 obtain⟨i,j,rfl,rfl,hz,q⟩:=h
 obtain⟨t,rfl⟩:=rx
 obtain⟨t',rfl⟩:=ry
 exact add_str (λt' tk=>⟨.str (i++j),H,I.tok _,⟨_,rfl⟩,q⟩) hz
theorem vals1{x:V}{us:Wp qT}(r:Vals [x] us):∃u,us=[u]/\RelV x u:=by
 cases r with
 |cons r1 r2=>cases r2;exact⟨_,rfl,r1⟩
theorem vals2{x y:V}{us:Wp qT}(r:Vals [x,y] us):∃u w',us=[u,w']/\RelV x u/\RelV y w':=by
 cases r with
 |cons r1 r2=>
  cases r2 with
  |cons r3 r4=>cases r4;exact⟨_,_,rfl,r1,r3⟩
theorem XF:Cj X (.builtin "abs") (λxs H Q=>∃i,xs=[.int i]/\Q (.int (if i<0 then-i else i)) H):=by
 intro pins s σ H xs us Q I r h
 obtain⟨i,rfl,q⟩:=h
 obtain⟨u,rfl,t,rfl⟩:=vals1 r
 exact call_abs_int λu tk=>⟨.int (if i<0 then-i else i),H,I.tok _,⟨_,rfl⟩,q⟩
theorem Uy(hc:X.calm=true):Cj X (.builtin "max") (λxs H Q=>∃i j,xs=[.int i,.int j]/\Q (.int (if j>i then j else i)) H):=by
 intro pins s σ H xs us Q I r h
 obtain⟨i,j,rfl,q⟩:=h
 obtain⟨u,w',rfl,⟨t,rfl⟩,⟨t',rfl⟩⟩:=vals2 r
 refine max_two_ints (I.ok.hd hc) λh' tk k=>⟨_,H,I.kept k,?_,q⟩
 by_cases hj:j>i
 .rw[q9 hj,q9 hj];exact⟨_,rfl⟩
 .rw[rA hj,rA hj];exact⟨_,rfl⟩
theorem UT(hc:X.calm=true):Cj X (.builtin "min") (λxs H Q=>∃i j,xs=[.int i,.int j]/\Q (.int (if j<i then j else i)) H):=by
 intro pins s σ H xs us Q I r h
 obtain⟨i,j,rfl,q⟩:=h
 obtain⟨u,w',rfl,⟨t,rfl⟩,⟨t',rfl⟩⟩:=vals2 r
 refine min_two_ints (I.ok.hd hc) λh' tk k=>⟨_,H,I.kept k,?_,q⟩
 by_cases hj:j<i
 .rw[q9 hj,q9 hj];exact⟨_,rfl⟩
 .rw[rA hj,rA hj];exact⟨_,rfl⟩
theorem O5:Cj X (.type "int") (λxs H Q=>(∃i,xs=[.int i]/\Q (.int i) H)\/∃k,xs=[.bl k]/\Q (.int (if k then 1 else 0)) H):=by
 intro pins s σ H xs us Q I r h
 rcases h with⟨i,rfl,q⟩|⟨k,rfl,q⟩
 .obtain⟨u,rfl,t,rfl⟩:=vals1 r
  exact call_int_int ⟨.int i,H,I,⟨_,rfl⟩,q⟩
 .obtain⟨u,rfl,r1⟩:=vals1 r
  cases r1
  exact call_int_bool ⟨.int (if k then 1 else 0),H,I.tok _,⟨_,rfl⟩,q⟩
end
end L2
namespace L2
open PySem PySem.Spec PyProof.Rows
structure ja(h:rT)(x dx C:qb)(mA:Str->qY qT):Prop where
 obj:h.get? x=Gc (zO C dx)
 ns:h.Ns1 dx mA
 ne:dx≠x
theorem Uz{h:rT}{dx:qb}{mA:Str->qY qT}(n:h.Ns1 dx mA):∃od,h.get? dx=Gc od/\∀name,zf name od=Gc (mA name):=by
 obtain⟨o,es,ep,ho,hd,hk,_,hm⟩:=n
 refine⟨o,ho,λname=>?_⟩
 have e:=hm name
 unfold nsFind findBy at e
 rw[<-Array.find?_toList]at e
 unfold zf
 rw[hd]
 dsimp only
 split
 .rename_i y q
  rw[q]at e
  exact congrArg Gc e
 .rename_i q
  rw[q]at e
  have a:es.toList.any (·.refKey)=false:=by
   rw[List.any_eq_false]
   intro y hy
   obtain⟨z,t,hkey⟩:=hk y (Array.mem_toList_iff.mp hy)
   simp[DictEntry.refKey,hkey]
  have a':¬es.toList.any (·.refKey)=true:=by rw[a];exact sC
  rw[rA a']
  exact congrArg Gc e
theorem ja.look{h:rT}{x dx C:qb}{mA:Str->qY qT}(I:ja h x dx C mA):∃od,PySem.W.InstAt h x (zO C dx) C (Gc od)/\∀name,zf name od=Gc (mA name):=
 let⟨od,ho,hl⟩:=Uz I.ns
 ⟨od,⟨I.obj,rfl,rfl,ho⟩,hl⟩
section
variable{prog:rF}{w:rX}{A:rS}{E:qT->qX->Prop}{s:qX}{K:qS}{x dx C f:qb}{mA:Str->qY qT}{name:Str}{v:qT}
end
section
variable{P:rF}{w:rX}{H H':Hp}{h h':rT}{a C dx:qb}{fs fs':Wp (Str×V)}
theorem Zx(hok:HOk P w H h)(e:H a=Gc (.ins C dx fs)):∃mA,ja h a dx C mA/\(∀f,V6 (fs.lookup f) (mA f))/\PySem.Within mA (fs.map (·.1))/\fs.length<=1000/\H dx=Gc (.own a):=by
 obtain⟨d,z,ne,ob,mA,n,r,q⟩:=(show Cv P w H h a (.ins C dx fs)from hok a _ e)
 exact⟨mA,⟨ob,n,ne⟩,r,q,z,d⟩
end
structure Cls(K:qS)(C:qb):Prop where
 pg:PySem.W.plainGet K C Str.empty=true
 hd:PySem.W.hasDictIn K C=true
 po:PySem.W.plainOver K C=true
 sa:wq K (.ref C) "__setattr__"=Gc (Gc (.builtin "object.__setattr__"))
theorem Cls.get{K:qS}{C:qb}(c:Cls K C)(f:Str):PySem.W.plainGet K C f=true:=c.pg
structure Con(K:qS)(C:qb)(f:Str)(v:V)(u:qT):Prop where
 at_:wq K (.ref C) f=Gc (Gc u)
 rel:RelV v u
 get:PySem.W.specialIn K u "__get__"=Gc none
 cp:PySem.W.copiedNames.contains f=false
structure Meth(K:qS)(C:qb)(m:Str)(f:qb):Prop where
 at_:wq K (.ref C) m=Gc (Gc (.ref f))
 fn:PySem.W.isFn K (.ref f)=true
 kp:ue K (.ref f)=true
section
variable{X:Cx}{pins:Wp (qb×Obj)}{σ:St}{H:Hp}{s:qX}{a C dx:qb}{fs:Wp (Str×V)}{f:Str}{v:V}{A:rS}{E:qT->qX->Prop}
end
section
variable{X:Cx}{o e value:rJ}{f:Str}{pos pos' tpos:Pos}{ta tv:TE}
end
section
variable{X:Cx}{pins:Wp (qb×Obj)}{σ:St}{H:Hp}{s:qX}{A:rS}{E:qT->qX->Prop}{Q:qT->qX->Prop}{c:qT}{b:rR}
inductive Ss(K:qS)(H:Hp):V->qT->Prop where
 |non:Ss K H .non (.type "NoneType")
 |bl (x:rR):Ss K H (.bl x) (.type "bool")
 |int (i:Int):Ss K H (.int i) (.type "int")
 |str (x:Str):Ss K H (.str x) (.type "str")
 |flt (x:UInt64):Ss K H (.flt x) (.type "float")
 |lst {a:qb} {xs:Wp V} (e:H a=Gc (.lst xs)):Ss K H (.ref a) (.type "list")
 |frz {a:qb} {o:Obj} {xs:Wp V} (e:H a=Gc (.frz o (.lst xs))):Ss K H (.ref a) (.type "list")
 |tup {a:qb} {xs:Wp V} (e:H a=Gc (.tup xs)):Ss K H (.ref a) (.type "tuple")
 |dK {a:qb} {kvs:Wp (Key×V)} (e:H a=Gc (.dK kvs)):Ss K H (.ref a) (.type "dict")
 |dT {a:qb} {kvs:Wp (Wp Key×V)} (e:H a=Gc (.dT kvs)):Ss K H (.ref a) (.type "dict")
 |ins {a C dx:qb} {fs:Wp (Str×V)} (e:H a=Gc (.ins C dx fs)) (cl:Cls K C) (ha:wq K (.ref C) "__class__"=Gc (Gc (.builtin "object.__class__")))
   (hn:PySem.W.specialIn K (.builtin "object.__class__") "__get__"=Gc (Gc (.builtin "getset_descriptor.__get__"))) (htk:PySem.W.takesIn K (.builtin "object.__class__")=Gc true)
   (hm:PySem.W.mroIn K C (.type "object")=Gc true):Ss K H (.ref a) (.ref C)
theorem Er{x:V}{u t:qT}(I:Inv X pins σ H s)(rx:RelV x u)(ty:Ss X.K H x t)(e:vB X.K t c=Gc b)(h:∀tk,Q (.bool b) {s with toks:=tk}):wpAny (model X.prog X.w) A (call (.builtin "isinstance") [u,c]) Q E s:=by
 cases ty with
 |non=>cases (show u=rf from rx);exact tQ PySem.W.kitx_none I.kIn vS e (λz=>nomatch z) h
 |bl y=>cases (show u=xv y from rx);exact tQ PySem.W.kitx_bool I.kIn vS e (λz=>nomatch z) h
 |int i=>obtain⟨t,q⟩:=(show∃t,u=xJ i t from rx);cases q;exact tQ PySem.W.kitx_int I.kIn vS e (λz=>nomatch z) h
 |str y=>obtain⟨t,q⟩:=(show∃t,u=yn y t from rx);cases q;exact tQ PySem.W.kitx_str I.kIn vS e (λz=>nomatch z) h
 |flt y=>obtain⟨t,q⟩:=(show∃t,u=Value.float y t from rx);cases q;exact tQ PySem.W.kitx_float I.kIn vS e (λz=>nomatch z) h
 | @lst a xs ea=>
   cases (show u=rY a from rx)
   obtain⟨_,_,n,_,h1⟩:=(show Cv X.prog X.w H s.heap a (.lst xs)from I.hok a _ ea)
   exact tQ PySem.W.kitx_list I.kIn ⟨_,h1,rfl⟩ e (λz=>nomatch z) h
 | @frz a ob xs ea=>
   cases (show u=rY a from rx)
   obtain⟨_,_,_,n,_,h1⟩:=(show Cv X.prog X.w H s.heap a (.frz ob (.lst xs))from I.hok a _ ea)
   exact tQ PySem.W.kitx_list I.kIn ⟨_,h1,rfl⟩ e (λz=>nomatch z) h
 | @tup a xs ea=>
   cases (show u=rY a from rx)
   obtain⟨_,_,_,p⟩:=(show Cv X.prog X.w H s.heap a (.tup xs)from I.hok a _ ea)
   obtain⟨o,h1,h2,_⟩:=p
   exact tQ AAO I.kIn ⟨o,h1,h2⟩ e (λz=>nomatch z) h
 | @dK a kvs ea=>
   cases (show u=rY a from rx)
   obtain⟨_,_,vs,_,p⟩:=(show Cv X.prog X.w H s.heap a (.dK kvs)from I.hok a _ ea)
   obtain⟨o,es,ep,h1,h2,_⟩:=p
   exact tQ PySem.W.kitx_dict I.kIn ⟨o,h1,h2.1⟩ e (λz=>nomatch z) h
 | @dT a kvs ea=>
   cases (show u=rY a from rx)
   obtain⟨_,_,xs,_,o,es,ep,h1,h2,_⟩:=(show Cv X.prog X.w H s.heap a (.dT kvs)from I.hok a _ ea)
   exact tQ PySem.W.kitx_dict I.kIn ⟨o,h1,h2.1⟩ e (λz=>nomatch z) h
 | @ins a C dx fs ea cl ha hn htk hm=>
   cases (show u=rY a from rx)
   obtain⟨mA,O,_⟩:=Zx I.hok ea
   obtain⟨od,J,_⟩:=O.look
   exact tQ (PySem.W.kitx_own (cl.get _) cl.hd ha hn htk hm) I.kIn J e (λz=>nomatch z) h
end
end L2
namespace L2
open PySem PySem.Spec PyProof.Rows
structure JE(k:Nat)(A:rS):Prop where
 hd:A.handled=none
 dp:A.depth+3*k+5<recursionLimit
 un:A.units+16*k+200<cLine
theorem JE.mono{j k:Nat}{A:rS}(r:JE k A)(h:j<=k):JE j A:=⟨r.hd,by have:=r.dp;lia,by have:=r.un;lia⟩
theorem JE.deeper{k:Nat}{A:rS}(r:JE (k+1) A)(env:Env):JE k (A.deeper env):=
 ⟨r.hd,by have:=r.dp;show A.depth+1+3*k+5<_;lia,by have:=r.un;show A.units+3+16*k+200<_;lia⟩
theorem JE.depth{k:Nat}{A:rS}(r:JE k A):A.depth<recursionLimit:=by have:=r.dp;lia
noncomputable def lx:TA:=λ_ H Q=>Q [] H
noncomputable def fO(ta:TE)(tr:TA):TA:=λσ H Q=>ta σ H λx H1=>tr σ H1 λxs H2=>Q (x::xs) H2
section
variable{X:Cx}{e:rJ}{es:Wp rJ}{te:TE}{t:TA}{pos:Pos}
theorem VB:PA X [] lx:=λ_ _ _ _ H Q I h=>xo ⟨[],H,I,.nil,h⟩
theorem Mq(ha:PE X e te)(hr:PA X es t)(hs:rB (e::es) X.env=(false,eval e X.env)::rB es X.env:=by rfl):PA X (e::es) (fO te t):=by
 intro pos pins s σ H Q I h
 rw[hs]
 show wpAny _ _ (spliced ((false,eval e X.env)::backTo pos (rB es X.env))) _ _ s
 refine wG (thn (ha pins s σ H _ I h) λu s1 ⟨x,H1,I1,r1,q1⟩=>?_)
 exact thn (hr pos pins s1 σ H1 _ I1 q1) λus s2 ⟨xs,H2,I2,r2,q2⟩=>⟨x::xs,H2,I2,.cons r1 r2,q2⟩
noncomputable def oI(t:TA):TE:=λσ H Q=>t σ H λxs H1=>xs.length<=sizeLine/\∀p,H1 p=none->Q (.ref p) (upd H1 p (.tup xs))
noncomputable def pD(t:TA):TE:=λσ H Q=>t σ H λxs H1=>xs.length<=sizeLine/\∀p,H1 p=none->Q (.ref p) (upd H1 p (.lst xs))
theorem b9{x1}(h:PA X es t):PE X (.Tuple es x1 pos) (oI t):=by
 intro pins s σ H Q I hq
 refine wpAny_Tuple_spliced (thn (h pos pins s σ H _ I hq) λus s1 ⟨xs,H1,I1,r,z,q⟩=>⟨by rw[<-r.length];exact z,?_⟩)
 have hf:H1 s1.heap.objs.size=none:=I1.hok.fresh (qg _)
 refine⟨.ref s1.heap.objs.size,upd H1 s1.heap.objs.size (.tup xs),I1.laid (t':=s1.toks) (λb u e=>qU _ e) (qg _) ?_,rfl,q _ hf⟩
 exact⟨z,us,r,⟨_,qk _ rfl,rfl,_,rfl⟩⟩
theorem eU(h:PA X es t):PE X (.List es pos) (pD t):=by
 intro pins s σ H Q I hq
 refine wpAny_List_spliced (thn (h pos pins s σ H _ I hq) λus s1 ⟨xs,H1,I1,r,z,q⟩=>⟨by rw[<-r.length];exact z,?_⟩)
 have hf:H1 s1.heap.objs.size=none:=I1.hok.fresh (qg _)
 refine⟨.ref s1.heap.objs.size,upd H1 s1.heap.objs.size (.lst xs),I1.laid (t':=s1.toks) (λb u e=>qU _ e) (qg _) ?_,rfl,q _ hf⟩
 exact⟨z,us,0,r,qk _ rfl⟩
end
abbrev Sp:=Wp V->Hp->VK->XK->Prop
abbrev CXT:=Wp Env->Hp->qX->XK->qT->qX->Prop
structure iz(P:rF)(w:rX)(K:qS)(mg:Str->qY qT)(base:rT)(A:rS)(outer:Wp Env)(s:qX)(H:Hp):Prop where
 frames:A.frames=Gc outer
 mod:Mod K mg base
 bs:∀b o,base.get? b=Gc o->s.heap.get? b=Gc o/\H b=none
 bsz:base.objs.size<=s.heap.objs.size
 SF:s.heap.FunFrames base outer
 frf:∀b∈frs outer,H b=none
 hok:HOk P w H s.heap
 bare:wc s.gens
def CE(outer:Wp Env)(P:rF)(w:rX)(H:Hp)(s:qX)(Q:VK)(u:qT)(s':qX):Prop:=
 ∃v H',s'.os=s.os/\wc s'.gens/\Un (frs outer) [] H H' s.heap s'.heap/\HOk P w H' s'.heap/\RelV v u/\Q v H'
def CR(CX:CXT)(outer:Wp Env)(P:rF)(w:rX)(H:Hp)(s:qX)(Q:VK)(E:XK)(r:Result)(s':qX):Prop:=
 match r with
 | .ok (.ret u)=>CE outer P w H s Q u s'
 | .ok _=>uP
 | .error e=>CX outer H s E e s'
structure Nd(P:rF)(w:rX)(K:qS)(mg:Str->qY qT)(base:rT)(CX:CXT)(k:Nat)(f:qb)(fd:uU)(ps:Wp Str)(sp:Sp):Prop where
 len:∀vs H Q E,sp vs H Q E->vs.length=ps.length
 run:∀(A:rS) (outer:Wp Env) (s:qX) (H:Hp) (args:Args) (us:Wp qT) (vs:Wp V) (Q:VK) (E:XK),JE k A->iz P w K mg base A outer s H->BindsTo s fd args (ps.zip us)->Vals vs us->sp vs H Q E->
  codeAny (model P w) A (.call (.ref f) args) (CR CX outer P w H s Q E) s
theorem Nd.imp{P:rF}{w:rX}{K:qS}{mg:Str->qY qT}{base:rT}{CX:CXT}{k:Nat}{f:qb}{fd:uU}{ps:Wp Str}{sp sp':Sp}(F:Nd P w K mg base CX k f fd ps sp)(h:∀vs H Q E,sp' vs H Q E->sp vs H Q E):Nd P w K mg base CX k f fd ps sp':=
 ⟨λvs H Q E q=>F.len vs H Q E (h _ _ _ _ q),λA outer s H args us vs Q E hr he hb hv hs=>F.run A outer s H args us vs Q E hr he hb hv (h _ _ _ _ hs)⟩
section
variable{X:Cx}{pins:Wp (qb×Obj)}{σ:St}{H:Hp}{s s':qX}
theorem Inv.mz(I:Inv X pins σ H s):iz X.prog X.w X.K X.mg X.base X.A X.stack s H:=
 ⟨I.ok.frames,I.ok.mod,I.bs,qh I.ok.bsz I.sz,I.stack,I.PZ,I.hok,I.bare⟩
theorem Inv.after{Q:VK}{u:qT}(I:Inv X pins σ H s)(h:CE X.stack X.prog X.w H s Q u s'):EP X pins σ Q u s':=by
 obtain⟨v,H',os,bare,un,hok,r,q⟩:=h
 obtain⟨hh,g,d,t,os'⟩:=s'
 obtain rfl:os'=s.os:=os
 exact⟨v,H',I.call (h':=hh) (g':=g) (d':=d) (t':=t) (ch:=[]) un hok bare (λb z=>absurd z (by simp)),r,q⟩
end
noncomputable def Zw(sp:Sp)(dvs:Wp V)(E:XK)(t:TA):TE:=λσ H Q=>t σ H λvs H1=>sp (vs++dvs) H1 Q E
def Binds(K:qS)(fd:uU)(ps:Wp Str)(ds:Wp qT):Prop:=
 ∀(s:qX) (us:Wp qT),K.In s.heap->(us++ds).length=ps.length->BindsTo s fd ⟨us,[]⟩ (ps.zip (us++ds))
theorem Binds.all{K:qS}{fd:uU}{ps:Wp Str}(h:∀us:Wp qT,us.length=ps.length->bindArgs fd ⟨us,[]⟩=pure (ps.zip us)):Binds K fd ps []:=λs us _ hl=>by
 rw[uL]at hl⊢
 exact .of_eq (h us hl)
def Passes(CX:CXT)(X:Cx)(E:XK):Prop:=∀(pins:Wp (qb×Obj)) (σ:St) (H:Hp) (s:qX) (e:qT) (s':qX),Inv X pins σ H s->CX X.stack H s E e s'->X.xe e s'
section
variable{X:Cx}{CX:CXT}{k:Nat}{f C:qb}{fd:uU}{ps:Wp Str}{sp:Sp}{dvs:Wp V}{ds:Wp qT}{E:XK}{x m:Str}{p pos apos:Pos}{e o:rJ}{es:Wp rJ}{ta:TE}{t:TA}
theorem gG{pins:Wp (qb×Obj)}{σ:St}{H:Hp}{s:qX}{Q:VK}{us:Wp qT}{vs:Wp V}(F:Nd X.prog X.w X.K X.mg X.base CX k f fd ps sp)(hr:JE k X.A)(hb:Binds X.K fd ps ds)(hd:Vals dvs ds)(hx:Passes CX X E)(I:Inv X pins σ H s)(r:Vals vs us)(h:sp (vs++dvs) H Q E):wpAny (model X.prog X.w) X.A (call (.ref f) us) (EP X pins σ Q) X.xe s:=by
 have r2:Vals (vs++dvs) (us++ds):=r.append hd
 have hl:(us++ds).length=ps.length:=by rw[<-r2.length];exact F.len _ _ _ _ h
 refine AAP (wt (F.run X.A X.stack s H ⟨us,[]⟩ (us++ds) (vs++dvs) Q E hr I.mz (hb s us I.kIn hl) r2 h) λr s' hq=>?_)
 cases r with
 |error e=>exact hx pins σ H s e s' I hq
 |ok fl=>
  cases fl with
  |ret u=>exact I.after hq
  |next=>exact uj hq
  |brk=>exact uj hq
  |cont=>exact uj hq
theorem ZL(F:Nd X.prog X.w X.K X.mg X.base CX k f fd ps sp)(hr:JE k X.A)(hg:Gl X x)(hm:X.mg x=Gc (.ref f))(hk:ue X.K (.ref f)=true)(hb:Binds X.K fd ps ds)(hd:Vals dvs ds)(hx:Passes CX X E)(ha:PA X (e::es) t)(hdb:(x==("__debug__":Str))=false:=by decide)(he:rB (e::es) X.env=(false,eval e X.env)::rB es X.env:=by rfl)(hpl:(backTo pos (rB es X.env)).any (·.1)=false:=by rfl):PE X (.Call (.Name x p) (e::es) [] pos) (Zw sp dvs E t):=by
 intro pins s σ H Q I h
 refine uV (NA I hg hm ?_ hdb)
 refine AAQ (h₀:=X.base) I.ok.mod.kin hk (thn (ha pos pins s σ H _ I h) λus s1 ⟨vs,H1,I1,r,q⟩=>⟨I1.kIn,?_⟩) he hpl
 exact gG F hr hb hd hx I1 r q
structure Mk(K:qS)(C f:qb):Prop where
 makes:PySem.W.makesIn K C=true
 init:wq K (.ref C) "__init__"=Gc (Gc (.ref f))
 fn:PySem.W.isFn K (.ref f)=true
 kp:ue K (.ref C)=true
end
section
variable{X:Cx}{CX:CXT}{k:Nat}{f C:qb}{fd:uU}{ps ks:Wp Str}{sp:Sp}{E:XK}{x m:Str}{p pos apos kpos:Pos}{e o:rJ}{es:Wp rJ}{kws:Wp yS}{te ta:TE}{t tk:TA}{nm:qY Str}
structure mh(K:qS)(fd:uU)(ps ks:Wp Str)(g:Wp qT->Wp qT->Wp qT)(gV:Wp V->Wp V->Wp V):Prop where
 to:∀(s:qX) (us ws:Wp qT),K.In s.heap->(g us ws).length=ps.length->BindsTo s fd ⟨us,ks.zip ws⟩ (ps.zip (g us ws))
 rel:∀{vs:Wp V} {us:Wp qT} {zs:Wp V} {ws:Wp qT},Vals vs us->Vals zs ws->Vals (gV vs zs) (g us ws)
variable{g:Wp qT->Wp qT->Wp qT}{gV:Wp V->Wp V->Wp V}
end
structure AM(N P:Wp Str)(sc:uz):Prop where
 kind:sc.kind=.function
 co:sc.isCoroutine=false
 gen:sc.isGenerator=false
 nd:N.Nodup
 pre:N.take P.length=P
 par:∀x∈P,sc.names.lookup x=Gc .local\/sc.names.lookup x=Gc .cell
 cm:∀y∈sc.names,y.2≠.free
theorem N9{kindOf:Str->qY vY}{x:Str}:∀{binds:Wp (Str×qT)} {m:Str->qY qT},(∀v,(x,v)∉binds)->bindL kindOf binds m x=m x
 | [],_,_=>rfl
 |(n,v)::r,m,h=>by
  unfold bindL
  rw[N9 λw hw=>h w (qi _ hw)]
  split
  .have:x≠n:=by rintro rfl;exact h v qp
   simp[this]
  .rfl
theorem OX{kindOf:Str->qY vY}{x:Str}:∀{binds:Wp (Str×qT)} {m:Str->qY qT},(∀v,(x,v)∉binds)->bindC kindOf binds m x=m x
 | [],_,_=>rfl
 |(n,v)::r,m,h=>by
  unfold bindC
  rw[OX λw hw=>h w (qi _ hw)]
  split
  .rfl
  .have:x≠n:=by rintro rfl;exact h v qp
   simp[this]
theorem Ox{kindOf:Str->qY vY}{x:Str}{v:qT}:∀{P:Wp Str} {vs:Wp qT} {i:Nat} {m:Str->qY qT},P.Nodup->P[i]?=Gc x->vs[i]?=Gc v->kindOf x=Gc .local->bindL kindOf (P.zip vs) m x=Gc v
 | [],_,_,_,_,h,_,_=>by simp at h
 |_::_,[],_,_,_,_,h,_=>by simp at h
 |p::P,w::vs,0,m,nd,h1,h2,hk=>by
  simp at h1 h2;subst h1;subst h2
  show bindL kindOf ((p,w)::P.zip vs) m p=_
  unfold bindL
  rw[N9 λv hv=>(uk.mp nd).1 (vJ hv).1,q9 hk]
  simp
 |p::P,w::vs,i+1,m,nd,h1,h2,hk=>by
  show bindL kindOf ((p,w)::P.zip vs) m x=_
  unfold bindL
  exact Ox (i:=i) (uk.mp nd).2 (by simpa using h1) (by simpa using h2) hk
theorem Of{kindOf:Str->qY vY}{x:Str}{v:qT}:∀{P:Wp Str} {vs:Wp qT} {i:Nat} {m:Str->qY qT},P.Nodup->P[i]?=Gc x->vs[i]?=Gc v->kindOf x≠Gc .local->bindC kindOf (P.zip vs) m x=Gc v
 | [],_,_,_,_,h,_,_=>by simp at h
 |_::_,[],_,_,_,_,h,_=>by simp at h
 |p::P,w::vs,0,m,nd,h1,h2,hk=>by
  simp at h1 h2;subst h1;subst h2
  show bindC kindOf ((p,w)::P.zip vs) m p=_
  unfold bindC
  rw[OX λv hv=>(uk.mp nd).1 (vJ hv).1,rA hk]
  simp
 |p::P,w::vs,i+1,m,nd,h1,h2,hk=>by
  show bindC kindOf ((p,w)::P.zip vs) m x=_
  unfold bindC
  exact Of (i:=i) (uk.mp nd).2 (by simpa using h1) (by simpa using h2) hk
noncomputable def start(N:Wp Str)(vs:Wp V):St:=vs.map Gc++qz (N.length-vs.length) none
noncomputable def Qb(CX:CXT)(P:rF)(w:rX)(K:qS)(mg:Str->qY qT)(base:rT)(N:Wp Str)(qual:Str)(scope:uz)(f:qb)(cd:qT)(A:rS)(outer:Wp Env)(s:qX)(H:Hp)(E:XK):Cx where
 prog:=P
 w:=w
 K:=K
 mg:=mg
 base:=base
 A:=A.deeper (envOfC qual scope s.heap.objs.size f cd)
 N:=N
 s₀:=s
 H₀:=H
 env:=envOfC qual scope s.heap.objs.size f cd
 outer:=outer
 stack:=envOfC qual scope s.heap.objs.size f cd::outer
 ex:=[]
 calm:=true
 fn:=λ_=>true
 pn:=[]
 xe:=λe s'=>wpAny (model P w) (A.deeper (envOfC qual scope s.heap.objs.size f cd)) (leaving (envOfC qual scope s.heap.objs.size f cd) e) (λ_ s''=>CX outer H s E e s'') (λe' s''=>CX outer H s E e' s'') s'
theorem KP{sc:uz}{n:Nat}{x:Str}(h:sc.names.lookup x=Gc .cell):∃c,(cellsFrom n sc.names []).lookup x=Gc c:=by
 have q:=y8 sc.names n [] (.inl h)
 exact Option.isSome_iff_exists.mp q
theorem Ug{CX:CXT}{P:rF}{w:rX}{K:qS}{mg:Str->qY qT}{base:rT}{N ps:Wp Str}{qual:Str}{scope:uz}{f:qb}{cd:qT}{A:rS}{outer:Wp Env}{s s1:qX}{H:Hp}{E:XK}{us:Wp qT}{vs:Wp V}(S:AM N ps scope)(hd:A.handled=none)(e0:iz P w K mg base A outer s H)(hl:vs.length=ps.length)(r:Vals vs us)(x:InCallC s s.heap.objs.size (bindL (envOfC qual scope s.heap.objs.size f cd).kindOf (ps.zip us) λ_=>none) (cellsFrom (s.heap.objs.size+1) scope.names []) (bindC (envOfC qual scope s.heap.objs.size f cd).kindOf (ps.zip us) λ_=>none) s1):Inv (Qb CX P w K mg base N qual scope f cd A outer s H E) [] (start N vs) H s1:=by
 have hpl:ps.length<=N.length:=by have:=congrArg yT S.pre;rw[yp]at this;lia
 obtain⟨h1,tk,rfl,hk⟩:=x.done
 have noA:∀b:qb,b∉(Qb CX P w K mg base N qual scope f cd A outer s H E).ex:=λb z=>absurd (show b∈([]:Wp qb)from z) (by simp)
 refine⟨⟨e0.mod,S.kind,rfl,rfl,qg _,λy z c h1 h2=>?_,λy hy=>?_,λy c _ h=>?_,λ_=>hd,Around.frames_deeper e0.frames,.inr ⟨rfl,rfl⟩,λb z=>absurd z (noA b),e0.bs,e0.bsz,λb _ _=>noA b,λb z=>absurd z (noA b),e0.SF,e0.frf⟩,
  rfl,e0.bare,Un.kept hk,⟨_,x.toInCall.ns,λi y v h1 h2 h3=>?_⟩,λy c h=>⟨_,x.cell y c h⟩,e0.hok.fresh (qg _),λy c h=>?_,λp hp=>absurd (show p∈([]:Wp (qb×Obj))from hp) (by simp),e0.hok.kept hk,?_⟩
 .exact name_of_addr x.apart (su h1) (su h2)
 .have hy:scope.names.lookup y=Gc .cell\/scope.names.lookup y=Gc .free:=hy
  rcases hy with hy|hy
  .exact KP hy
  .exact absurd rfl (S.cm _ (su hy))
 .exact vM (x.above y c (su h))
 .have hi:i<vs.length:=by
   unfold start at h2
   by_cases hi:i<vs.length
   .exact hi
   .rw[rL (by simpa using hi)]at h2
    rw[wd]at h2
    split at h2<;>cases h2
  have ha:vs[i]?=Gc v:=by
   unfold start at h2
   rw[qZ (by simpa using hi),ql]at h2
   cases e:vs[i]? with
   |none=>rw[e]at h2;cases h2
   |some a=>rw[e]at h2;cases h2;rfl
  obtain⟨u,hu,rv⟩:=r.get ha
  have hp:ps[i]?=Gc y:=by
   rw[<-S.pre,List.getElem?_take_of_lt (by lia)];exact h1
  have ndP:ps.Nodup:=by rw[<-S.pre];exact S.nd.sublist (List.take_sublist _ _)
  refine⟨u,rv,?_⟩
  rcases S.par y (qx hp)with k|k
  .exact .inl ⟨k,Ox ndP hp hu k⟩
  .obtain⟨c,e⟩:=KP (n:=s.heap.objs.size+1) k
   refine .inr ⟨.inl k,c,e,?_⟩
   have q:=x.cell y c e
   rw[Of ndP hp hu (by show scope.names.lookup y≠_;rw[k];decide)]at q
   exact q
 .exact e0.hok.fresh (vM (x.above y c (su h)))
 .unfold start
  show _=N.length
  rw[rZ,qy,List.length_replicate]
  lia
theorem cS{CX:CXT}{P:rF}{w:rX}{K:qS}{mg:Str->qY qT}{base:rT}{k:Nat}{f:qb}{name qual:Str}{params:Arguments}{body:Wp sG}{scope:uz}{dV kV doc pm cdv ct oc:qT}{an od:qY qb}{osl:rP (qY qT)}{N ps:Wp Str}{sp:Sp}(lk:K.lookup f=Gc ⟨oc,od,.func (vc name qual params body scope dV kV doc pm an cdv ct),osl⟩)(hcd:xy K cdv qual=true)(S:AM N ps scope)(len:∀vs H Q E,sp vs H Q E->vs.length=ps.length)(hbody:∀(A:rS) (outer:Wp Env) (s:qX) (H:Hp) (vs:Wp V) (Q:VK) (E:XK),JE k (A.deeper (envOfC qual scope s.heap.objs.size f cdv))->sp vs H Q E->∃t,PSs (Qb CX P w K mg base N qual scope f cdv A outer s H E) body t/\t {nx:=λ_ H'=>Q .non H',rt:=Q} (start N vs) H):Nd P w K mg base CX (k+1) f (vc name qual params body scope dV kV doc pm an cdv ct) ps sp:=by
 refine⟨len,λA outer s H args us vs Q E hr e0 hb r hsp=>?_⟩
 have hl:=len _ _ _ _ hsp
 have KX:K.In s.heap:=e0.mod.kin.keeps λb o e=>(e0.bs b o e).1
 have lim:s.heap.NoLimit:=e0.mod.nolimit.keeps λb o e=>(e0.bs b o e).1
 have hkind:∀y∈ps.zip us,scope.names.lookup y.1=Gc .local\/(scope.names.lookup y.1=Gc .cell/\((cellsFrom (s.heap.objs.size+1) scope.names []).lookup y.1).isSome=true):=λ⟨n,v⟩ hy=>by
  rcases S.par n (vJ hy).1 with q|q
  .exact .inl q
  .exact .inr ⟨q,y8 _ _ _ (.inl q)⟩
 refine codeAny_call_function hr.depth (KX _ _ lk) rfl S.co S.gen rfl (PySem.W.codeRec_of KX hcd) (hb _ _ _ _ ?_)
 refine wpAny_newFunctionEnv_cells S.kind hkind λenv he s1 x=>?_
 subst he
 refine⟨lim.keeps x.toInCall.keep,codeAny_func ?_⟩
 obtain⟨t,ht,hq⟩:=hbody A outer s H vs Q E (hr.deeper _) hsp
 have I:Inv (Qb CX P w K mg base N qual scope f cdv A outer s H E) [] (start N vs) H s1:=Ug S hr.hd e0 hl r x
 refine ui (ht [] s1 (start N vs) H _ I hq) (λfl s' hs=>?_) λe s' hs=>hs
 have fin:∀{σ':St} {H':Hp} {v:V} {u:qT},Inv (Qb CX P w K mg base N qual scope f cdv A outer s H E) [] σ' H' s'->RelV v u->Q v H'->CE outer P w H s Q u s':=
  λ{σ' H' v u} J rv q=>⟨v,H',J.os,J.bare,J.base,J.hok,rv,q⟩
 cases fl with
 |ret u=>
  obtain⟨v,σ',H',J,rv,q⟩:=hs
  exact fin J rv q
 |next=>
  obtain⟨σ',H',J,q⟩:=hs
  exact fin (v:=V.non) (u:=rf) J rfl q
 |brk=>
  obtain⟨_,_,_,q⟩:=hs
  exact uj q
 |cont=>
  obtain⟨_,_,_,q⟩:=hs
  exact uj q
end L2
namespace L2
open PySem PySem.Spec PyProof.Rows
section
variable{X:Cx}{x:Str}{p pos:Pos}{e:rJ}{es:Wp rJ}{t:TA}{id T:uO}{r:Wp V->Hp->VK->Prop}
noncomputable def tCB(r:Wp V->Hp->VK->Prop)(t:TA):TE:=λσ H Q=>t σ H λvs H1=>r vs H1 Q
theorem WE(hc:Cj X (.builtin id) r)(hg:Gl X x)(hm:X.mg x=none)(hv:bootBuiltins x=Gc (.builtin id))(ha:PA X (e::es) t)(hn:x≠ "__name__":=by decide)(hdb:(x==("__debug__":Str))=false:=by decide)(he:rB (e::es) X.env=(false,eval e X.env)::rB es X.env:=by rfl)(hpl:(backTo pos (rB es X.env)).any (·.1)=false:=by rfl):PE X (.Call (.Name x p) (e::es) [] pos) (tCB r t):=by
 intro pins s σ H Q I h
 refine uV (Ic I hg hm hv ?_ hn hdb)
 exact PyProof.Rows.callWith_builtin1 (thn (ha pos pins s σ H _ I h) λus s1 ⟨vs,H1,I1,r1,q1⟩=>hc pins s1 σ H1 vs us Q I1 r1 q1) he hpl
theorem LO(hc:Cj X (.type T) r)(hg:Gl X x)(hm:X.mg x=none)(hv:bootBuiltins x=Gc (.type T))(ha:PA X (e::es) t)(hn:x≠ "__name__":=by decide)(hdb:(x==("__debug__":Str))=false:=by decide)(he:rB (e::es) X.env=(false,eval e X.env)::rB es X.env:=by rfl)(hpl:(backTo pos (rB es X.env)).any (·.1)=false:=by rfl):PE X (.Call (.Name x p) (e::es) [] pos) (tCB r t):=by
 intro pins s σ H Q I h
 refine uV (Ic I hg hm hv ?_ hn hdb)
 exact uu (thn (ha pos pins s σ H _ I h) λus s1 ⟨vs,H1,I1,r1,q1⟩=>hc pins s1 σ H1 vs us Q I1 r1 q1) he hpl
end
end L2
namespace HT
open PySem PyProof.Rows
noncomputable def lexLt:Wp Int->Wp Int->rR
 | [],[]=>false
 | [],_::_=>true
 |_::_,[]=>false
 |x::xs,y::ys=>if x=y then lexLt xs ys else decide (x<y)
theorem Sn(x y:Int)(xs ys:Wp Int):lexLt (x::xs) (y::ys)=if x=y then lexLt xs ys else decide (x<y):=rfl
theorem Nb:lexLt [] []=false:=rfl
theorem Lg(y:Int)(ys:Wp Int):lexLt [] (y::ys)=true:=rfl
theorem Lm(x:Int)(xs:Wp Int):lexLt (x::xs) []=false:=rfl
theorem Xo(A:rS)(s:qX)(a:Int)(t:Tok)(c:Int)(u:Tok):∃e,SeqAt.EqAt A s (.int a t) (.int c u) e/\(e=true↔a=c):=
 ⟨(a==c),AAR a t c u,by simp⟩
theorem WN(A:rS)(s:qX)(a:Int)(t:Tok)(c:Int)(u:Tok)(prog:rF)(w:rX)(E:qT->qX->Prop)(Q:qT->qX->Prop)(h:Q (.bool (decide (a<c))) s):wpAny (model prog w) A (richCompare .Lt (.int a t) (.int c u)) Q E s:=
 (PyProof.Rows.lt_int h:wpAny (model prog w) A (compareOp .Lt (.int a t) (.int c u)) Q E s)
section
open PySem.SeqAt
open PySem.AutoSeq1 (wpAny_loadPart')
open PySem.MeetsSeq PySem.MeetsSeq2 PySem.MeetsSeq3
theorem M8(l b:qb)(items items2:rP qT)(n n2:Nat)(dd dd2:qY qb)(sl sl2:rP (qY qT))(ns ms:Wp Int)(hi:sX items.toList ns)(hj:sX items2.toList ms):Meets (uQ.«tuple.__lt__» ⟨[.ref l,.ref b],[]⟩) (λ_ R s=>s.heap.get? l=Gc {cls:=.type "tuple",dict:=dd,data:=.seq items n,slots:=sl}/\s.heap.get? b=Gc {cls:=.type "tuple",dict:=dd2,data:=.seq items2 n2,slots:=sl2}/\R (.ok (.ret (.bool (lexLt ns ms)))) s):=
 .of_wp λprog w A R s h=>by
  obtain⟨hp,g,d,tk,os⟩:=s;obtain⟨hl,hb,h⟩:=h
  have f2:=yc
  have z1:items.size=ns.length:=by rw[<-hi.length];simp
  have z2:items2.size=ms.length:=by rw[<-hj.length];simp
  wp_walk using wpAny_loadPart' hl,wpAny_loadPart' hb,wpAny_forIn_list _ (λrest b s'=>b.1=none/\s'=⟨hp,g,d,tk,os⟩/\∃(vs ws:Wp qT) (ns' ms':Wp Int),rest=vs.zip ws/\
   sX vs ns'/\sX ws ms'/\ns'.length+items2.size=ms'.length+items.size/\R (.ok (.ret (.bool (lexLt ns' ms')))) ⟨hp,g,d,tk,os⟩) _
  case turn=>
   rintro ⟨y,x⟩ rest b s' ⟨hb',rfl,vs,ws,ns',ms',hz,hvi,hwi,hlen,hR⟩
   cases hvi with
   |nil=>rw[List.zip_nil_left]at hz;cases hz
   |cons a t hvi'=>
    cases hwi with
    |nil=>rw[List.zip_nil_right]at hz;cases hz
    |cons c u hwi'=>
     rw[yA]at hz
     injection hz with hyx hrest
     injection hyx with hy hx
     subst hy hx
     rw[Sn]at hR
     simp only[rV]at hlen
     obtain⟨e,he,hiff⟩:=Xo A.in1 ⟨hp,g,d,tk,os⟩ a t c u
     refine qR (he prog w _ _ ?_)
     cases e with
     |true=>
      rw[q9 (hiff.mp rfl)]at hR
      wp_walk
      exact⟨rfl,rfl,_,_,_,_,hrest,hvi',hwi',by lia,hR⟩
     |false=>
      rw[rA (λq=>absurd (hiff.mpr q) sC)]at hR
      have hri:=WN A.in1 ⟨hp,g,d,tk,os⟩ a t c u prog w
      wp_walk using hri
      exact⟨_,rfl,by simpa using hR⟩
  case fin=>
   rintro ⟨b1,b2⟩ s' ⟨hb',rfl,vs,ws,ns',ms',hz,hvi,hwi,hlen,hR⟩
   simp only at hb'
   subst hb'
   have hv:lexLt ns' ms'=decide (items.size<items2.size):=by
    cases hvi with
    |nil=>
     cases hwi with
     |nil=>
      simp only[uA]at hlen
      rw[Nb]
      exact(t9 (by lia)).symm
     |cons c u hw=>
      simp only[uA,rV]at hlen
      rw[Lg]
      exact(sZ (by lia)).symm
    |cons a t hv=>
     cases hwi with
     |nil=>
      simp only[uA,rV]at hlen
      rw[Lm]
      exact(t9 (by lia)).symm
     |cons c u hw=>
      rw[yA]at hz
      cases hz
   rw[hv]at hR
   wp_walk
   exact⟨_,rfl,by simpa[Builtin.Tuple.tupleCompareSizes]using hR⟩
  case h=>
   exact⟨rfl,rfl,items.toList,items2.toList,ns,ms,rfl,hi,hj,by lia,h⟩
end
section
variable{prog:rF}{w:rX}{A:rS}{E:qT->qX->Prop}{s:qX}
theorem Ry{l b:qb}{items items2:rP qT}{ns ms:Wp Int}{Q:qT->qX->Prop}(hl:y7 s.heap l items)(hb:y7 s.heap b items2)(hi:sX items.toList ns)(hj:sX items2.toList ms)(hu:A.units<cLine)(h:Q (.bool (lexLt ns ms)) s):wpAny (model prog w) A (compareOp .Lt (.ref l) (.ref b)) Q E s:=by
 obtain⟨⟨cls,dd,data,sl⟩,ho,hc,n,hd⟩:=id hl
 obtain⟨⟨cls2,dd2,data2,sl2⟩,ho2,hc2,n2,hd2⟩:=id hb
 simp only at hc hd hc2 hd2
 subst hc hd hc2 hd2
 exact richCompare_meets_room (op:=.Lt) ⟨_,ho,rfl⟩ ⟨_,ho2,rfl⟩ PySem.F.slot_tuple_lt PySem.F.entry_tuple_lt (PySem.F.args_tuple_lt_2 _ _) (M8 l b items items2 n n2 dd dd2 sl sl2 ns ms hi hj)
  ⟨ho,ho2,show xv (lexLt ns ms)≠zg/\Q (.bool (lexLt ns ms)) s from⟨(λx=>nomatch x),h⟩⟩ hu
theorem Yo{t b:qb}{vs ws:Wp qT}{Q:qT->qX->Prop}(ht:y7 s.heap t vs.toArray)(hb:y7 s.heap b ws.toArray)(hv:vs≠[])(h1:ws=[]->Q (.ref t) s)(h2:ws≠[]->Q (.ref s.heap.objs.size) {s with heap:=s.heap.push {cls:=.type "tuple",data:=.seq (vs++ws).toArray}})(hsz:vs.length+ws.length<=sizeLine):wpAny (model prog w) A (binaryOp .Add (.ref t) (.ref b)) Q E s:=by
 obtain⟨⟨cls,dd,data,sl⟩,ho,hc,n,hd⟩:=id ht
 obtain⟨⟨cls2,dd2,data2,sl2⟩,ho2,hc2,n2,hd2⟩:=id hb
 simp only at hc hd hc2 hd2
 subst hc hd hc2 hd2
 have e:vs.toArray++ws.toArray=(vs++ws).toArray:=by simp
 by_cases hw:ws=[]
 .exact concat_meets ⟨_,ho,rfl⟩ ⟨_,ho2,rfl⟩ yq AAI wu we (wR _ _)
   (tuple_addW1 t b vs.toArray ws.toArray n n2 dd dd2 sl sl2 (by simpa using hv) (by simp[hw])) ⟨ho,ho2,h1 hw⟩
 .refine concat_meets ⟨_,ho,rfl⟩ ⟨_,ho2,rfl⟩ yq AAI wu we (wR _ _)
   (tuple_addW2 t b vs.toArray ws.toArray n n2 dd dd2 sl sl2 (by simpa using hv) (by simpa using hw) (by rw[qr,qr];exact hsz)) ⟨ho,ho2,?_⟩
  rw[e]
  exact h2 hw
noncomputable def sIx(n d:Nat):qY Int->Nat
 |none=>d
 |some v=>if v<0 then(v+(n:Int)).toNat else min v.toNat n
theorem P1(n d k:Nat):sIx n d (Gc (k:Int))=min k n:=by
 show(if(k:Int)<0 then((k:Int)+(n:Int)).toNat else min (k:Int).toNat n)=min k n
 rw[rA (by lia),vy]
theorem eW(n d:Nat)(hd:d<=n)(o:qY Int):sIx n d o<=n:=by
 cases o with
 |none=>exact hd
 |some v=>
  show(if v<0 then(v+(n:Int)).toNat else min v.toNat n)<=n
  by_cases hv:v<0
  .rw[q9 hv];lia
  .rw[rA hv];exact Nat.min_le_right _ _
theorem U8(v:Int)(n d:Nat):(if v<0 then max (v+(n:Int)) 0 else min v (n:Int))=((sIx n d (Gc v):Nat):Int):=by
 show(if v<0 then max (v+(n:Int)) 0 else min v (n:Int))=(((if v<0 then(v+(n:Int)).toNat else min v.toNat n):Nat):Int)
 by_cases hv:v<0
 .simp only[q9 hv];lia
 .simp only[rA hv];lia
theorem R8(lo hi:qY Int)(n:Nat):wI lo hi 1 (n:Int)=(((sIx n 0 lo:Nat):Int),((sIx n n hi:Nat):Int)):=by
 have h1:¬((1:Int)<0):=by lia
 unfold wI
 simp only[h1,v8]
 refine Prod.ext ?_ ?_
 .cases lo with
  |none=>rfl
  |some v=>exact U8 v n 0
 .cases hi with
  |none=>rfl
  |some v=>exact U8 v n n
theorem Rn(i j:Nat):vG (i:Int) (j:Int) 1=j-i:=by
 unfold vG
 have h1:(1:Int)>0:=by lia
 simp only[h1,wW,Int.ediv_one]
 split<;>lia
theorem MB{v:qT}{o:qY Int}{Q:qY Int->qX->Prop}(p:y9 v o)(h:Q o s):wpAny (model prog w) A (Builtin.Slice.slicePartIndex v) Q E s:=by
 cases p with
 |none=>exact slicePart_none h
 |int i t=>exact slicePart_int h
theorem Gj{sl:qb}{vl vu:qT}{lo hi:qY Int}{n:Nat}{Q:Int×Int×Nat->qX->Prop}(hs:s.heap.IsSliceOf sl vl vu .none)(pl:y9 vl lo)(pu:y9 vu hi)(h:Q (((sIx n 0 lo:Nat):Int),1,sIx n n hi-sIx n 0 lo) s):wpAny (model prog w) A (yB (.ref sl) (pure (n:Int))) Q E s:=by
 obtain⟨os,hos,hcs,hds⟩:=id hs
 unfold yB Builtin.Slice.sliceFields
 refine qR (qR (uH hos hds (x:=vl) rfl (qR (uH hos hds (x:=vu) rfl (qR (uH hos hds (x:=.none) rfl (qa ?_)))))))
 refine qR (slicePart_none ?_)
 show wpAny _ _ (if((1:Int)==0)=true then _ else _) _ _ s
 rw[rA (by decide)]
 refine qR (MB pl (qR (MB pu (qR (qa ?_)))))
 show wpAny _ _ (match wI lo hi 1 (n:Int)with|(lo,hi)=>pure (lo,(1:Int),vG lo hi 1)) _ _ s
 rw[R8 lo hi n]
 show wpAny _ _ (pure (((sIx n 0 lo:Nat):Int),(1:Int),vG ((sIx n 0 lo:Nat):Int) ((sIx n n hi:Nat):Int) 1)) _ _ s
 rw[Rn]
 exact qa h
theorem Wk(xs:rP qT)(i k:Nat):((rO k).filterMap λ(m:Nat)=>xs[((i:Int)+(m:Int)*1).toNat]?).toArray=((xs.toList.drop i).take k).toArray:=by
 have e:(λ(m:Nat)=>xs[((i:Int)+(m:Int)*1).toNat]?)=λm=>xs[i+m]?:=by
  funext m
  have:((i:Int)+(m:Int)*1).toNat=i+m:=by lia
  rw[this]
 rw[e]
 have:=pick_run xs i k
 rw[List.filterMap_map]at this
 have e2:((λx=>xs[x]?)∘λx=>i+x)=λm=>xs[i+m]?:=rfl
 rw[e2]at this
 rw[this]
theorem JO{t sl:qb}{items:rP qT}{vl vu:qT}{lo hi:qY Int}{Q:qT->qX->Prop}(ht:y7 s.heap t items)(hs:s.heap.IsSliceOf sl vl vu .none)(pl:y9 vl lo)(pu:y9 vu hi)(hw:¬(sIx items.size 0 lo=0/\sIx items.size items.size hi=items.size))(h:Q (.ref s.heap.objs.size) {s with heap:=s.heap.push {cls:=.type "tuple",data:=.seq ((items.toList.drop (sIx items.size 0 lo)).take (sIx items.size items.size hi-sIx items.size 0 lo)).toArray}})(hsz:items.size<=sizeLine):wpAny (model prog w) A (getItem (.ref t) (.ref sl)) Q E s:=by
 have htake:sizeOk (.seq ((items.toList.drop (sIx items.size 0 lo)).take (sIx items.size items.size hi-sIx items.size 0 lo)).toArray):=by
  show((items.toList.drop (sIx items.size 0 lo)).take (sIx items.size items.size hi-sIx items.size 0 lo)).toArray.size<=sizeLine
  rw[qr,yp,yr,uF]
  lia
 have hj:sIx items.size items.size hi<=items.size:=eW _ _ (qg _) hi
 obtain⟨os,hos,hcs,hds⟩:=id hs
 have hTs:s.TypeIs (.ref sl) "slice":=⟨os,hos,hcs⟩
 unfold getItem
 try with_reducible refine sI ?_
 first|refine qR (qa ?_)|skip
 refine qR (wpAny_sequenceKey ht.typeIs (by decide) ?_)
 refine qR (sH (name:=tM "__getitem__") ht.typeIs sS
  (sD sS ht.typeIs AAA ?_ (AAS _ _)))
 show wpAny _ _ (yC (.ref t) >>= _) _ _ s
 refine qR (tupleItemsOf_ ht ?_)
 refine qR (vd hTs ?_)
 rw[q9 (by decide)]
 refine qR (Gj hs pl pu ?_)
 have hno:¬((((sIx items.size 0 lo:Nat):Int)==0 && (1:Int)==1 && (sIx items.size items.size hi-sIx items.size 0 lo)==items.size)=true):=by
  intro q
  rw[qt,qt]at q
  have q1:((sIx items.size 0 lo:Nat):Int)=0:=eq_of_beq q.1.1
  have q2:sIx items.size items.size hi-sIx items.size 0 lo=items.size:=eq_of_beq q.2
  exact hw ⟨by lia,by lia⟩
 show wpAny _ _ (if(((sIx items.size 0 lo:Nat):Int)==0 && (1:Int)==1 && (sIx items.size items.size hi-sIx items.size 0 lo)==items.size)=true then _ else _) _ _ s
 rw[rA hno,Wk]
 first
  |exact qR (m:=vT _) (rm (qa ⟨_,rfl,qa h⟩) htake)
  |exact qR (m:=vT _) (rm (qR (qa (qa ⟨_,rfl,qa h⟩))) htake)
  |exact qR (qR (m:=vT _) (rm (qa (qa ⟨_,rfl,qa h⟩)) htake))
  |exact qR (qR (m:=vT _) (rm (qa ⟨_,rfl,qa h⟩) htake))
end
end HT
namespace L2
open PySem PySem.Spec PyProof.Rows
abbrev TO:=St->Hp->(qY Int->Hp->Prop)->Prop
def PO(X:Cx)(e:qY rJ)(t:TO):Prop:=
 ∀(pins:Wp (qb×Obj)) (s:qX) (σ:St) (H:Hp) (Q:qY Int->Hp->Prop),Inv X pins σ H s->t σ H Q->
  wpAny (model X.prog X.w) X.A (evalPart e X.env) (λu s'=>∃o H',Inv X pins σ H' s'/\y9 u o/\Q o H') X.xe s
noncomputable def Zo:TO:=λ_ H Q=>Q none H
noncomputable def jc(t:TE):TO:=λσ H Q=>t σ H λx H1=>∃i,x=.int i/\Q (Gc i) H1
theorem intsAre_of{ns:Wp Int}:∀{us:Wp qT},Vals (ns.map V.int) us->sX us ns:=by
 induction ns with
 |nil=>intro us r;rw[uC]at r;cases r;exact .nil
 |cons n ns ih=>
  intro us r
  rw[rD]at r
  cases r with
  |cons r1 r2=>
   obtain⟨t,e⟩:=r1
   subst e
   exact .cons n t (ih r2)
section
variable{X:Cx}{e:rJ}{te:TE}{lo hi:qY rJ}{tl th:TO}{pos p2:Pos}
theorem TM:PO X none Zo:=by
 intro pins s σ H Q I h
 rw[evalPart_none]
 exact qa ⟨none,H,I,.none,h⟩
theorem Mv(h:PE X e te):PO X (Gc e) (jc te):=by
 intro pins s σ H Q I hw
 rw[evalPart_some]
 refine thn (h pins s σ H _ I hw) λu s1 ⟨x,H1,I1,r1,q1⟩=>?_
 obtain⟨i,rfl,q⟩:=q1
 obtain⟨t,rfl⟩:=r1
 exact⟨Gc i,H1,I1,.int i t,q⟩
def SlR(X:Cx)(r:V->qY Int->qY Int->Hp->VK->Prop):Prop:=
 ∀(pins:Wp (qb×Obj)) (s:qX) (σ:St) (H:Hp) (x:V) (v vl vu:qT) (lo hi:qY Int) (sl:qb) (Q:VK),Inv X pins σ H s->RelV x v->s.heap.IsSliceOf sl vl vu .none->y9 vl lo->y9 vu hi->r x lo hi H Q->
  ∃T id,typeLookup (.type T) "__getitem__"=pure (Gc (.builtin id))/\s.TypeIs v T/\wpAny (model X.prog X.w) X.A (getItem v (.ref sl)) (EP X pins σ Q) X.xe s
noncomputable def tSl(r:V->qY Int->qY Int->Hp->VK->Prop)(te:TE)(tl th:TO):TE:=λσ H Q=>te σ H λx H1=>tl σ H1 λl H2=>th σ H2 λu H3=>r x l u H3 Q
theorem Nm{r:V->qY Int->qY Int->Hp->VK->Prop}(hr:SlR X r)(he:PE X e te)(hl:PO X lo tl)(hu:PO X hi th):PE X (.Subscript e (.Slice lo hi none p2) pos) (tSl r te tl th):=by
 intro pins s σ H Q I h
 refine Subscript_ (thn (he pins s σ H _ I h) λv s1 ⟨x,H1,I1,r1,q1⟩=>?_)
 refine wpAny_Slice (thn (hl pins s1 σ H1 _ I1 q1) λvl s2 ⟨l,H2,I2,pl,q2⟩=>thn (hu pins s2 σ H2 _ I2 q2) λvu s3 ⟨u,H3,I3,pu,q3⟩=>?_)
 rw[evalPart_none]
 refine qa ?_
 have I4:Inv X pins σ H3 {s3 with heap:=s3.heap.push {cls:=.type "slice",data:=.fields #[vl,vu,.none]}}:=I3.kept (t':=s3.toks) λb ob q=>qU _ q
 obtain⟨T,id,hT,ht,hg⟩:=hr pins {s3 with heap:=s3.heap.push {cls:=.type "slice",data:=.fields #[vl,vu,.none]}} σ H3 x v vl vu l u s3.heap.objs.size Q I4 r1 (Heap.IsSliceOf.new ..) pl pu q3
 show wpAny (model X.prog X.w) X.A (subscriptTail e (.Slice lo hi none p2) v (.ref s3.heap.objs.size)) (EP X pins σ Q) X.xe {s3 with heap:=s3.heap.push {cls:=.type "slice",data:=.fields #[vl,vu,.none]}}
 exact tail_any (ops:=[.ref s3.heap.objs.size,v]) ht hT hg (by with_unfolding_all rfl)
noncomputable def YU(xs:Wp V)(lo hi:qY Int):Wp V:=(xs.drop (HT.sIx xs.length 0 lo)).take (HT.sIx xs.length xs.length hi-HT.sIx xs.length 0 lo)
theorem LW(xs:Wp V)(lo hi:qY Int):(YU xs lo hi).length<=xs.length:=by
 unfold YU
 rw[yp,yr]
 lia
def ou(K:qS):V->qY Int->qY Int->Hp->VK->Prop:=λx lo hi H Q=>∃a xs,x=.ref a/\SqT K H a xs/\
 ¬(HT.sIx xs.length 0 lo=0/\HT.sIx xs.length xs.length hi=xs.length)/\∀p,H p=none->Q (.ref p) (upd H p (.tup (YU xs lo hi)))
theorem cA:SlR X (ou X.K):=by
 intro pins s σ H x v vl vu lo hi sl Q I rx hs pl pu h
 obtain⟨a,xs,rfl,hx,hw,q⟩:=h
 cases rx
 obtain⟨its,r,ht,hz⟩:=I.tuple hx
 have hlen:its.toArray.size=xs.length:=by rw[qr];exact r.length.symm
 refine⟨"tuple",_,sS.lookup,ht.typeIs,?_⟩
 refine HT.JO ht hs pl pu (by rw[hlen];exact hw) ?_ (by rw[hlen];exact hz)
 rw[hlen]
 refine⟨.ref s.heap.objs.size,_,I.laid (t':=s.toks) (o:=.tup (YU xs lo hi)) (λb ob q=>qU _ q) (qg _) ?_,rfl,q _ (I.hok.fresh (qg _))⟩
 exact⟨qh (LW xs lo hi) hz,_,(r.drop (HT.sIx xs.length 0 lo)).take (HT.sIx xs.length xs.length hi-HT.sIx xs.length 0 lo),wL _ _⟩
noncomputable def lN(K:qS):R2:=λx y H Q=>∃a b xs ys,x=.ref a/\y=.ref b/\SqT K H a xs/\SqT K H b ys/\xs≠[]/\xs.length+ys.length<=sizeLine/\
 (ys=[]->Q (.ref a) H)/\(ys≠[]->∀p,H p=none->Q (.ref p) (upd H p (.tup (xs++ys))))
theorem Vals.Mn{xs:Wp V}{us:Wp qT}(r:Vals xs us):us=[]↔xs=[]:=by
 cases r with
 |nil=>simp
 |cons _ _=>simp
theorem bG:OpR X (binaryOp .Add) (lN X.K):=by
 intro pins s σ H x y v u Q I rx ry h
 obtain⟨a,b,xs,ys,rfl,rfl,ha,hb,hx,hz,q1,q2⟩:=h
 cases rx
 cases ry
 obtain⟨its,r1,p1,_⟩:=I.tuple ha
 obtain⟨its2,r2,p2,_⟩:=I.tuple hb
 refine HT.Yo p1 p2 (λz=>hx (r1.Mn.mp z)) (λz=>⟨.ref a,H,I,rfl,q1 (r2.Mn.mp z)⟩) (λz=>?_) (by rw[<-r1.length,<-r2.length];exact hz)
 refine⟨.ref s.heap.objs.size,_,I.laid (t':=s.toks) (o:=.tup (xs++ys)) (λb ob q=>qU _ q) (qg _) ?_,rfl,q2 (λw=>z (r2.Mn.mpr w)) _ (I.hok.fresh (qg _))⟩
 exact⟨by rw[rZ];exact hz,_,r1.append r2,wL _ _⟩
end
end L2
namespace L2
open PySem PySem.Spec PyProof.Rows
noncomputable def ixN(n:Nat)(i:Int):qY Nat:=if 0<=i then(if i<n then Gc i.toNat else none)else if-(n:Int)<=i then Gc (i+n).toNat else none
noncomputable def atI{α:Type}(xs:Wp α)(i:Int):qY α:=(ixN xs.length i).bind λj=>xs[j]?
theorem UL{n:Nat}{i:Int}{j:Nat}(h:ixN n i=Gc j):seqIndex? i n=Gc j/\j<n/\ -(n:Int)<=i/\i<n:=by
 unfold ixN at h
 by_cases h0:0<=i
 .rw[q9 h0]at h
  by_cases h1:i<n
  .rw[q9 h1]at h
   have e:i.toNat=j:=sL h
   exact⟨by rw[seqIndex_of h0 h1,e],by lia,by lia,h1⟩
  .rw[rA h1]at h;cases h
 .rw[rA h0]at h
  by_cases h1: -(n:Int)<=i
  .rw[q9 h1]at h
   have e:(i+n).toNat=j:=sL h
   exact⟨by rw[seqIndex_neg (by lia) h1,e],by lia,h1,by lia⟩
  .rw[rA h1]at h;cases h
theorem Vd{α:Type}{xs:Wp α}{i:Int}{v:α}(h:atI xs i=Gc v):∃j,seqIndex? i xs.length=Gc j/\xs[j]?=Gc v/\j<xs.length/\ -(xs.length:Int)<=i/\i<xs.length:=by
 unfold atI at h
 cases e:ixN xs.length i with
 |none=>rw[e]at h;cases h
 |some j=>
  rw[e]at h
  obtain⟨h1,h2,h3,h4⟩:=UL e
  exact⟨j,h1,h,h2,h3,h4⟩
theorem Zd{α:Type}{xs:Wp α}{j:Nat}{v:α}(h:xs[j]?=Gc v):atI xs (j:Int)=Gc v:=by
 have hj:j<xs.length:=(qe.mp h).1
 have e:ixN xs.length (j:Int)=Gc j:=by
  unfold ixN
  rw[q9 (by lia),q9 (by lia)];simp
 unfold atI;rw[e];exact h
theorem Qg{α:Type}(xs:Wp α)(v:α):atI (xs++[v]) (-1)=Gc v:=by
 have hl:(xs++[v]).length=xs.length+1:=by simp
 have e:ixN (xs++[v]).length (-1)=Gc xs.length:=by
  unfold ixN
  rw[hl,rA (by decide),q9 (by lia)]
  congr 1
  lia
 unfold atI
 rw[e]
 show(xs++[v])[xs.length]?=Gc v
 simp
def Uv(b:rJ):Prop:=∀o i,subscripted b false o i=operate [o,i] (getItem o i)
def IxR(X:Cx)(r:R2):Prop:=
 ∀(value slice:rJ) (pins:Wp (qb×Obj)) (s:qX) (σ:St) (H:Hp) (x y:V) (v u:qT) (Q:VK),Inv X pins σ H s->RelV x v->RelV y u->r x y H Q->
  subscripted slice false v u=operate [v,u] (getItem v u)->wpAny (model X.prog X.w) X.A (subscriptTail value slice v u) (EP X pins σ Q) X.xe s
def MtR(X:Cx)(id:uO)(r:V->Wp V->Hp->VK->Prop):Prop:=
 ∀(pins:Wp (qb×Obj)) (s:qX) (σ:St) (H:Hp) (x:V) (xs:Wp V) (v:qT) (us:Wp qT) (Q:VK),Inv X pins σ H s->RelV x v->Vals xs us->r x xs H Q->
  wpAny (model X.prog X.w) X.A (call (.builtin id) (v::us)) (EP X pins σ Q) X.xe s
section
variable{X:Cx}{a b:rJ}{ta tb:TE}{pos:Pos}
theorem jW{r:R2}(hr:IxR X r)(ha:PE X a ta)(hb:PE X b tb)(hs:Uv b):PE X (.Subscript a b pos) (tOp r ta tb):=by
 intro pins s σ H Q I h
 exact Subscript_ (k8 ha hb I h λv u s2 x y H2 I2 rx ry q=>hr a b pins s2 σ H2 x y v u Q I2 rx ry q (hs _ _))
noncomputable def oy(K:qS):R2:=λx y H Q=>∃p xs i v,x=.ref p/\y=.int i/\SqL K H p xs/\atI xs i=Gc v/\Q v H
noncomputable def pf(K:qS):R2:=λx y H Q=>∃p xs i v,x=.ref p/\y=.int i/\SqT K H p xs/\atI xs i=Gc v/\Q v H
theorem Zu:IxR X (oy X.K):=by
 intro value slice pins s σ H x y v u Q I rx ry h hs
 obtain⟨p,xs,i,z,rfl,rfl,hq,he,q⟩:=h
 cases rx
 obtain⟨t,rfl⟩:=ry
 obtain⟨its,r,pl,hz⟩:=I.list hq
 obtain⟨j,h1,h2,h3,h4,h5⟩:=Vd he
 obtain⟨w,ew,rw'⟩:=r.get h2
 have hl:=r.length
 have hn:=N4
 have fin:EP X pins σ Q w s:=⟨z,H,I,rw',q⟩
 by_cases h0:0<=i
 .have hj:i.toNat=j:=by
   rw[seqIndex_of h0 h5]at h1
   exact sL h1
  exact item_listR pl.isList h0 (by lia) (by rw[hj];simpa using ew) fin hs
 .have hj:(i+(its.toArray.size:Int)).toNat=j:=by
   rw[seqIndex_neg (by lia) h4]at h1
   rw[qr,<-hl]
   exact sL h1
  exact zA (x:=w) pl.isList.typeIs slot_list_getitem.lookup
   (wpAny_getItem_list_neg (Q:=λr s'=>r=w/\EP X pins σ Q r s') pl.isList (by lia) (by rw[qr]<;>lia) (by lia) (by rw[hj];simpa using ew) ⟨rfl,fin⟩) hs
theorem fA:IxR X (pf X.K):=by
 intro value slice pins s σ H x y v u Q I rx ry h hs
 obtain⟨p,xs,i,z,rfl,rfl,hq,he,q⟩:=h
 cases rx
 obtain⟨t,rfl⟩:=ry
 obtain⟨its,r,pl,hz⟩:=I.tuple hq
 obtain⟨j,h1,h2,h3,h4,h5⟩:=Vd he
 obtain⟨w,ew,rw'⟩:=r.get h2
 have hl:=r.length
 have hn:=N4
 have fin:EP X pins σ Q w s:=⟨z,H,I,rw',q⟩
 exact zA (x:=w) pl.typeIs sS.lookup
  (getItem_tuple (j:=j) (Q:=λr s'=>r=w/\EP X pins σ Q r s') pl (by lia) (by lia) (by rw[qr,<-hl];exact h1) (by simpa using ew) ⟨rfl,fin⟩) hs
theorem Rr(its:Wp qT)(n j:Nat)(u:qT):tY (·.setIfInBounds j u) {cls:=.type "list",data:=.seq its.toArray n}={cls:=.type "list",data:=.seq (its.set j u).toArray n}:=by
 simp[tY]
theorem Inv.lst{pins:Wp (qb×Obj)}{σ:St}{H:Hp}{s:qX}{p:qb}{xs:Wp V}(I:Inv X pins σ H s)(h:H p=Gc (.lst xs)):∃(its:Wp qT) (n:Nat),Vals xs its/\s.heap.get? p=Gc {cls:=.type "list",data:=.seq its.toArray n}/\xs.length<=sizeLine:=by
 obtain⟨z,its,n,r,e⟩:=I.hok p _ h
 exact⟨its,n,r,e,z⟩
theorem Inv.bq{pins:Wp (qb×Obj)}{σ:St}{H:Hp}{s:qX}{p:qb}{xs ys:Wp V}{its its':Wp qT}{n n':Nat}{f:Obj->Obj}(I:Inv X pins σ H s)(h:H p=Gc (.lst xs))(ho:s.heap.get? p=Gc {cls:=.type "list",data:=.seq its.toArray n})(hf:f {cls:=.type "list",data:=.seq its.toArray n}={cls:=.type "list",data:=.seq its'.toArray n'})(r:Vals ys its')(hz:ys.length<=sizeLine)(t:Nat):Inv X pins σ (upd H p (.lst ys)) {s with heap:=s.heap.update p f,toks:=t}:=by
 have e:(s.heap.update p f).get? p=Gc {cls:=.type "list",data:=.seq its'.toArray n'}:=by
  rw[rK f ho (by rw[hf]<;>rfl),hf]
 refine I.write (x:=p) (e:=p) (by rw[h];trivial) (.inl rfl) (λb u hb q=>(rE _ _ (rh hb)).trans q) ⟨_,e⟩ ?_
 exact⟨hz,its',n',r,e⟩
def ky:V->V->V->Hp->(Hp->Prop)->Prop:=λo i v H Q=>∃p xs k j,o=.ref p/\i=.int k/\H p=Gc (.lst xs)/\ixN xs.length k=Gc j/\Q (upd H p (.lst (xs.set j v)))
theorem set_list:mM X ky:=by
 intro pins s σ H o i v ov iv u Q I ro ri rv h
 obtain⟨p,xs,k,j,rfl,rfl,hp,hj,q⟩:=h
 cases ro
 obtain⟨t,rfl⟩:=ri
 obtain⟨its,n,r,ho,hz⟩:=I.lst hp
 obtain⟨h1,h2,h3,h4⟩:=UL hj
 have hl:=r.length
 have hn:=N4
 have I':Inv X pins σ (upd H p (.lst (xs.set j v))) {s with heap:=s.heap.update p (tY (·.setIfInBounds j u))}:=
  I.bq hp ho (Rr its n j u) (r.set rv j) (by rw[uS];exact hz) s.toks
 by_cases h0:0<=k
 .have hk:k.toNat=j:=by
   rw[seqIndex_of h0 h4]at h1
   exact sL h1
  exact PySem.W.ki_setAt ho h0 (by lia) (by rw[qr,<-hl];exact h4) (by rw[hk];exact⟨_,I',q⟩)
 .have hk:(k+(its.toArray.size:Int)).toNat=j:=by
   rw[seqIndex_neg (by lia) h3]at h1
   rw[qr,<-hl]
   exact sL h1
  exact PySem.W.ki_setBack ho (by lia) (by rw[qr,<-hl];exact h3) (by lia) (by rw[hk];exact⟨_,I',q⟩)
theorem OM(lo hi:qY Int)(n:Nat):(sliceBounds lo hi none n).1=((HT.sIx n 0 lo:Nat):Int)/\(sliceBounds lo hi none n).2.1=((HT.sIx n n hi:Nat):Int)/\(sliceBounds lo hi none n).2.2=1:=by
 refine⟨?_,?_,rfl⟩
 .cases lo with
  |none=>simp[sliceBounds,HT.sIx]
  |some i=>
   simp only[sliceBounds,HT.sIx,Option.getD_none,show(1:Int)>0 by decide,wW]
   by_cases h:i<0
   .simp only[h,wW]<;>lia
   .simp only[h,v8]<;>lia
 .cases hi with
  |none=>simp[sliceBounds,HT.sIx]
  |some i=>
   simp only[sliceBounds,HT.sIx,Option.getD_none,show(1:Int)>0 by decide,wW]
   by_cases h:i<0
   .simp only[h,wW]<;>lia
   .simp only[h,v8]<;>lia
theorem NC(its:Wp qT)(lo hi:qY Int):slicePick its.toArray lo hi none=((its.drop (HT.sIx its.length 0 lo)).take (HT.sIx its.length its.length hi-HT.sIx its.length 0 lo)).toArray:=by
 obtain⟨h1,h2,h3⟩:=OM lo hi its.toArray.size
 unfold slicePick
 rw[h1,h2,h3]
 simp only[sliceRange_one,pick_run,qr]<;>rfl
def nh(K:qS):V->qY Int->qY Int->Hp->VK->Prop:=λx lo hi H Q=>∃a xs,x=.ref a/\SqL K H a xs/\∀p,H p=none->Q (.ref p) (upd H p (.lst (YU xs lo hi)))
theorem Zq:SlR X (nh X.K):=by
 intro pins s σ H x v vl vu lo hi sl Q I rx hs pl pu h
 obtain⟨a,xs,rfl,hx,q⟩:=h
 cases rx
 obtain⟨its,r,ht,hz⟩:=I.list hx
 have hlen:=r.length
 refine⟨"list",_,slot_list_getitem.lookup,ht.isList.typeIs,?_⟩
 refine wpAny_getItem_list_slice ht.isList hs pl pu .none (by simp) ?_ (by rw[qr]<;>lia)
 rw[NC,<-hlen]
 refine⟨.ref s.heap.objs.size,_,I.laid (t':=s.toks) (o:=.lst (YU xs lo hi)) (λb ob q=>qU _ q) (qg _) ?_,rfl,q _ (I.hok.fresh (qg _))⟩
 exact⟨qh (LW xs lo hi) hz,_,0,(r.drop (HT.sIx xs.length 0 lo)).take (HT.sIx xs.length xs.length hi-HT.sIx xs.length 0 lo),qk _ rfl⟩
noncomputable def Ll:V->rR
 | .non=>true
 | .bl _=>true
 | .int _=>true
 | .str _=>true
 |_=>false
noncomputable def eqV:V->V->rR
 | .non,.non=>true
 | .bl a,.bl b=>a==b
 | .bl a,.int b=>(if a then 1 else 0)==b
 | .int a,.bl b=>a==(if b then 1 else 0)
 | .int a,.int b=>a==b
 | .str a,.str b=>a==b
 |_,_=>false
theorem cK{A:rS}{s:qX}{y x:V}{u v:qT}(ry:RelV y u)(rx:RelV x v)(fy:Ll y=true)(fx:Ll x=true):SeqAt.EqAt A s u v (eqV y x):=by
 cases y with
 |non=>
  cases ry
  cases x with
  |non=>cases rx;exact SeqAt.EqAt.same _
  |bl b=>cases rx;exact SeqAt.EqAt.none_bool b
  |int b=>obtain⟨t,rfl⟩:=rx;exact SeqAt.EqAt.none_int b t
  |str b=>obtain⟨t,rfl⟩:=rx;exact SeqAt.EqAt.none_str b t
  |_=>exact absurd (show false=true from fx) sC
 |bl a=>
  cases ry
  cases x with
  |non=>cases rx;exact SeqAt.EqAt.bool_none a
  |bl b=>cases rx;exact SeqAt.EqAt.bool_bool a b
  |int b=>obtain⟨t,rfl⟩:=rx;exact SeqAt.EqAt.bool_int a b t
  |str b=>obtain⟨t,rfl⟩:=rx;exact SeqAt.EqAt.bool_str a b t
  |_=>exact absurd (show false=true from fx) sC
 |int a=>
  obtain⟨t',rfl⟩:=ry
  cases x with
  |non=>cases rx;exact SeqAt.EqAt.int_none a t'
  |bl b=>cases rx;exact SeqAt.EqAt.int_bool a t' b
  |int b=>obtain⟨t,rfl⟩:=rx;exact AAR a t' b t
  |str b=>obtain⟨t,rfl⟩:=rx;exact AAL a t' b t
  |_=>exact absurd (show false=true from fx) sC
 |str a=>
  obtain⟨t',rfl⟩:=ry
  cases x with
  |non=>cases rx;exact SeqAt.EqAt.str_none a t'
  |bl b=>cases rx;exact SeqAt.EqAt.str_bool a t' b
  |int b=>obtain⟨t,rfl⟩:=rx;exact AAM a t' b t
  |str b=>obtain⟨t,rfl⟩:=rx;exact SeqAt.EqAt.str_str a t' b t
  |_=>exact absurd (show false=true from fx) sC
 |_=>exact absurd (show false=true from fy) sC
noncomputable def eqU(x:V)(u:qT):rR:=match u with
 | .none=>eqV .non x
 | .bool b=>eqV (.bl b) x
 | .int i _=>eqV (.int i) x
 | .str z _=>eqV (.str z) x
 |_=>false
theorem YF{x y:V}{u:qT}(r:RelV y u)(f:Ll y=true):eqU x u=eqV y x:=by
 cases y with
 |non=>cases r;rfl
 |bl b=>cases r;rfl
 |int i=>obtain⟨t,rfl⟩:=r;rfl
 |str z=>obtain⟨t,rfl⟩:=r;rfl
 |_=>exact absurd (show false=true from f) sC
theorem Lb{x:V}:∀{xs:Wp V} {us:Wp qT},Vals xs us->xs.all Ll=true->us.any (eqU x)=xs.any λy=>eqV y x
 |_,_,.nil,_=>rfl
 |y::xs,u::us,.cons r t,f=>by
  rw[vt,qt]at f
  rw[uy,uy,YF r f.1,Lb t f.2]
theorem Iu{A:rS}{s:qX}{x:V}{v:qT}(rx:RelV x v)(fx:Ll x=true):∀{xs:Wp V} {us:Wp qT},Vals xs us->xs.all Ll=true->∀u∈us,SeqAt.EqAt A s u v (eqU x u)
 |_,_,.nil,_=>λu hu=>by cases hu
 |y::xs,u::us,.cons r t,f=>λu' hu=>by
  rw[vt,qt]at f
  rcases qj.mp hu with rfl|hu
  .rw[YF r f.1];exact cK r rx f.1 fx
  .exact Iu rx fx t f.2 u' hu
noncomputable def inV(x:V)(xs:Wp V):rR:=xs.any λy=>eqV y x
noncomputable def rIn(K:qS)(neg:rR):R2:=λx y H Q=>∃p xs,y=.ref p/\(SqL K H p xs\/SqT K H p xs)/\Ll x=true/\xs.all Ll=true/\Q (.bl (if neg then !inV x xs else inV x xs)) H
theorem VM:OpR X (compareOp .In) (rIn X.K false):=by
 intro pins s σ H x y v u Q I rx ry h
 obtain⟨p,xs,rfl,hq,fx,fs,q⟩:=h
 cases ry
 rcases hq with hq|hq
 .obtain⟨its,r,pl,hz⟩:=I.list hq
  refine SeqAt.in_listAt (eqU x) pl.isList (λw hw=>Iu rx fx r fs w (by simpa using hw)) ⟨.bl _,H,I,rfl,?_⟩
  rw[show its.toArray.any (eqU x)=its.any (eqU x) by simp,Lb r fs]
  exact q
 .obtain⟨its,r,pl,hz⟩:=I.tuple hq
  refine SeqAt.in_tupleAt (eqU x) pl (λw hw=>Iu rx fx r fs w (by simpa using hw)) ⟨.bl _,H,I,rfl,?_⟩
  rw[show its.toArray.any (eqU x)=its.any (eqU x) by simp,Lb r fs]
  exact q
theorem Od:OpR X (compareOp .NotIn) (rIn X.K true):=by
 intro pins s σ H x y v u Q I rx ry h
 obtain⟨p,xs,rfl,hq,fx,fs,q⟩:=h
 cases ry
 rcases hq with hq|hq
 .obtain⟨its,r,pl,hz⟩:=I.list hq
  refine SeqAt.notIn_listAt (eqU x) pl.isList (λw hw=>Iu rx fx r fs w (by simpa using hw)) ⟨.bl _,H,I,rfl,?_⟩
  rw[show its.toArray.any (eqU x)=its.any (eqU x) by simp,Lb r fs]
  exact q
 .obtain⟨its,r,pl,hz⟩:=I.tuple hq
  refine SeqAt.notIn_tupleAt (eqU x) pl (λw hw=>Iu rx fx r fs w (by simpa using hw)) ⟨.bl _,H,I,rfl,?_⟩
  rw[show its.toArray.any (eqU x)=its.any (eqU x) by simp,Lb r fs]
  exact q
theorem O9:Cj X (.builtin "len") (λxs H Q=>∃p ys,xs=[.ref p]/\(SqL X.K H p ys\/SqT X.K H p ys)/\Q (.int ys.length) H):=by
 intro pins s σ H xs us Q I r h
 obtain⟨p,ys,rfl,hq,q⟩:=h
 obtain⟨u,rfl,rx⟩:=vals1 r
 cases rx
 have hn:=N4
 rcases hq with hq|hq
 .obtain⟨its,r',pl,hz⟩:=I.list hq
  have hlen:=r'.length
  exact Calls.call_len_list pl.isList (by simp only[qr]<;>lia) ⟨.int ys.length,H,I.tok _,⟨s.toks+1,by rw[qr,hlen]⟩,q⟩
 .obtain⟨its,r',pl,hz⟩:=I.tuple hq
  have hlen:=r'.length
  exact len_tuple pl (by simp only[qr]<;>lia) ⟨.int ys.length,H,I.tok _,⟨s.toks+1,by rw[qr,hlen]⟩,q⟩
theorem O4:Cj X (.builtin "len") (λxs H Q=>∃z,xs=[.str z]/\z.length<=sizeLine/\Q (.int z.length) H):=by
 intro pins s σ H xs us Q I r h
 obtain⟨z,rfl,hz,q⟩:=h
 obtain⟨u,rfl,t,rfl⟩:=vals1 r
 have hn:=N4
 exact len_str (by lia) ⟨.int z.length,H,I.tok _,⟨_,rfl⟩,q⟩
theorem N7:Cj X (.type "list") (λxs H Q=>∃p ys,xs=[.ref p]/\(SqL X.K H p ys\/SqT X.K H p ys)/\∀l,H l=none->Q (.ref l) (upd H l (.lst ys))):=by
 intro pins s σ H xs us Q I r h
 obtain⟨p,ys,rfl,hq,q⟩:=h
 obtain⟨u,rfl,rx⟩:=vals1 r
 cases rx
 have fin:∀(its:Wp qT),Vals ys its->ys.length<=sizeLine->∀(h':rT) (c':Nat),(∀b o',s.heap.get? b=Gc o'->h'.get? b=Gc o')->
   h'.get? s.heap.objs.size=Gc {cls:=.type "list",dict:=none,data:=.seq its.toArray c',slots:= #[]}->EP X pins σ Q (.ref s.heap.objs.size) {s with heap:=h'}:=λits r' hz h' c' kp e=>
  ⟨.ref s.heap.objs.size,_,I.laid (t':=s.toks) kp (qg _) (show Cv X.prog X.w _ h' _ (.lst ys)from⟨hz,its,c',r',e⟩),rfl,q _ (I.hok.fresh (qg _))⟩
 rcases hq with hq|hq
 .obtain⟨its,r',pl,hz⟩:=I.list hq
  have hlen:=r'.length
  obtain⟨o,ho,hc,n,hd⟩:=pl.isList
  exact call_list_seq p (.inl rfl) ho hc hd (λh' c' kp e=>fin its r' hz h' c' kp e) (by simp only[qr]<;>lia)
 .obtain⟨its,r',pl,hz⟩:=I.tuple hq
  have hlen:=r'.length
  obtain⟨o,ho,hc,n,hd⟩:=pl
  exact call_list_seq p (.inr rfl) ho hc hd (λh' c' kp e=>fin its r' hz h' c' kp e) (by simp only[qr]<;>lia)
theorem Nt:Cj X (.type "tuple") (λxs H Q=>∃p ys,xs=[.ref p]/\((SqL X.K H p ys/\∀l,H l=none->Q (.ref l) (upd H l (.tup ys)))\/(SqT X.K H p ys/\Q (.ref p) H))):=by
 intro pins s σ H xs us Q I r h
 obtain⟨p,ys,rfl,h⟩:=h
 obtain⟨u,rfl,rx⟩:=vals1 r
 cases rx
 rcases h with⟨hq,q⟩|⟨hq,q⟩
 .obtain⟨its,r',pl,hz⟩:=I.list hq
  have hlen:=r'.length
  refine call_tuple_list pl.isList (λh' kp=>?_) (by simp only[qr]<;>lia)
  have I1:Inv X pins σ H {s with heap:=h'}:=I.kept (t':=s.toks) kp
  have I2:Inv X pins σ (upd H h'.objs.size (.tup ys)) {s with heap:=h'.push {cls:=.type "tuple",data:=.seq its.toArray}}:=
   I1.laid (t':=s.toks) (λb o e=>qU _ e) (qg _) (show Cv X.prog X.w _ _ _ (.tup ys)from⟨hz,its,r',wL _ _⟩)
  exact⟨.ref h'.objs.size,_,I2,rfl,q _ (I1.hok.fresh (qg _))⟩
 .obtain⟨its,r',pl,hz⟩:=I.tuple hq
  exact call_tuple_same pl ⟨.ref p,H,I,rfl,q⟩
def tyV(K:qS)(T:uO)(x:V)(H:Hp):Prop:=match x with
 | .str _=>T="str"
 | .int _=>T="int"
 | .ref p=>(T="list" /\∃xs,SqL K H p xs)\/(T="tuple" /\∃o,K.lookup p=Gc o/\o.cls=.type "tuple" /\o.dict=none)∨
    (T="dict" /\((∃kvs,H p=Gc (.dK kvs))\/∃kvs,H p=Gc (.dT kvs)))\/(T="set" /\∃S n,H p=Gc (.set S n))
 |_=>uP
theorem dC{pins:Wp (qb×Obj)}{σ:St}{H:Hp}{s:qX}{T:uO}{x:V}{v:qT}(I:Inv X pins σ H s)(r:RelV x v)(ty:tyV X.K T x H):s.TypeIs v T/\∀a,v=.ref a->∃ob,s.heap.get? a=Gc ob/\ob.dict=none:=by
 cases x with
 |str z=>
  obtain⟨t,rfl⟩:=r
  cases (show T="str" from ty)
  exact⟨zB s z t,λ_ e=>nomatch e⟩
 |int i=>
  obtain⟨t,rfl⟩:=r
  cases (show T="int" from ty)
  exact⟨xK s i t,λ_ e=>nomatch e⟩
 |ref p=>
  cases r
  rcases ty with⟨rfl,xs,hq⟩|⟨rfl,o,hk,hc,hd⟩|⟨rfl,hk⟩|⟨rfl,S,n,hk⟩
  .obtain⟨its,_,pl,_⟩:=I.list hq
   refine⟨pl.isList.typeIs,λa e=>?_⟩
   cases e
   obtain⟨o,n,e,c,hd,_⟩:=pl
   exact⟨o,e,hd⟩
  .refine⟨⟨o,I.kIn p o hk,hc⟩,λa e=>?_⟩
   cases e
   exact⟨o,I.kIn _ o hk,hd⟩
  .have z:∃o,s.heap.get? p=Gc o/\o.ExactDict:=by
    rcases hk with⟨kvs,hk⟩|⟨kvs,hk⟩
    .obtain⟨_,_,_,_,o,_,_,e,ex,_⟩:=I.hok p _ hk
     exact⟨o,e,ex⟩
    .obtain⟨_,_,_,_,o,_,_,e,ex,_⟩:=I.hok p _ hk
     exact⟨o,e,ex⟩
   obtain⟨o,e,ex⟩:=z
   refine⟨⟨o,e,ex.1⟩,λa e2=>?_⟩
   cases e2
   exact⟨o,e,ex.2.1⟩
  .obtain⟨o,_,_,_,e,ex,_⟩:=I.hok p _ hk
   refine⟨⟨o,e,ex.1⟩,λa e2=>?_⟩
   cases e2
   exact⟨o,e,ex.2.1⟩
 |_=>exact uj ty
noncomputable def tBM(K:qS)(T:uO)(r:V->Wp V->Hp->VK->Prop)(to:TE)(t:TA):TE:=λσ H Q=>to σ H λx H1=>tyV K T x H1/\t σ H1 λxs H2=>r x xs H2 Q
variable{o e:rJ}{es:Wp rJ}{to:TE}{t:TA}{name:Str}{apos cpos:Pos}{T id:uO}{r:V->Wp V->Hp->VK->Prop}
theorem kU(pa:PlainAttrs T)(slot:Slot T name id)(hty:typeOf (.builtin id)=pure (.type "method_descriptor"))(hm:MtR X id r)(ho:PE X o to)(ha:PA X (e::es) t)(hbase:attributeBase o name X.env (eval o X.env)=eval o X.env:=by rfl)(hfew:((backTo cpos (rB (e::es) X.env)).all (λx=> !x.1) && (backToKw cpos (keywordEach [] X.env)).all (λx=>x.1.isSome) && decide ((e::es).length+([]:Wp yS).length+(if([]:Wp yS).isEmpty then 0 else 1)<30))=true:=by rfl)(hline:(apos.endLine==cpos.line)=true:=by rfl)(hs:rB (e::es) X.env=(false,eval e X.env)::rB es X.env:=by rfl)(hplain:(backTo cpos (rB es X.env)).any (·.1)=false:=by rfl):PE X (.Call (.Attribute o name apos) (e::es) [] cpos) (tBM X.K T r to t):=by
 intro pins s σ H Q I h
 refine wpAny_Call_method_late hbase hfew hline rfl (thn (ho pins s σ H _ I h) λv s1 ⟨x,H1,I1,r1,ty,q1⟩=>?_)
 obtain⟨h1,h2⟩:=dC I1 r1 ty
 refine⟨T,id,pa,slot,hty,h1,h2,?_⟩
 have hA:=ha cpos pins s1 σ H1 _ I1 q1
 rw[hs]at hA⊢
 refine zC (by show(false||(backTo cpos (rB es X.env)).any (·.1))=false;rw[hplain]<;>rfl) (xV ?_)
 exact thn hA λus s2 ⟨vs,H2,I2,r2,q2⟩=>hm pins s2 σ H2 x vs v us Q I2 r1 r2 q2
end
end L2
namespace L2
open PySem PySem.Spec PyProof.Rows
def MtM(X:Cx)(id:uO)(r:V->Wp V->Hp->VK->Prop):Prop:=
 ∀(pins:Wp (qb×Obj)) (s:qX) (σ:St) (H:Hp) (x:V) (xs:Wp V) (v:qT) (us:Wp qT) (Q:VK),Inv X pins σ H s->RelV x v->Vals xs us->r x xs H Q->
  wpAny (model X.prog X.w) X.A (call (.builtin id) (v::us)) (EP X pins σ Q) X.xe s
theorem Vals.one:∀{x:V} {us:Wp qT},Vals [x] us->∃u,us=[u]/\RelV x u:=λh=>by
 cases h with
 |cons r t=>cases t;exact⟨_,rfl,r⟩
theorem Vals.two:∀{x y:V} {us:Wp qT},Vals [x,y] us->∃u v,us=[u,v]/\RelV x u/\RelV y v:=λh=>by
 cases h with
 |cons r t=>
  cases t with
  |cons q t=>cases t;exact⟨_,_,rfl,r,q⟩
theorem Vals.rep{xs:Wp V}{us:Wp qT}(h:Vals xs us):∀k:Nat,Vals (qz k xs).flatten (qz k us).flatten
 |0=>.nil
 |k+1=>by
  rw[uG,uG,vN,vN]
  exact Vals.append h (Vals.rep h k)
theorem foldl_rep(its:Wp qT):∀(k:Nat) (acc:Wp qT),AAT (λx1 x2=>x1++x2) acc.toArray (qz k its.toArray)=(acc++(qz k its).flatten).toArray
 |0,acc=>by simp
 |k+1,acc=>by
  have e:acc.toArray++its.toArray=(acc++its).toArray:=by simp
  have e2:(acc++its)++(qz k its).flatten=acc++(qz (k+1) its).flatten:=by
   rw[uG,vN,vO]
  rw[<-e2,<-foldl_rep its k (acc++its),<-e,uG,zP]
section
variable{X:Cx}{pins:Wp (qb×Obj)}{σ:St}{H:Hp}{s:qX}{l b:qb}{xs ys zs:Wp V}
theorem Inv.k6{its its':Wp qT}{n:Nat}{f:rP qT->rP qT}{t':Nat}(I:Inv X pins σ H s)(hH:H l=Gc (.lst xs))(e:s.heap.get? l=Gc {cls:=.type "list",data:=.seq its.toArray n})(hf:f its.toArray=its'.toArray)(hv:Vals ys its')(hz:ys.length<=sizeLine):Inv X pins σ (upd H l (.lst ys)) {s with heap:=s.heap.update l (tY f),toks:=t'}:=by
 have q:=PySem.IsL.update e f
 rw[hf]at q
 refine I.write (x:=l) (e:=l) (by rw[hH];exact trivial) (.inl rfl) (λb' u hb hu=>(rE s.heap (tY f) (rh hb)).trans hu) ⟨_,q⟩ ?_
 exact⟨hz,its',_,hv,q⟩
theorem Inv.md{its:Wp qT}{t':Nat}(I:Inv X pins σ H s)(hv:Vals ys its)(hz:ys.length<=sizeLine):Inv X pins σ (upd H s.heap.objs.size (.lst ys)) {s with heap:=s.heap.push {cls:=.type "list",data:=.seq its.toArray},toks:=t'}:=
 I.laid (λ_ _ q=>qU _ q) (qg _) ⟨hz,its,0,hv,qk _ rfl⟩
theorem Inv.fresh(I:Inv X pins σ H s):H s.heap.objs.size=none:=I.hok.fresh (qg _)
theorem Inv.Yk(I:Inv X pins σ H s)(hH:H l=Gc (.lst xs)):xs.length<=sizeLine/\∃(its:Wp qT) (n:Nat),Vals xs its/\xs.length=its.length/\s.heap.get? l=Gc {cls:=.type "list",data:=.seq its.toArray n}:=by
 obtain⟨z,its,n,r,e⟩:=I.hok l _ hH
 exact⟨z,its,n,r,r.length,e⟩
theorem Na{n:Nat}(h:n<=sizeLine):uI n=false:=by
 unfold uI
 exact t9 (by lia)
end
section
variable{X:Cx}
def Z6:V->Wp V->Hp->VK->Prop:=λx vs H Q=>∃l xs y,x=.ref l/\vs=[y]/\H l=Gc (.lst xs)/\xs.length<sizeLine/\Q .non (upd H l (.lst (xs++[y])))
theorem OQ:MtM X "list.append" Z6:=by
 intro pins s σ H x vs v us Q I rx rv h
 obtain⟨l,xs,y,rfl,rfl,hH,hz,q⟩:=h
 cases rx
 obtain⟨u,rfl,ru⟩:=rv.one
 obtain⟨z,its,n,r,hl,e⟩:=I.Yk hH
 refine xM sv ⟨_,e,rfl⟩ F.entry_list_append (F.args_list_append_2 _ _) (PySem.list_append l its.toArray n u (by rw[qr];lia)) ⟨e,?_⟩
 refine⟨.non,_,I.k6 (its':=its++[u]) hH e (by simp) (r.append (.cons ru .nil)) ?_,rfl,q⟩
 rw[rZ,zX]
 lia
def ZG:V->Wp V->Hp->VK->Prop:=λx vs H Q=>∃l b xs zs,x=.ref l/\vs=[.ref b]/\H l=Gc (.lst xs)/\H b=Gc (.lst zs)/\xs.length+zs.length<=sizeLine/\Q .non (upd H l (.lst (xs++zs)))
theorem Vp:MtM X "list.extend" ZG:=by
 intro pins s σ H x vs v us Q I rx rv h
 obtain⟨l,b,xs,zs,rfl,rfl,hH,hB,hz,q⟩:=h
 cases rx
 obtain⟨u,rfl,ru⟩:=rv.one
 cases ru
 obtain⟨z,its,n,r,hl,e⟩:=I.Yk hH
 obtain⟨z2,its2,n2,r2,hl2,e2⟩:=I.Yk hB
 have hsz:its.toArray.size+its2.toArray.size<=sizeLine:=by rw[qr,qr];lia
 have hlong:¬(!its.toArray.isEmpty && uI (its.toArray.size+its2.toArray.size))=true:=by
  rw[Na hsz,Bool.and_false]
  exact sC
 refine xM AAU ⟨_,e,rfl⟩ AAB (zh _ _)
  (AutoSeq1.list_extend_list_list_0 l its.toArray n b its2.toArray n2 hlong (by rw[qr];lia) (by lia)) ⟨e,e2,?_⟩
 refine⟨.non,_,I.k6 (its':=its++its2) hH e (by simp) (r.append r2) ?_,rfl,q⟩
 rw[rZ]
 lia
noncomputable def ox:R2:=λx y H Q=>∃l b xs zs,x=.ref l/\y=.ref b/\H l=Gc (.lst xs)/\H b=Gc (.lst zs)/\xs.length+zs.length<=sizeLine/\∀p,H p=none->Q (.ref p) (upd H p (.lst (xs++zs)))
theorem fI:OpR X (binaryOp .Add) ox:=by
 intro pins s σ H x y v u Q I rx ry h
 obtain⟨l,b,xs,zs,rfl,rfl,hH,hB,hz,q⟩:=h
 cases rx
 cases ry
 obtain⟨z,its,n,r,hl,e⟩:=I.Yk hH
 obtain⟨z2,its2,n2,r2,hl2,e2⟩:=I.Yk hB
 refine PySem.P.add_list e e2 ?_ (by rw[qr,qr];lia)
 have ea:its.toArray++its2.toArray=(its++its2).toArray:=by simp
 rw[ea]
 exact⟨.ref _,_,I.md (t':=s.toks) (r.append r2) (by rw[rZ];lia),rfl,q _ I.fresh⟩
noncomputable def oK:R2:=λx y H Q=>∃l k xs,x=.ref l/\y=.int k/\H l=Gc (.lst xs)/\ -(2^63)<=k/\k<2^63/\xs.length*k.toNat<=sizeLine/\
 ∀p,H p=none->Q (.ref p) (upd H p (.lst (qz k.toNat xs).flatten))
theorem len_rep{α:Type}(xs:Wp α)(k:Nat):(qz k xs).flatten.length=k*xs.length:=by
 induction k with
 |zero=>simp
 |succ k ih=>rw[uG,vN,rZ,ih,Nat.succ_mul,Nat.add_comm]
theorem cC:OpR X (binaryOp .Mult) oK:=by
 intro pins s σ H x y v u Q I rx ry h
 obtain⟨l,k,xs,rfl,rfl,hH,h1,h2,hz,q⟩:=h
 cases rx
 obtain⟨t,rfl⟩:=ry
 obtain⟨z,its,n,r,hl,e⟩:=I.Yk hH
 have hlen:its.toArray.size*k.toNat<=sizeLine:=by rw[qr,<-hl];exact hz
 have hcap:¬its.toArray.size*k.toNat>(2^63-1) / 8:=by
  have:(sizeLine:Nat)<=(2^63-1) / 8:=by decide
  lia
 have hfit:¬(!Builtin.List.listFitsIndex k)=true:=by
  rw[fitsIndex_both h1 h2]
  exact sC
 have hlong:¬uI (its.toArray.size*k.toNat)=true:=by
  rw[Na hlen]
  exact sC
 have hnew:AAT (λx1 x2=>x1++x2) #[] (qz (if its.toArray.isEmpty=true then 0 else k.toNat) its.toArray)=(qz k.toNat its).flatten.toArray:=by
  have f0:∀m:Nat,AAT (λx1 x2=>x1++x2) #[] (qz m its.toArray)=(qz m its).flatten.toArray:=λm=>by
   have:=foldl_rep its m []
   rw[sF]at this
   exact this
  rw[f0]
  cases its with
  |nil=>simp
  |cons a r'=>rw[rA (by simp)]
 refine wJ (T:="list") (U:="int") (by decide) ⟨_,e,rfl⟩ (λs'=>xK s' k t) noFill_list_mul zQ vp repeat_list yt.lookup
  (xM vp (xK s k t) yu (yU _ _) (int___rmul___int_list k t l its.toArray n)
    ⟨e,rfl,⟨_,e,rfl⟩,xM F.slot_list_mul ⟨_,e,rfl⟩ F.entry_list_mul (F.args_list_mul_2 _ _) (AutoListH.list___mul___list_int_3 l its.toArray n k t hfit hcap hlong) ⟨e,?_⟩⟩)
 rw[hnew]
 exact⟨.ref _,_,I.md (t':=s.toks) (r.rep k.toNat) (by rw[len_rep,ve];exact hz),rfl,q _ I.fresh⟩
end
section
variable{prog:rF}{w:rX}{A:rS}{E:qT->qX->Prop}{s:qX}
end
section
variable{X:Cx}
end
end L2
namespace Att
open PySem PySem.W PySem.Calls PyProof.Rows
theorem ints_of_wellAll{P:Params}{h:rT}:∀(ns:Wp Int) (vs:Wp qT),WellAll P h vs (ns.map WData.int)->sX vs ns:=by
 intro ns
 induction ns with
 |nil=>
  intro vs w
  rw[uC]at w
  cases w
  exact .nil
 |cons n ns ih=>
  intro vs w
  rw[rD]at w
  cases w with
  |cons a b=>
   cases a
   exact .cons _ _ (ih _ b)
theorem script_of{l:xW}{n:Nat}(hn:l.most=Gc n){P:Params}{h:rT}{args:Wp WData}{vals:Wp qT}(hpre:l.row.toRowW.claim.pre args=true)(hwl:WellAll P h vals args):∃a vs ns,vals=[rY a]/\args=[WData.list (ns.map WData.int)]/\h.get? a=Gc {cls:=.type "list",data:=.seq vs.toArray}/\sX vs ns/\ns.length<=n:=by
 have hsh:WShape.hasAll [] args [.list .int]=true:=(pre_splitW hpre).1
 have hc:l.pre.holds [] {args:=args}=true:=(pre_splitW hpre).2
 obtain⟨d,r,rfl,h1,h2⟩:=hasAllW_cons hsh
 obtain rfl:=hasAllW_nil h2
 obtain⟨xs,rfl,h3⟩:=hasW_list h1
 obtain⟨ns,rfl⟩:=items_int h3
 have hlen:ns.length<=n:=by
  unfold OpenLaw.pre at hc
  have h4:(WTm.not (.lt (.lit (.int (n:Int))) (.len (.arg 0)))).holds [] {args:=[.list (ns.map .int)]}=true:=by
   have h4:=(holds_andW hc).1
   rw[hn]at h4
   exact h4
  have h5:=condW_of h4 (w_not (w_lt w_lit (w_len_list (w_arg rfl))))
  rw[qy]at h5
  refine Nat.le_of_not_lt λq=>?_
  have q':(n:Int)<((ns.length:Nat):Int):=by lia
  first
   |(rw[sZ q']at h5;exact absurd h5 (by decide))
   |(simp at h5;lia)
 cases hwl with
 |cons w1 w2=>
  cases w2
  cases w1 with
  |list ho hall=>exact⟨_,_,ns,rfl,rfl,ho,ints_of_wellAll ns _ hall,hlen⟩
theorem post_true(l:xW)(args:Wp WData):l.row.toRowW.claim.post args (.bool true) args=true:=
 postW_of (r:=l.row.toRowW) (X:=(true==true))
  (show WShape.has [] (.bool true) .bool=true by first|rfl|decide|simp[WShape.has,WShape.arms,WShape.armsAll])
  (show(WTm.eq .res (.lit (.bool true))).value [] {args:=args,res:=Gc (.bool true),after:=args}=Gc (.bool (true==true))from w_eq_bool (w_res rfl) w_lit) rfl
theorem attach_call{l:xW}{n:Nat}{q:rF}{loose:Wp Str}{XP:(Str->qY qT)->rT->Prop}{YP:rX->rT->Prop}{d:DefRec}(hn:l.most=Gc n)(hdf:d.params.defaults=[])(call:∀(w:rX) (s₀ s₁:qX) (mg mb:Str->qY qT) (fa:qb) (o:Obj) (pm cd doc:qT) (a:qb) (vs:Wp qT) (ns:Wp Int),Ground q loose [] XP w s₀ mg mb s₁.heap->YP w s₁.heap->s₁.heap.get? fa=Gc o->o.data=.func (docDef d.name d.params d.body d.scope pm cd doc)->s₁.heap.CodeRec cd d.name->mg d.name=Gc (.ref fa)->s₁.heap.get? a=Gc {cls:=.type "list",data:=.seq vs.toArray}->sX vs ns->ns.length<=n->s₁.gens= #[]->codeAny (model l.prog w) callerA (.call (.ref fa) ⟨[.ref a],[]⟩) (λr s'=>r=.ok (.ret (.bool true))/\OldK s₁.heap s'.heap/\s'.os=s₁.os/\wc s'.gens) s₁):WalkO q loose XP YP l.row.toRowW d [] (λf vs=>PySem.call f vs):=by
 intro w s₀ s₁ mg mb G Y fa o pm cd doc dV kV ho hd hcd hD hmg hg args vals as hpre hlay hrd hwl hlo
 obtain rfl:dV=.none:=Dflts.none hD hdf
 obtain rfl:kV=.none:=Dflts.noKw hD
 obtain⟨a,vs,ns,rfl,rfl,hobj,hints,hlen⟩:=script_of hn hpre hwl
 refine enter_call (wt (call w s₀ s₁ mg mb fa o pm cd doc a vs ns G Y ho (fd_plain hd) hcd hmg hobj hints hlen hg) λr s' hq=>?_)
 obtain⟨rfl,h2,h3,h4⟩:=hq
 exact⟨.inl ⟨.bool true,.bool true,[],rfl,λ_=>rfl,.bool true,post_true l _,λ_=>⟨yV,λ_ hm=>(nomatch hm)⟩⟩,h2,h3,h4⟩
section
variable{prog:rF}{w:rX}{A:rS}{E:qT->qX->Prop}{s:qX}{K:qS}
end
end Att
namespace L2
open PySem PySem.Spec PyProof.Rows
theorem OF:∀{vs:Wp qT} {ns:Wp Int},sX vs ns->Vals (ns.map V.int) vs
 |_,_,.nil=>.nil
 |_,_,.cons n t h=>.cons ⟨t,rfl⟩ (OF h)
def j5(H:Hp):Prop:=∀b,H b=none\/∃o xs,H b=Gc (.frz o (.lst xs))
theorem Wa{P:rF}{w:rX}{K:qS}{mg mb:Str->qY qT}{CX:CXT}{k:Nat}{fa a:qb}{fd:uU}{x:Str}{sp:Sp}{s₁:qX}{vs:Wp qT}{ns:Wp Int}(KX:K.In s₁.heap)(hns:s₁.heap.Ns mainGlobals mg)(hb:s₁.heap.Ns builtinsNs mb)(hbb:∀x:Str,x≠ "__name__"->mb x=bootBuiltins x)(hlim:s₁.heap.NoLimit)(hg:s₁.gens= #[])(ha:s₁.heap.get? a=Gc {cls:=.type "list",data:=.seq vs.toArray})(hi:sX vs ns)(hl:ns.length<=sizeLine)(hr:JE k callerA)(F:∀base:rT,K.In base->base.Ns mainGlobals mg->Nd P w K mg base CX k fa fd [x] sp)(hbind:∀(s:qX) (u:qT),BindsTo s fd ⟨[u],[]⟩ [(x,u)])(hsp:∀H:Hp,j5 H->SqL K H a (ns.map V.int)->sp [.ref a] H (λv _=>v=.bl true) λ_ _ _=>uP)(hCX:∀H e s',CX [] H s₁ (λ_ _ _=>uP) e s'->uP):codeAny (model P w) callerA (.call (.ref fa) ⟨[.ref a],[]⟩) (λr s'=>r=.ok (.ret (.bool true))/\OldK s₁.heap s'.heap/\s'.os=s₁.os/\wc s'.gens) s₁:=by
 have rv:=OF hi
 have lenV:=hi.length
 have core:∀H:Hp,j5 H->SqL K H a (ns.map V.int)->HOk P w H s₁.heap->(∀b,H b≠none->b=a)->(H a≠none->K.lookup a=none)->
   codeAny (model P w) callerA (.call (.ref fa) ⟨[.ref a],[]⟩) (λr s'=>r=.ok (.ret (.bool true))/\OldK s₁.heap s'.heap/\s'.os=s₁.os/\wc s'.gens) s₁:=by
  intro H hO hS hok hA hK
  have base_of:∀{b:qb} {o:Obj},s₁.heap.get? b=Gc o->H b=none->(XY s₁.heap H).get? b=Gc o:=λe n=>Xr e n
  have noA:∀{b:qb} {o:Obj} {es:rP DictEntry} {ep:Nat},s₁.heap.get? b=Gc o->o.data=.dict es ep->H b=none:=λ{b o es ep} e d=>by
   cases q:H b with
   |none=>rfl
   |some u=>
    have e':b=a:=hA b (by rw[q];simp)
    subst e'
    rw[ha]at e;cases e
    have d':Data.seq vs.toArray _=Data.dict es ep:=d
    cases d'
  have nsK:∀{b:qb} {m:Str->qY qT},s₁.heap.Ns b m->(XY s₁.heap H).Ns b m:=λ{b m} ⟨o,es,ep,e,d,r⟩=>⟨o,es,ep,base_of e (noA e d),d,r⟩
  have hKb:K.In (XY s₁.heap H):=λb o e=>base_of (KX b o e) (by
   cases q:H b with
   |none=>rfl
   |some u=>
    have e':b=a:=hA b (by rw[q];simp)
    subst e'
    rw[hK (by rw[q];simp)]at e;cases e)
  have hM:Mod K mg (XY s₁.heap H):=⟨hKb,nsK hns,⟨mb,nsK hb,hbb⟩,let⟨mc,h1,h2⟩:=hlim;⟨mc,nsK h1,h2⟩⟩
  have e0:iz P w K mg (XY s₁.heap H) callerA [] s₁ H:=⟨rfl,hM,λb o e=>Z4 e,Nat.le_of_eq (U7 _ _),trivial,λb hb=>absurd (show b∈([]:Wp qb)from hb) (by simp),hok,.of_eq hg⟩
  refine wt ((F _ hKb (nsK hns)).run callerA [] s₁ H ⟨[.ref a],[]⟩ [.ref a] [.ref a] _ _ hr e0 (hbind s₁ (.ref a)) (.cons rfl .nil) (hsp H hO hS)) λr s' h=>?_
  cases r with
  |error e=>exact(hCX H e s' h).elim
  |ok fl=>
   cases fl with
   |next=>exact uj h
   |brk=>exact uj h
   |cont=>exact uj h
   |ret u=>
    obtain⟨v,H',os,bare,un,hok',r',q⟩:=h
    have q':v=.bl true:=q
    subst q'
    obtain rfl:u=xv true:=r'
    refine⟨rfl,OldK.of_keep λb o e=>?_,os,bare⟩
    cases q:H b with
    |none=>exact un.keep b o e q (by intro z;exact absurd (show b∈([]:Wp qb)from z) (by simp)) (by simp)
    |some u=>
     rcases hO b with z|⟨ob,xs,z⟩
     .rw[q]at z;cases z
     .have z2:=un.V5 b ob _ z
      obtain⟨e1,_⟩:=hok b _ z
      obtain⟨e2,_⟩:=hok' b _ z2
      rw[e]at e1;cases e1
      exact e2
 cases hk:K.lookup a with
 |some o=>
  have e:=KX a o hk
  rw[ha]at e
  cases e
  refine core (λ_=>none) (λ_=>.inl rfl) (.inr ⟨_,vs.toArray,_,hk,rfl,rfl,rfl,by rw[qr,lenV];exact hl,by simpa using rv⟩) (λb u z=>by have z':(none:qY HO)=Gc u:=z;cases z') (λb z=>absurd rfl z) λz=>absurd rfl z
 |none=>
  refine core (λb=>if b=a then Gc (.frz {cls:=.type "list",data:=.seq vs.toArray} (.lst (ns.map V.int)))else none) (λb=>?_) (.inl (.inr ⟨{cls:=.type "list",data:=.seq vs.toArray},q9 rfl⟩)) (λb u z=>?_) (λb z=>?_) λ_=>hk
  .by_cases hb:b=a
   .exact .inr ⟨_,_,q9 hb⟩
   .exact .inl (rA hb)
  .by_cases hb:b=a
   .have z':=(q9 hb).symm.trans z
    cases z'
    subst hb
    exact⟨ha,by rw[qy];exact hl,vs,_,rv,ha⟩
   .have z':=(rA hb).symm.trans z
    cases z'
  .by_cases hb:b=a
   .exact hb
   .exact absurd (rA hb) z
end L2
namespace L2
open PySem PySem.Spec PyProof.Rows
abbrev KOf{K:qS}{h:rT}(_:K.In h):qS:=K
theorem aN{l:xW}{n k:Nat}{q:rF}{loose:Wp Str}{XP:(Str->qY qT)->rT->Prop}{YP:rX->rT->Prop}{d:DefRec}{K:Params->qS}{CX:rX->CXT}{sp:rX->Sp}{x:Str}(hn:l.most=Gc n)(hn2:n<=sizeLine)(hdf:d.params.defaults=[])(hr:JE k callerA)(hY:∀(w:rX) (h:rT),YP w h->(K w.params).In h)(F:∀(w:rX) (mg:Str->qY qT) (fa:qb) (h:rT),(K w.params).In h->h.Ns mainGlobals mg->mg d.name=Gc (.ref fa)->∃fd:uU,(∀(s:qX) (u:qT),BindsTo s fd ⟨[u],[]⟩ [(x,u)])/\∀base:rT,(K w.params).In base->base.Ns mainGlobals mg->Nd l.prog w (K w.params) mg base (CX w) k fa fd [x] (sp w))(hsp:∀(w:rX) (H:Hp) (a:qb) (ns:Wp Int),ns.length<=n->j5 H->SqL (K w.params) H a (ns.map V.int)->sp w [.ref a] H (λv _=>v=.bl true) λ_ _ _=>uP)(hCX:∀(w:rX) (H:Hp) (s:qX) (e:qT) (s':qX),CX w [] H s (λ_ _ _=>uP) e s'->uP):PySem.W.WalkO q loose XP YP l.row.toRowW d [] (λf vs=>PySem.call f vs):=by
 refine Att.attach_call hn hdf λw s₀ s₁ mg mb fa o pm cd doc a vs ns G Y ho hd hcd hmg hobj hints hlen hg=>?_
 have KX:=hY w _ Y
 obtain⟨fd,hb,hF⟩:=F w mg fa _ KX G.T.g hmg
 exact Wa KX G.T.g G.T.b G.T.builtins G.T.nolimit hg hobj hints (qh hlen hn2) hr hF hb (λH hO hS=>hsp w H a ns hlen hO hS) λH e s'=>hCX w H s₁ e s'
end L2
namespace L2
open PySem PySem.Spec PyProof.Rows
noncomputable def JG(s:sG):Arguments:=match s with
 | .FunctionDef _ a _ _ _ _ _ _ _ _=>a
 |_=>{posonlyargs:=[],args:=[],vararg:=none,kwonlyargs:=[],kw_defaults:=[],kwarg:=none,defaults:=[]}
noncomputable def C0(s:sG):Wp sG:=match s with
 | .FunctionDef _ _ b _ _ _ _ _ _ _=>b
 |_=>[]
noncomputable def AB(s:sG):uz:=match s with
 | .FunctionDef _ _ _ _ _ _ sc _ _ _=>sc
 |_=>{kind:=.function,names:=[],isGenerator:=false,isCoroutine:=false}
abbrev CX0:CXT:=λ_ _ _ _ _ _=>uP
abbrev E0:XK:=λ_ _ _=>uP
theorem lR{X:Cx}:Passes CX0 X E0:=λ_ _ _ _ _ _ _ h=>h.elim
structure Fun(K:qS)(x qual:Str)(st:sG)(f:qb)(fd:uU):Prop where
 ex:∃(oc:qT) (od:qY qb) (kV doc pm:qT) (an:qY qb) (cdv ct:qT) (osl:rP (qY qT)),
  fd=vc x qual (JG st) (C0 st) (AB st) .none kV doc pm an cdv ct/\K.lookup f=Gc ⟨oc,od,.func fd,osl⟩/\xy K cdv qual=true
 kp:ue K (.ref f)=true
section
variable{P:rF}{w:rX}{K:qS}{mg:Str->qY qT}{base:rT}
theorem Fun.ok{x qual:Str}{st:sG}{f:qb}{fd:uU}{N ps:Wp Str}{k:Nat}{sp:Sp}(F:Fun K x qual st f fd)(S:AM N ps (AB st))(len:∀vs H Q E,sp vs H Q E->vs.length=ps.length)(hbody:∀(cdv:qT) (A:rS) (outer:Wp Env) (s:qX) (H:Hp) (vs:Wp V) (Q:VK) (E:XK),JE k (A.deeper (envOfC qual (AB st) s.heap.objs.size f cdv))->sp vs H Q E->∃t,PSs (Qb CX0 P w K mg base N qual (AB st) f cdv A outer s H E).nox (C0 st) t/\t {nx:=λ_ H'=>Q .non H',rt:=Q} (start N vs) H):Nd P w K mg base CX0 (k+1) f fd ps sp:=by
 obtain⟨oc,od,kV,doc,pm,an,cdv,ct,osl,rfl,lk,hcd⟩:=F.ex
 refine cS lk hcd S len λA outer s H vs Q E hr hsp=>?_
 obtain⟨t,h,q⟩:=hbody cdv A outer s H vs Q E hr hsp
 exact⟨t,h.nox,q⟩
theorem Fun.binds{x qual:Str}{st:sG}{f:qb}{fd:uU}{ps:Wp Str}(F:Fun K x qual st f fd)(h:∀(kV doc pm:qT) (an:qY qb) (cdv ct:qT) (us:Wp qT),us.length=ps.length->bindArgs (vc x qual (JG st) (C0 st) (AB st) .none kV doc pm an cdv ct) ⟨us,[]⟩=pure (ps.zip us)):Binds K fd ps []:=by
 obtain⟨oc,od,kV,doc,pm,an,cdv,ct,osl,rfl,lk,hcd⟩:=F.ex
 exact .all (h kV doc pm an cdv ct)
theorem fL{x qual:Str}{st:sG}{f:qb}{oc:qT}{od an:qY qb}{osl:rP (qY qT)}{kV doc pm cdv ct:qT}(l:K.lookup f=Gc ⟨oc,od,.func (vc x qual (JG st) (C0 st) (AB st) .none kV doc pm an cdv ct),osl⟩)(c:xy K cdv qual=true)(k:ue K (.ref f)=true):Fun K x qual st f (vc x qual (JG st) (C0 st) (AB st) .none kV doc pm an cdv ct):=⟨⟨oc,od,kV,doc,pm,an,cdv,ct,osl,rfl,l,c⟩,k⟩
end
section
variable{X:Cx}
theorem pv(i:Nat){x:Str}{pos:Pos}(hN:X.N[i]?=Gc x:=by rfl)(hv:Vis X.env.scope x:=by first|exact Or.inl rfl|exact Or.inr (Or.inl rfl)|exact Or.inr (Or.inr rfl))(hd:(x==("__debug__":Str))=false:=by decide)(hcd:(x==("__classdict__":Str))=false:=by decide):PE X (.Name x pos) (l8 i):=YZ hN hv hd hcd
end
theorem Z0{A B:Prop}(h:B):if false=true then A else B:=by
 rw[rA sC]
 exact h
theorem aP{A B:Prop}(h:A):if true=true then A else B:=by
 rw[q9 rfl]
 exact h
def Bh(H H':Hp):Prop:=∀b o,H b=Gc o->H' b=Gc o
end L2
end
noncomputable section
namespace L2
open PySem PySem.Spec PyProof.Rows
noncomputable def Ga(cells:Wp (Str×qb)):Wp (Str×vY)->Wp (Str×qb)->Wp (Str×qb)
 | [],cs=>cs
 |(n,k)::r,cs=>if(k==tH)=true then Ga cells r ((n,(cells.lookup n).getD 0)::cs)else Ga cells r cs
theorem Oh{env:Env}:∀(names:Wp (Str×vY)) (cs:Wp (Str×qb)),(∀y∈names,y.2=.free->∃a,env.cells.lookup y.1=Gc a)->(forIn names cs λ(x:Str×vY) r=>match x with|(name,kind)=>if(kind==tH)=true then(do let a<-cellOf env name;pure (xf ((name,a)::r)))else pure (xf r):Sem (Wp (Str×qb)))=pure (Ga env.cells names cs)
 | [],cs,_=>by simp[Ga]
 |(n,k)::r,cs,h=>by
  rw[zR]
  have ih:=λcs=>Oh r cs λy hy=>h y (qi _ hy)
  by_cases hk:(k==tH)=true
  .obtain⟨a,ha⟩:=h (n,k) qp (by simpa using hk)
   have ha':env.cells.lookup n=Gc a:=ha
   have e:cellOf env n=pure a:=by unfold cellOf;rw[ha']
   simp only[hk,wW,e,pure_bind,Ga,ha',Option.getD_some]
   exact ih _
  .simp only[hk,v8,pure_bind,Ga]
   exact ih _
theorem RT{scope:uz}{env:Env}(h:∀y∈scope.names,y.2=.free->∃a,env.cells.lookup y.1=Gc a):closureFor scope env=pure (Ga env.cells scope.names []):=by
 unfold closureFor
 have:=Oh (env:=env) scope.names [] h
 simp only[bind_pure]at this⊢
 exact this
theorem Kv{cells:Wp (Str×qb)}{x:Str}{c:qb}:∀{names:Wp (Str×vY)} {cs:Wp (Str×qb)},(∀y∈names,y.2=.free->∃a,cells.lookup y.1=Gc a)->(Ga cells names cs).lookup x=Gc c->cs.lookup x=Gc c\/cells.lookup x=Gc c
 | [],cs,_,h=>.inl h
 |(n,k)::r,cs,hh,h=>by
  have hr:∀y∈r,y.2=.free->∃a,cells.lookup y.1=Gc a:=λy hy=>hh y (qi _ hy)
  unfold Ga at h
  by_cases hk:(k==tH)=true
  .rw[q9 hk]at h
   rcases Kv hr h with q|q
   .obtain⟨a,ha⟩:=hh (n,k) qp (by simpa using hk)
    have ha':cells.lookup n=Gc a:=ha
    rw[uM]at q
    cases hx:x==n with
    |true=>
     rw[hx,ha']at q
     have e:x=n:=by simpa using hx
     subst e
     cases q
     exact .inr ha'
    |false=>
     rw[hx]at q
     exact .inl q
   .exact .inr q
  .rw[rA hk]at h
   exact Kv hr h
theorem Ia{cells:Wp (Str×qb)}{x:Str}:∀{names:Wp (Str×vY)} {cs:Wp (Str×qb)},((x,tH)∈names\/∃c,cs.lookup x=Gc c)->∃c,(Ga cells names cs).lookup x=Gc c
 | [],cs,h=>h.elim (λz=>nomatch z) id
 |(n,k)::r,cs,h=>by
  unfold Ga
  by_cases hk:(k==tH)=true
  .rw[q9 hk]
   refine Ia ?_
   by_cases hx:x=n
   .subst hx
    exact .inr ⟨_,by rw[uM,beq_self_eq_true]⟩
   .rcases h with h|⟨c,h⟩
    .rcases qj.mp h with e|e
     .cases e;exact absurd rfl hx
     .exact .inl e
    .refine .inr ⟨c,?_⟩
     rw[uM,show(x==n)=false by simpa using hx]
     exact h
  .rw[rA hk]
   refine Ia ?_
   rcases h with h|h
   .rcases qj.mp h with e|e
    .cases e;exact absurd rfl hk
    .exact .inl e
   .exact .inr h
theorem Jb{env:Env}{x:Str}:∀{names:Wp (Str×vY)},names.lookup x=Gc .free->(names.map λ(n,k)=>if(k==tH && env.scope.kind== .function && env.kindOf n==Gc .cell)then(n,vv)else(n,k)).lookup x=Gc .cell\/(names.map λ(n,k)=>if(k==tH && env.scope.kind== .function && env.kindOf n==Gc .cell)then(n,vv)else(n,k)).lookup x=Gc .free
 | [],h=>by simp at h
 |(n,k)::r,h=>by
  have ih:= @Jb env x r
  show List.lookup x ((if(k==tH && env.scope.kind== .function && env.kindOf n==Gc .cell)=true then(n,vv)else(n,k))::_)=_\/List.lookup x ((if(k==tH && env.scope.kind== .function && env.kindOf n==Gc .cell)=true then(n,vv)else(n,k))::_)=_
  cases hx:x==n with
  |true=>
   simp only[uM,hx]at h
   cases h
   by_cases hc:(tH==tH && env.scope.kind== .function && env.kindOf n==Gc .cell)=true
   .rw[q9 hc];simp only[uM,hx];exact .inl trivial
   .rw[rA hc];simp only[uM,hx];exact .inr trivial
  |false=>
   simp only[uM,hx]at h
   by_cases hc:(k==tH && env.scope.kind== .function && env.kindOf n==Gc .cell)=true
   .rw[q9 hc];simp only[uM,hx];exact ih h
   .rw[rA hc];simp only[uM,hx];exact ih h
theorem Ki{env:Env}{scope:uz}{x:Str}{k':vY}(hk:k'=.cell\/k'=.free)(h:(relabel scope env).names.lookup x=Gc k'):(x,tH)∈scope.names\/(x,vv)∈scope.names:=by
 have hm:=su h
 obtain⟨⟨n,k⟩,hy,e⟩:=rW.mp (show(x,k')∈scope.names.map _ from hm)
 by_cases hc:(k==tH && env.scope.kind== .function && env.kindOf n==Gc .cell)=true
 .simp only[hc,wW]at e
  cases e
  have:k=.free:=by
   have:=((qt _ _).mp hc).1
   exact vf.mp ((qt _ _).mp this).1
  subst this
  exact .inl hy
 .simp only[hc,v8]at e
  cases e
  rcases hk with rfl|rfl
  .exact .inr hy
  .exact .inl hy
theorem Bm:∀(names:Wp (Str×vY)) (n:Nat) (cs:Wp (Str×qb)),cellsFrom n names cs=cellsFrom n names []++cs
 | [],_,_=>rfl
 |(x,k)::r,n,cs=>by
  unfold cellsFrom
  split
  .rw[Bm r _ ((x,n)::cs),Bm r _ [(x,n)]];simp
  .exact Bm r n cs
theorem GI{x:Str}{c:qb}:∀{names:Wp (Str×vY)} {n:Nat},(x,c)∈cellsFrom n names []->(x,vv)∈names
 | [],_,h=>nomatch h
 |(y,k)::r,n,h=>by
  unfold cellsFrom at h
  split at h
  .rename_i hk
   rw[Bm]at h
   rcases rC.mp h with z|z
   .exact qi _ (GI z)
   .have e:=q8.mp z
    cases e
    rw[vf.mp hk]
    exact qp
  .exact qi _ (GI h)
theorem JU{M:AAH}{A:rS}{E:qT->qX->Prop}{s:qX}{scope:uz}{globals:qb}{cl:Wp (Str×qb)}{qual:Str}{env:Env}{Q:Env->qX->Prop}(hQ:∀h':rT,h'.Ns s.heap.objs.size (λ_=>none)->(∀b o,s.heap.get? b=Gc o->h'.get? b=Gc o)->CellsOk h' (s.heap.objs.size+1) (cellsFrom (s.heap.objs.size+1) scope.names [])->Q (newEnv scope s.heap.objs.size globals (cellsFrom (s.heap.objs.size+1) scope.names cl) qual none .none (Gc env) builtinsNs) {s with heap:=h'}):wpAny M A (newFunctionEnv scope globals cl [] qual none .none (Gc env)) Q E s:=by
 simp only[newFunctionEnv,AAV,wW]
 refine qR (wpAny_alloc ?_)
 refine qR (wpAny_layCells _ (λname kind cells=>by cases hkc:kind==vv<;>simp[hkc]) _ _ _ _ ?_)
 have ok:=cellsFrom_ok scope.names (s.heap.push {cls:=.type "dict",data:=.dict #[]}) (s.heap.objs.size+1) [] ⟨λ_ _ hm=>(nomatch hm),yV⟩ (by rw[rQ];exact qg _)
 rw[rQ]at ok
 rw[show({s with heap:=s.heap.push {cls:=.type "dict",data:=.dict #[]}}:qX).heap.objs.size=s.heap.objs.size+1 from rQ ..]
 rw[zk]
 refine qR (qa (qa ?_))
 exact hQ _ ((Heap.Ns.new s.heap (.type "dict")).keeps (pushCells_keeps _ _)) (λb o e=>pushCells_keeps _ _ b o (qU _ e)) ok
end L2
end
noncomputable section
namespace L2
open PySem PySem.Spec PyProof.Rows
noncomputable def Qo(N:Wp Str)(osc scope:uz):Wp Str->Wp (qY Nat)->rR
 | [],[]=>true
 |_::r,none::q=>Qo N osc scope r q
 |x::r,Gc i::q=>decide (N[i]?=Gc x) && (decide (osc.names.lookup x=Gc .cell)||decide (osc.names.lookup x=Gc .free)) && decide (scope.names.lookup x=Gc .free) && Qo N osc scope r q
 |_,_=>false
theorem Ta{N:Wp Str}{osc scope:uz}:∀{N':Wp Str} {ix:Wp (qY Nat)},Qo N osc scope N' ix=true->ix.length=N'.length
 | [],[],_=>rfl
 |_::r,none::q,h=>by
  unfold Qo at h
  simp[Ta h]
 |x::r,Gc i::q,h=>by
  unfold Qo at h
  have:=((qt _ _).mp h).2
  simp[Ta this]
 | [],_::_,h=>by simp[Qo]at h
 |_::_,[],h=>by simp[Qo]at h
theorem aQ{N:Wp Str}{osc scope:uz}:∀{N':Wp Str} {ix:Wp (qY Nat)},Qo N osc scope N' ix=true->∀{j i:Nat} {x:Str},N'[j]?=Gc x->ix[j]?=Gc (Gc i)->N[i]?=Gc x/\(osc.names.lookup x=Gc .cell\/osc.names.lookup x=Gc .free)/\scope.names.lookup x=Gc .free
 | [],[],_,j,_,_,h,_=>by simp at h
 |_::r,none::q,h,j,i,x,h1,h2=>by
  unfold Qo at h
  cases j with
  |zero=>simp at h2
  |succ j=>exact aQ h (by simpa using h1) (by simpa using h2)
 |y::r,Gc k::q,h,j,i,x,h1,h2=>by
  unfold Qo at h
  obtain⟨ha,hr⟩:=(qt _ _).mp h
  obtain⟨ha,h3⟩:=(qt _ _).mp ha
  obtain⟨h4,h5⟩:=(qt _ _).mp ha
  cases j with
  |zero=>
   simp at h1 h2
   subst h1 h2
   refine⟨qu h4,?_,qu h3⟩
   rcases(tS _ _).mp h5 with z|z
   .exact .inl (qu z)
   .exact .inr (qu z)
  |succ j=>exact aQ hr (by simpa using h1) (by simpa using h2)
 | [],_::_,h,_,_,_,_,_=>by simp[Qo]at h
 |_::_,[],h,_,_,_,_,_=>by simp[Qo]at h
structure AS(N:Wp Str)(osc:uz)(N':Wp Str)(ix:Wp (qY Nat))(scope:uz):Prop where
 kind:scope.kind=.function
 cells:∀y∈scope.names,y.2=.cell->scope.names.lookup y.1=Gc .cell
 names:∀y∈scope.names,y.2=.local->scope.names.lookup y.1=Gc .local
 free:∀y∈scope.names,y.2=.free->(osc.names.lookup y.1=Gc .cell\/osc.names.lookup y.1=Gc .free)
 ok:Qo N osc scope N' ix=true
noncomputable def sig(ix:Wp (qY Nat))(σ:St):St:=ix.map λo=>o.bind λi=>(σ[i]?).join
noncomputable def HU(X:Cx)(N':Wp Str)(scope:uz)(s:qX)(H:Hp)(fp:Wp qb):Cx where
 prog:=X.prog
 w:=X.w
 K:=X.K
 mg:=X.mg
 base:=X.base
 A:=X.A
 N:=N'
 s₀:=s
 H₀:=H
 env:=compEnvC scope (cellsFrom (s.heap.objs.size+1) scope.names (Ga X.env.cells scope.names [])) s.heap.objs.size X.env
 outer:=X.stack
 stack:=X.stack
 ex:=fp
 fn:=λx=>decide (scope.names.lookup x=Gc .cell)
 calm:=true
 pn:=[]
 xe:=λ_ _=>uP
section
variable{X:Cx}{pins:Wp (qb×Obj)}{σ:St}{H:Hp}{s:qX}{N':Wp Str}{ix:Wp (qY Nat)}{scope:uz}{fp:Wp qb}
theorem Inv.cellsOf(I:Inv X pins σ H s)(S:AS X.N X.env.scope N' ix scope):∀y∈scope.names,y.2=.free->∃a,X.env.cells.lookup y.1=Gc a:=λy hy hk=>I.ok.has y.1 (S.free y hy hk)
theorem XB(S:AS X.N X.env.scope N' ix scope)(hc:X.calm=true)(I:Inv X pins σ H s)(hf:∀b∈fp,QW X pins H b)(hlt:∀b∈fp,b<s.heap.objs.size){h1:rT}{m1:Str->qY qT}{tk:Nat}(hn:h1.Ns s.heap.objs.size m1)(hk:∀b o,s.heap.get? b=Gc o->h1.get? b=Gc o)(hC:CellsOk h1 (s.heap.objs.size+1) (cellsFrom (s.heap.objs.size+1) scope.names [])):Inv (HU X N' scope s H fp) [] (sig ix σ) H {s with heap:=h1,toks:=tk}:=by
 have hcl:=I.cellsOf S
 have sub:∀{x:Str} {c:qb},(Ga X.env.cells scope.names []).lookup x=Gc c->X.env.cells.lookup x=Gc c:=λ{x c} h=>by
  rcases Kv hcl h with z|z
  .simp at z
  .exact z
 have old:∀{x:Str} {c:qb},X.env.cells.lookup x=Gc c->c<s.heap.objs.size:=λ{x c} h=>by
  obtain⟨v,oc,ho,_⟩:=I.cell x c h
  exact qq ho
 have look:∀{x:Str} {c:qb},(cellsFrom (s.heap.objs.size+1) scope.names (Ga X.env.cells scope.names [])).lookup x=Gc c->(x,c)∈cellsFrom (s.heap.objs.size+1) scope.names []\/X.env.cells.lookup x=Gc c:=λ{x c} h=>by
  rw[Bm,wY]at h
  cases e:(cellsFrom (s.heap.objs.size+1) scope.names []).lookup x with
  |some a=>rw[e]at h;cases h;exact .inl (su e)
  |none=>rw[e]at h;exact .inr (sub h)
 refine⟨⟨I.ok.mod,S.kind,I.ok.glob,I.ok.blt,qg _,λx y c h1 h2=>?_,λx hx=>?_,λx c hx h=>?_,λ_=>I.ok.hd hc,I.ok.frames,.inl rfl,λb hb=>?_,I.bs,qh I.ok.bsz I.sz,λb o e hb=>?_,λb hb hs=>?_,I.stack,I.PZ⟩,
  rfl,I.bare,Un.kept hk,⟨m1,hn,λj x v h1 h2 h3=>?_⟩,λx c h=>?_,I.hok.fresh (qg _),λx c h=>?_,λp hp=>absurd (show p∈([]:Wp (qb×Obj))from hp) (by simp),I.hok.kept hk,?_⟩
 . -- inj
   rcases look h1 with a|a<;>rcases look h2 with b|b
   .exact name_of_addr hC.apart a b
   .exact absurd (qf (old b) (vz (hC.empty _ _ a).2)) (sV _)
   .exact absurd (qf (old a) (vz (hC.empty _ _ b).2)) (sV _)
   .exact I.ok.inj x y c a b
 . -- has
   have hx':(relabel scope X.env).names.lookup x=Gc .cell\/(relabel scope X.env).names.lookup x=Gc .free:=hx
   show∃c,(cellsFrom (s.heap.objs.size+1) scope.names (Ga X.env.cells scope.names [])).lookup x=Gc c
   rw[Bm,wY]
   cases e:(cellsFrom (s.heap.objs.size+1) scope.names []).lookup x with
   |some a=>exact⟨a,rfl⟩
   |none=>
    rcases(hx'.elim (Ki (.inl rfl)) (Ki (.inr rfl)))with z|z
    .exact Ia (.inl z)
    .obtain⟨c,hc⟩:=KP (n:=s.heap.objs.size+1) (S.cells _ z rfl)
     rw[e]at hc;cases hc
 . -- cab
   obtain⟨c',hc'⟩:=KP (n:=s.heap.objs.size+1) (qu hx)
   have h:(cellsFrom (s.heap.objs.size+1) scope.names (Ga X.env.cells scope.names [])).lookup x=Gc c:=h
   rw[Bm,wY,hc']at h
   cases h
   exact vz (hC.empty _ _ (su hc')).2
 . -- exf
   refine⟨qv (hlt b hb),λx c h=>?_⟩
   rcases look h with a|a
   .exact λe=>absurd (qf (e▸hlt b hb) (vz (hC.empty _ _ a).2)) (sV _)
   .exact(hf b hb).2.2.2.2.1 x c a
 . -- YY
   rcases(hf b hb).2.2.2.1 with z|z
   .exact I.ok.YY b o e z
   .exact absurd (qf (qq (I.ok.bs b o e).1) z) (sV _)
 . -- Zj
   rcases qj.mp (I.Uw b hs)with z|z
   .exact(hf b hb).2.1 z
   .exact(hf b hb).2.2.1 z
 . -- loc
   unfold sig at h2
   rw[ql]at h2
   cases e:ix[j]? with
   |none=>rw[e]at h2;cases h2
   |some o=>
    rw[e]at h2
    cases o with
    |none=>cases h2
    |some i=>
     have h2':(σ[i]?).join=Gc v:=by simpa using h2
     have h4:σ[i]?=Gc (Gc v):=by
      cases e4:σ[i]? with
      |none=>rw[e4]at h2';cases h2'
      |some q=>rw[e4]at h2';exact congrArg Gc h2'
     obtain⟨q1,q2,q3⟩:=aQ S.ok h1 e
     obtain⟨m,_,hl⟩:=I.loc
     obtain⟨u,r,l⟩:=hl i x v q1 h4 (q2.elim (λz=>.inr (.inl z)) λz=>.inr (.inr z))
     refine⟨u,r,?_⟩
     rcases l with⟨l,_⟩|⟨_,c,lc,z⟩
     .have l':X.env.scope.names.lookup x=Gc .local:=l
      rcases q2 with z|z<;>(rw[z]at l';cases l')
     .refine .inr ⟨Jb q3,?_⟩
      obtain⟨c',hc'⟩:=Ia (cells:=X.env.cells) (cs:=[]) (.inl (su q3))
      have ec:=sub hc'
      rw[lc]at ec
      cases ec
      have no:(cellsFrom (s.heap.objs.size+1) scope.names []).lookup x=none:=by
       cases e:(cellsFrom (s.heap.objs.size+1) scope.names []).lookup x with
       |none=>rfl
       |some a=>
        have q:=S.cells _ (GI (su e)) rfl
        rw[q3]at q;cases q
      refine⟨c,(by show(cellsFrom (s.heap.objs.size+1) scope.names (Ga X.env.cells scope.names [])).lookup x=Gc c;rw[Bm,wY,no];exact hc'),?_⟩
      obtain⟨oc,ho,hd⟩:=z
      exact⟨oc,hk _ _ ho,hd⟩
 .rcases look h with a|a
  .exact⟨_,(hC.empty _ _ a).1⟩
  .obtain⟨v,oc,ho,hd⟩:=I.cell x c a
   exact⟨v,oc,hk _ _ ho,hd⟩
 .rcases look h with a|a
  .exact I.hok.fresh (vz (hC.empty _ _ a).2)
  .exact I.JP x c a
 .show(sig ix σ).length=N'.length
  unfold sig
  rw[qy]
  exact Ta S.ok
end
end L2
end
noncomputable section
namespace L2
open PySem PySem.Spec PyProof.Rows
def PTs(X:Cx)(ifs:Wp rJ)(t:TT):Prop:=
 ∀(pins:Wp (qb×Obj)) (s:qX) (σ:St) (H:Hp) (Q:rR->Hp->Prop),Inv X pins σ H s->t σ H Q->
  wpAny (model X.prog X.w) X.A (forIn ifs true λc r=>if r=true then do let ok<-isTrue c X.env (eval c X.env);pure (xf ok)else pure (xf r)) (TP X pins σ Q) X.xe s
noncomputable def k7:TT:=λ_ H Q=>Q true H
theorem Y4{X:Cx}:PTs X [] k7:=λ_ _ _ H _ I h=>wpAny_tests_nil ⟨H,I,h⟩
theorem ZQ{X:Cx}{c:rJ}{t:TT}(h:PT X c t):PTs X [c] t:=λpins s σ H Q I q=>wpAny_tests_one (h pins s σ H Q I q)
theorem XS{α:Type}{M:AAH}{A:rS}{t:Sem α}{Q:α->qX->Prop}{E:qT->qX->Prop}{s:qX}(h:wpAny M A t Q (λ_ _=>uP) s):wpAny M A t Q E s:=ui h (λ_ _ q=>q) λ_ _ f=>f.elim
def fw(ix:Wp (qY Nat))(g:TG)(tc:TT)(te:TE)(J:It)(σ:St)(H:Hp)(Q:VK):Prop:=
 ∀D,H D=none->∃W:Nat->Nat->St->Hp->Wp V->Prop,(∃m,W 0 m (sig ix σ) (upd H D (.lst [])) [])/\∀i m σ H ys,W i m σ H ys->H D=Gc (.lst ys)/\
  ((J.stop i H/\Q (.ref D) H)\/(J.go i H/\ys.length<sizeLine/\∀x H',J.yld i H x H'->g x σ H' λσ2 H2=>tc σ2 H2 λb H3=>
    if b=true then te σ2 H3 λy H4=>H4 D=Gc (.lst ys)/\∃m',m'<m/\W (i+1) m' σ2 (upd H4 D (.lst (ys++[y]))) (ys++[y])else∃m',m'<m/\W (i+1) m' σ2 H3 ys))
noncomputable def Z7(ix:Wp (qY Nat))(wi:TI)(g:TG)(tc:TT)(te:TE):TE:=λσ H Q=>wi σ H λJ H1=>fw ix g tc te J σ H1 Q
section
variable{X:Cx}{pins:Wp (qb×Obj)}{σ:St}{s₂:qX}{N':Wp Str}{ix:Wp (qY Nat)}{scope:uz}{elt tg iter:rJ}{ifs:Wp rJ}{pos:Pos}{g:TG}{tc:TT}{te:TE}
def Block(X:Cx)(N':Wp Str)(scope:uz)(tg:rJ)(ifs:Wp rJ)(elt:rJ)(g:TG)(tc:TT)(te:TE):Prop:=
 ∀(s:qX) (H:Hp) (fp:Wp qb),PG (HU X N' scope s H fp) tg g/\PTs (HU X N' scope s H fp) ifs tc/\PE (HU X N' scope s H fp) elt te
theorem Uh {X' : Cx} {it : qb} {fp : Wp qb} {tn : Nat -> rT -> Prop} {J : It} {D : qb} {Q : VK} {R : Result -> qX -> Prop} {W : Nat -> Nat -> St -> Hp -> Wp V -> Prop} {s : qX} {e : Env} {n : Nat} (he : X'.env = e) (hx : X'.xe = fun _ _ => uP) (hcm : X'.calm = true) (T : Turn X'.prog X'.w X'.K tg J fp it tn) (hfp : ∀ H : Hp, (∀ b ∈ fp, H b = none) -> ∀ b ∈ fp, QW X' [] H b) (hg : PG X' tg g) (ht : PTs X' ifs tc) (hb : PE X' elt te) (turn : ∀ i m σ H ys, W i m σ H ys -> H D = Gc (.lst ys) /\ ((J.stop i H /\ Q (.ref D) H) ∨ (J.go i H /\ ys.length < sizeLine /\ ∀ x H', J.yld i H x H' -> g x σ H' fun σ2 H2 => tc σ2 H2 fun b H3 =>
        if b = true then te σ2 H3 fun y H4 => H4 D = Gc (.lst ys) /\ ∃ m', m' < m /\ W (i + 1) m' σ2 (upd H4 D (.lst (ys ++ [y]))) (ys ++ [y]) else ∃ m', m' < m /\ W (i + 1) m' σ2 H3 ys)))
    (hR : ∀ s' σ' H', Inv X' [] σ' H' s' -> Q (.ref D) H' -> R (.ok .next) s')
    (h0 : ∃ i σ' H' ys, Inv X' [] σ' H' s /\ tn i s.heap /\ (∀ b ∈ fp, H' b = none) /\ W i n σ' H' ys) :
    codeAny (model X'.prog X'.w) X'.A (.compLoop (.ListComp elt [⟨tg, iter, ifs, 0⟩] scope pos) 0 (.ref it) (.ref D) e) R s := by
  subst he
  refine codeAny_loop rfl (fun n s => ∃ i σ' H' ys, Inv X' [] σ' H' s /\ tn i s.heap /\ (∀ b ∈ fp, H' b = none) /\ W i n σ' H' ys) (fun n s3 hI => ?_) n h0
  show wpAny _ X'.A ((compTurn (.ListComp elt [⟨tg, iter, ifs, 0⟩] scope pos) 0 (.ref it) (.ref D) X'.env).onRaise (fun x => do noteFrame x X'.env; theTreesLotGoes x)) _ _ s3
  refine wpAny_noted (XS ?_)
  rw [compTurn_list]
  obtain ⟨i, σ3, H3, ys, I3, st3, fr3, w3⟩ := hI
  obtain ⟨hD, alt⟩ := turn i n σ3 H3 ys w3
  rcases alt with ⟨stop, q⟩ | ⟨go, hlen, step⟩
  · refine qR (wQ (qR (thn (T.done X' rfl rfl rfl hcm i [] s3 σ3 H3 _ I3 (hfp H3 fr3) st3 stop) fun r s4 ⟨hr, I4⟩ => ?_)))
    subst hr
    exact qa (hR s4 σ3 H3 I4 q)
  · refine qR (wQ (qR (thn (T.item X' rfl rfl rfl hcm i [] s3 σ3 H3 _ I3 (hfp H3 fr3) st3 go) fun r s4 ⟨u, hr, h4⟩ => ?_)))
    subst hr
    refine qR (thn h4 fun _ s5 ⟨x, H5, I5, r5, y5, st5, fr5⟩ => ?_)
    have I5' := I5.pinned (hfp H5 fr5) (T.obj _ _ st5)
    have hg' := hg _ s5 σ3 H5 x u _ I5' r5 (step x H5 y5)
    rw [hx] at hg'
    refine qR (thn hg' fun _ s6 ⟨σ6, H6, I6, q6⟩ => ?_)
    have ht' := ht _ s6 σ6 H6 _ I6 q6
    rw [hx] at ht'
    refine qR (thn ht' fun ok s7 ⟨H7, I7, q7⟩ => ?_)
    have again : ∀ {s8 : qX} {H8 : Hp} {zs : Wp V} {m' : Nat}, Inv X' ([] ++ OO fp s5.heap) σ6 H8 s8 -> m' < n -> W (i + 1) m' σ6 H8 zs -> ∃ m, m < n /\ ∃ i σ' H' ys, Inv X' [] σ' H' s8 /\ tn i s8.heap /\ (∀ b ∈ fp, H' b = none) /\ W i m σ' H' ys := fun {s8 H8 zs m'} I8 hm w8 => by
      refine ⟨m', hm, i + 1, σ6, H8, zs, I8.KS, T.keep _ _ _ st5 fun b hb o e => (I8.pin (b, o) (sJ _ (sJ _ (Hj hb e)))).1, fun b hb => ?_, w8⟩
      obtain ⟨o, e, d⟩ := T.obj _ _ st5 b hb
      exact (I8.pin (b, o) (sJ _ (sJ _ (Hj hb e)))).2.1
    cases ok with
    | false =>
      rw [rA (by decide)] at q7
      obtain ⟨m', hm, w7⟩ := q7
      exact qa ⟨rfl, again I7 hm w7⟩
    | true =>
      rw [q9 rfl] at q7
      have hb' := hb _ s7 σ6 H7 _ I7 q7
      rw [hx] at hb'
      refine qR (qR (thn hb' fun v s8 ⟨y, H8, I8, r8, hD8, m', hm, w8⟩ => ?_))
      have ha := OQ (X := X') _ s8 σ6 H8 (.ref D) [y] (.ref D) [v] (fun _ H9 => H9 = upd H8 D (.lst (ys ++ [y]))) I8 rfl (.cons r8 .nil) ⟨D, ys, y, rfl, rfl, hD8, hlen, rfl⟩
      rw [hx] at ha
      refine qR (thn ha fun _ s9 ⟨_, H9, I9, _, e9⟩ => ?_)
      subst e9
      exact qa (qa ⟨rfl, again I9 hm w8⟩)
theorem Q6(hc:X.calm=true)(S:AS X.N X.env.scope N' ix scope)(hb:Block X N' scope tg ifs elt g tc te){it:qb}{fp:Wp qb}{tn:Nat->rT->Prop}{J:It}{H₂:Hp}{Q:VK}{E:qT->qX->Prop}{RR:qT->qb->Result->qX->Prop}(I2:Inv X pins σ H₂ s₂)(T:Turn X.prog X.w X.K tg J fp it tn)(st2:tn 0 s₂.heap)(f2:∀b∈fp,QW X pins H₂ b)(hW:fw ix g tc te J σ H₂ Q)(hRR:∀D C H' s',Inv X pins σ H' s'->(∃m,s'.heap.Ns C m)->QW X pins H' C->Q (.ref D) H'->RR (.ref D) C (.ok .next) s'):wpAny (model X.prog X.w) X.A (newList []) (λacc s₃=>wpAny (model X.prog X.w) X.A (newFunctionEnv scope X.env.globals (Ga X.env.cells scope.names []) [] X.env.qual none .none (Gc X.env)) (λcenv s₄=>
  codeAny (model X.prog X.w) X.A (.compStart (.ListComp elt [⟨tg,iter,ifs,0⟩] scope pos) 0 (.ref it) acc {cenv with scope:=relabel scope X.env}) (RR acc cenv.locals) s₄) E s₃) E s₂:=by
 have hD0:H₂ s₂.heap.objs.size=none:=I2.hok.fresh (qg _)
 have hlt2:∀b∈fp,b<s₂.heap.objs.size:=λb hb=>by
  obtain⟨o,e,_⟩:=T.obj _ _ st2 b hb
  exact qq e
 refine rm (JU (λh₁ hns₁ hsb₁ hcl₁=>?_))
 have I3:Inv X pins σ (upd H₂ s₂.heap.objs.size (.lst [])) {s₂ with heap:=s₂.heap.push {cls:=.type "list",dict:=none,data:=.seq ([]:Wp qT).toArray}}:=
  I2.laid (t':=s₂.toks) (λb u e=>qU _ e) (qg _) ⟨sf _,[],0,.nil,qk _ rfl⟩
 have f3:∀b∈fp,QW X pins (upd H₂ s₂.heap.objs.size (.lst [])) b:=λb hb=>⟨by rw[AX (qv (hlt2 b hb))];exact(f2 b hb).1,(f2 b hb).2⟩
 have k3:∀b o,s₂.heap.get? b=Gc o->(s₂.heap.push {cls:=.type "list",dict:=none,data:=.seq ([]:Wp qT).toArray}).get? b=Gc o:=λb o e=>qU _ e
 dsimp only at hns₁ hsb₁ hcl₁⊢
 generalize hs3:({s₂ with heap:=s₂.heap.push {cls:=.type "list",dict:=none,data:=.seq ([]:Wp qT).toArray}}:qX)=s₃ at I3
 have eh:s₂.heap.push {cls:=.type "list",dict:=none,data:=.seq ([]:Wp qT).toArray}=s₃.heap:=by rw[<-hs3]
 have et:s₂.toks=s₃.toks:=by rw[<-hs3]
 have es:∀(h:rT) (t:Nat),({s₂ with heap:=h,toks:=t}:qX)={s₃ with heap:=h,toks:=t}:=λh t=>by rw[<-hs3]
 rw[eh]at hns₁ hsb₁ hcl₁ k3⊢
 have hlt3:∀b∈fp,b<s₃.heap.objs.size:=λb hb=>by
  obtain⟨o,e,_⟩:=T.obj _ _ st2 b hb
  exact qq (k3 b o e)
 have k4:∀b o,s₃.heap.get? b=Gc o->h₁.get? b=Gc o:=hsb₁
 obtain⟨W,⟨m0,w0⟩,turn⟩:=hW _ hD0
 have I4:∀tk,Inv (HU X N' scope s₃ (upd H₂ s₂.heap.objs.size (.lst [])) fp) [] (sig ix σ) (upd H₂ s₂.heap.objs.size (.lst [])) {s₃ with heap:=h₁,toks:=tk}:=λtk=>XB S hc I3 f3 hlt3 hns₁ k4 hcl₁
 have st4:tn 0 h₁:=T.keep _ _ _ st2 λb hb o e=>k4 b o (k3 b o e)
 obtain⟨bg,bt,be⟩:=hb s₃ (upd H₂ s₂.heap.objs.size (.lst [])) fp
 have noX:∀(H:Hp),(∀b∈fp,H b=none)->∀b∈fp,QW (HU X N' scope s₃ (upd H₂ s₂.heap.objs.size (.lst [])) fp) [] H b:=λH hn b hb=>by
  obtain⟨_,h2,h3⟩:=f3 b hb
  refine⟨hn b hb,qv (hlt3 b hb),λhs=>(I4 0).ok.Zj b hb hs,.inl hb,λx c h=>?_,λp hp=>absurd (show p∈([]:Wp (qb×Obj))from hp) (by simp)⟩
  exact((I4 0).ok.exf b hb).2 x c h
 have fin:∀(s':qX) (σ':St) (H':Hp),Inv (HU X N' scope s₃ (upd H₂ s₂.heap.objs.size (.lst [])) fp) [] σ' H' s'->Q (.ref s₂.heap.objs.size) H'->RR (.ref s₂.heap.objs.size) s₃.heap.objs.size (.ok .next) s':=λs' σ' H' I' q=>by
  refine hRR _ _ H' s' ?_ (let⟨m,hn,_⟩:=I'.loc;⟨m,hn⟩) (I3.ZZ (qg _) I'.free) q
  exact I3.fc I'.os I'.base I'.hok I'.bare λb hb=>⟨(f3 b hb).2.2.2.1,(f3 b hb).2.1,(f3 b hb).2.2.2.2.1,(f3 b hb).2.2.2.2.2⟩
 have loop:∀tk,codeAny (model X.prog X.w) X.A (.compLoop (.ListComp elt [⟨tg,iter,ifs,0⟩] scope pos) 0 (.ref it) (.ref s₂.heap.objs.size) (compEnvC scope (cellsFrom (s₃.heap.objs.size+1) scope.names (Ga X.env.cells scope.names [])) s₃.heap.objs.size X.env)) (RR (.ref s₂.heap.objs.size) s₃.heap.objs.size) {s₃ with heap:=h₁,toks:=tk}:=λtk=>
  Uh (X':=HU X N' scope s₃ (upd H₂ s₂.heap.objs.size (.lst [])) fp) (D:=s₂.heap.objs.size) (Q:=Q) (W:=W) rfl rfl rfl T noX bg bt be turn fin ⟨0,_,_,_,I4 tk,st4,λb hb=>(f3 b hb).1,w0⟩
 rw[es]
 exact codeAny_compStart_list (loop _) (T.self _ 0 _ _ _ st4 (loop _))
theorem Y1{wi:TI}(hc:X.calm=true)(S:AS X.N X.env.scope N' ix scope)(hi:PI X tg iter wi)(hb:Block X N' scope tg ifs elt g tc te)(hs:∀x,foldedSetIterable iter X.env x=pure x:=by intro _;rfl):PE X (.ListComp elt [⟨tg,iter,ifs,0⟩] scope pos) (Z7 ix wi g tc te):=by
 intro pins s σ H Q I h
 rw[eval_ListComp]
 refine yd (use:=none) rfl hs (RT (I.cellsOf S)) S.kind S.names (thn (hi pins s σ H _ I h) λv s1 h1=>thn h1 λitv s2 h2=>?_)
 obtain⟨it,fp,tn,J,H2,e,I2,T,st2,f2,hW⟩:=h2
 subst e
 refine Q6 (RR:=λacc C=>compPost (model X.prog X.w) X.A X.xe none (EP X pins σ Q) acc C) hc S hb I2 T st2 f2 hW ?_
 intro D C H' s' I' hm hC q
 obtain⟨m,hm⟩:=hm
 refine⟨m,hm,λh' hs'=>⟨.ref D,H',I'.turned (it:=C) (t':=s'.toks) (λb o hb e=>hs'.extBut b o hb e) hC.1 hC.2.1 hC.2.2.2.1 hC.2.2.2.2.1 hC.2.2.2.2.2,rfl,q⟩⟩
end
end L2
end
noncomputable section
namespace L2
open PySem PySem.Spec PyProof.Rows
section
variable{X:Cx}{N':Wp Str}{ix:Wp (qY Nat)}{scope:uz}{elt tg iter:rJ}{ifs:Wp rJ}{pos spos py:Pos}{g:TG}{tc:TT}{te:TE}{wi:TI}{i:Nat}{y:Str}
theorem SV(hc:X.calm=true)(hN:X.N.Nodup)(hi':X.N[i]?=Gc y)(hx:X.env.scope.names.lookup y=Gc .local)(S:AS X.N X.env.scope N' ix scope)(hi:PI X tg iter wi)(hb:Block X N' scope tg ifs elt g tc te)(hsw:swapsWith (.ListComp elt [⟨tg,iter,ifs,0⟩] scope pos) (Gc (.Name y py)) spos.line X.env=pure true:=by rfl)(hs:∀x,foldedSetIterable iter X.env x=pure x:=by intro _;rfl):PS X (.Assign [.Name y py] (.ListComp elt [⟨tg,iter,ifs,0⟩] scope pos) spos) (kq (Z7 ix wi g tc te) (aR i)):=by
 intro pins s σ H D I h
 rw[exec_Assign_Name_used _ _ _ _ hsw]
 refine qR (wQ (qR ?_))
 show wpAny _ X.A (do let _<-comprehension (.ListComp elt [⟨tg,iter,ifs,0⟩] scope pos) scope X.env _ (newList []) false (eval iter X.env) (Gc (assign (.Name y py) X.env))) _ _ s
 refine qR (ui (yd (use:=Gc (assign (.Name y py) X.env)) (Q:=λ_ s'=>SP X pins D .next s') rfl hs (RT (I.cellsOf S)) S.kind S.names
  (thn (hi pins s σ H _ I h) λv s1 h1=>thn h1 λitv s2 h2=>?_)) (λ_ s' hq=>qa (qa hq)) λ_ _ e=>e)
 obtain⟨it,fp,tn,J,H2,e,I2,T,st2,f2,hW⟩:=h2
 subst e
 refine Q6 (RR:=λacc C=>compPost (model X.prog X.w) X.A X.xe (Gc (assign (.Name y py) X.env)) (λ_ s'=>SP X pins D .next s') acc C) hc S hb I2 T st2 f2 hW ?_
 intro L C H' s' I' hm hC q
 obtain⟨m,hm⟩:=hm
 show wpAny _ X.A (assign (.Name y py) X.env (.ref L)) _ _ _
 refine wpAny_assign_Name (PH I' hN hi' (.inl hx) (v:=.ref L) rfl (λs'' I'' ⟨a,sb,ha⟩=>?_) (.inr hx))
 have hCa:C≠a:=by
  rcases ha with rfl|ha
  .exact hC.2.1
  .exact rh (hC.2.2.2.2.1 y a ha)
 refine⟨m,hm.sameBut sb hCa,λh' hs'=>?_⟩
 exact⟨_,H',I''.turned (it:=C) (t':=s''.toks) (λb o hb e=>hs'.extBut b o hb e) hC.1 hC.2.1 hC.2.2.2.1 hC.2.2.2.2.1 hC.2.2.2.2.2,q⟩
end
end L2
end
noncomputable section
namespace L2
open PySem PySem.Spec PyProof.Rows
section
variable{κ:Type} [zd κ]
noncomputable def QZ(kvs:Wp (κ×V))(k:κ):qY V:=(kvs.find? λkv=>decide (kv.1=k)).map (·.2)
noncomputable def putK(kvs:Wp (κ×V))(k:κ)(v:V):Wp (κ×V):=
 if(kvs.any λkv=>decide (kv.1=k))=true then kvs.map (λkv=>if kv.1=k then(kv.1,v)else kv)else kvs++[(k,v)]
theorem KH{p:κ×V}{r:Wp (κ×V)}{k:κ}(e:p.1=k):QZ (p::r) k=Gc p.2:=by simp[QZ,vq,e]
theorem KR{p:κ×V}{r:Wp (κ×V)}{k:κ}(e:¬p.1=k):QZ (p::r) k=QZ r k:=by simp[QZ,vq,e]
theorem Qv(k:κ):∀kvs:Wp (κ×V),(kvs.any λkv=>decide (kv.1=k))=(QZ kvs k).isSome
 | []=>rfl
 |p::r=>by
  rw[uy]
  by_cases e:p.1=k
  .simp only[KH e,sZ e,Bool.true_or,AAV]
  .rw[KR e,t9 e,Bool.false_or];exact Qv k r
theorem IF(kvs:Wp (κ×V))(k:κ)(v:V):(putK kvs k v).length<=kvs.length+1:=by
 unfold putK
 split
 .rw[qy];lia
 .rw[rZ,rV,uA];lia
theorem V6.LJ{o:qY V}{u:qY qT}(r:V6 o u):o.isSome=u.isSome:=by
 cases o with
 |none=>cases u with
  |none=>rfl
  |some _=>exact(show uP from r).elim
 |some _=>cases u with
  |none=>exact(show uP from r).elim
  |some _=>rfl
theorem V6.getD{o:qY V}{u:qY qT}{d:V}{d':qT}(r:V6 o u)(rd:RelV d d'):RelV (o.getD d) (u.getD d'):=by
 cases o with
 |none=>cases u with
  |none=>exact rd
  |some _=>exact(show uP from r).elim
 |some _=>cases u with
  |none=>exact(show uP from r).elim
  |some _=>exact r
theorem KV.val{kvs:Wp (κ×V)}{vs:Wp (κ×qT)}(r:KV kvs vs)(k:κ):V6 (QZ kvs k) (valueAt vs k):=by
 unfold KV at r
 induction r with
 |nil=>exact vS
 | @cons p q ps qs h t ih=>
   obtain⟨h1,h2⟩:=h
   by_cases e:p.1=k
   .have e':q.1=k:=h1.symm.trans e
    have b:valueAt (q::qs) k=Gc q.2:=by simp[valueAt,vq,e']
    rw[KH e,b];exact h2
   .have e':¬q.1=k:=λz=>e (h1.trans z)
    have b:valueAt (q::qs) k=valueAt qs k:=by simp[valueAt,vq,e']
    rw[KR e,b];exact ih
theorem KV.any{kvs:Wp (κ×V)}{vs:Wp (κ×qT)}(r:KV kvs vs)(k:κ):(kvs.any λkv=>decide (kv.1=k))=vs.any λkv=>decide (kv.1=k):=by
 unfold KV at r
 induction r with
 |nil=>rfl
 |cons h t ih=>rw[uy,uy,ih,h.1]
theorem KV.Z1{kvs:Wp (κ×V)}{vs:Wp (κ×qT)}(r:KV kvs vs)(k:κ){y:V}{u:qT}(ry:RelV y u):KV (kvs.map λkv=>if kv.1=k then(kv.1,y)else kv) (vs.map λkv=>if kv.1=k then(kv.1,u)else kv):=by
 unfold KV at r⊢
 induction r with
 |nil=>exact .nil
 | @cons p q ps qs h t ih=>
   rw[rD,rD]
   refine .cons ?_ ih
   obtain⟨h1,h2⟩:=h
   by_cases e:p.1=k
   .rw[q9 e,q9 (h1.symm.trans e)];exact⟨h1,ry⟩
   .rw[rA e,rA (λz=>e (h1.trans z))];exact⟨h1,h2⟩
theorem KV.put{kvs:Wp (κ×V)}{vs:Wp (κ×qT)}(r:KV kvs vs)(k:κ){y:V}{u:qT}(ry:RelV y u):KV (putK kvs k y) (stored vs k u):=by
 unfold putK stored
 rw[r.any k]
 by_cases e:(vs.any λkv=>decide (kv.1=k))=true
 .rw[q9 e,q9 e];exact r.Z1 k ry
 .rw[rA e,rA e];exact Paired.snoc r ⟨rfl,ry⟩
theorem KV.keys{kvs:Wp (κ×V)}{vs:Wp (κ×qT)}(r:KV kvs vs):kvs.map (·.1)=vs.map (·.1):=by
 unfold KV at r
 induction r with
 |nil=>rfl
 |cons h t ih=>rw[rD,rD,ih,h.1]
theorem KV.length{kvs:Wp (κ×V)}{vs:Wp (κ×qT)}(r:KV kvs vs):kvs.length=vs.length:=AAG r
end
theorem VZ{P:rF}{w:rX}{k:Key}{u:qT}(r:RelV (kV k) u):(CJ P w).is k u=true:=by
 cases k with
 |inl i=>obtain⟨t,e⟩:=(show∃t,u=xJ i t from r);subst e;exact Pp P w i t
 |inr x=>obtain⟨t,e⟩:=(show∃t,u=yn x t from r);subst e;exact PY P w x t
theorem O3{P:rF}{w:rX}:∀{ks:Wp Key} {us:Wp qT},Vals (ks.map kV) us->ItemsAre (CJ P w) ks us
 | [],_,r=>by rw[uC]at r;cases r;exact .nil
 |k::ks,_,r=>by
  rw[rD]at r
  cases r with
  |cons h t=>exact .cons (VZ h) (O3 t)
abbrev KT(H:Hp):Wp (Wp Key×V)->Wp (Wp Key×qb×qT)->Prop:=Paired λp q=>p.1=q.1/\H q.2.1=Gc (.tup (p.1.map kV))/\RelV p.2 q.2.2
theorem KT.val{H:Hp}{kvs:Wp (Wp Key×V)}{xs:Wp (Wp Key×qb×qT)}(r:KT H kvs xs)(k:Wp Key):V6 (QZ kvs k) ((atKey xs k).map (·.2)):=by
 induction r with
 |nil=>exact vS
 | @cons p q ps qs h t ih=>
   obtain⟨h1,_,h2⟩:=h
   by_cases e:p.1=k
   .have e':q.1=k:=h1.symm.trans e
    have b:atKey (q::qs) k=Gc q.2:=by simp[atKey,vq,e']
    rw[KH e,b];exact h2
   .have e':¬q.1=k:=λz=>e (h1.trans z)
    have b:atKey (q::qs) k=atKey qs k:=by simp[atKey,vq,e']
    rw[KR e,b];exact ih
theorem KT.Z1{H:Hp}{kvs:Wp (Wp Key×V)}{xs:Wp (Wp Key×qb×qT)}(r:KT H kvs xs)(k:Wp Key){y:V}{u:qT}(ry:RelV y u):KT H (kvs.map λkv=>if kv.1=k then(kv.1,y)else kv) (xs.map (putAt k u)):=by
 induction r with
 |nil=>exact .nil
 | @cons p q ps qs h t ih=>
   rw[rD,rD]
   refine .cons ?_ ih
   obtain⟨h1,h2,h3⟩:=h
   unfold putAt
   by_cases e:p.1=k
   .rw[q9 e,q9 (h1.symm.trans e)];exact⟨h1,h2,ry⟩
   .rw[rA e,rA (λz=>e (h1.trans z))];exact⟨h1,h2,h3⟩
theorem KT.put{H:Hp}{kvs:Wp (Wp Key×V)}{xs:Wp (Wp Key×qb×qT)}(r:KT H kvs xs)(k:Wp Key){b:qb}{y:V}{u:qT}(hb:H b=Gc (.tup (k.map kV)))(ry:RelV y u):KT H (putK kvs k y) (storedH xs k b u):=by
 have e:(kvs.any λkv=>decide (kv.1=k))=(atKey xs k).isSome:=by
  rw[Qv,(r.val k).LJ,Option.isSome_map]
 unfold putK storedH
 rw[e]
 by_cases q:(atKey xs k).isSome=true
 .rw[q9 q,q9 q];exact r.Z1 k ry
 .rw[rA q,rA q];exact Paired.snoc r ⟨rfl,hb,ry⟩
theorem KT.keeps{H H':Hp}{kvs:Wp (Wp Key×V)}{xs:Wp (Wp Key×qb×qT)}(r:KT H kvs xs)(ht:∀b ys,H b=Gc (.tup ys)->H' b=Gc (.tup ys)):KT H' kvs xs:=
 Paired.jh r λ_ _ z=>⟨z.1,ht _ _ z.2.1,z.2.2⟩
section
variable{P:rF}{w:rX}{H:Hp}{h:rT}{a:qb}
theorem fR{u:HO}(ok:HOk P w H h)(e:Rd H a u):Cv P w H h a u:=e.ok ok
theorem Vu{kvs:Wp (Key×V)}(ok:HOk P w H h)(e:Rd H a (.dK kvs)):kvs.length<=sizeLine/\(a==sysModules)=false/\∃vs,KV kvs vs/\h.DictOf (CJ P w) a vs:=
 show Cv P w H h a (.dK kvs)from fR ok e
theorem aE{kvs:Wp (Key×V)}(ok:HOk P w H h)(e:H a=Gc (.dK kvs)):kvs.length<=sizeLine/\(a==sysModules)=false/\∃vs,KV kvs vs/\h.DictOf (CJ P w) a vs:=Vu ok (.inl e)
theorem Qe{ks:Wp Key}(ok:HOk P w H h)(e:H a=Gc (.tup (ks.map kV))):(tupleKind (CJ P w)).is h ks a:=by
 obtain⟨_,its,r,o,h1,h2,n,h3⟩:=(show Cv P w H h a (.tup (ks.map kV))from ok a _ e)
 exact⟨o,its.toArray,n,h1,h2,h3,by simpa using O3 r⟩
theorem Wm{kvs:Wp (Wp Key×V)}(ok:HOk P w H h)(e:Rd H a (.dT kvs)):kvs.length<=sizeLine/\(a==sysModules)=false/\∃xs,KT H kvs xs/\h.DictOfH (tupleKind (CJ P w)) a xs:=by
 obtain⟨z,y,xs,r,o,es,ep,h1,h2,h3,h4,h5⟩:=(show Cv P w H h a (.dT kvs)from fR ok e)
 refine⟨z,y,xs,r,o,es,ep,h1,h2,h3,h4,λx hx=>?_,h5⟩
 have all:∀{l:Wp (Wp Key×V)} {m:Wp (Wp Key×qb×qT)},KT H l m->∀x∈m,(tupleKind (CJ P w)).is h x.1 x.2.1:=by
  intro l m q
  induction q with
  |nil=>intro x hx;exact nomatch hx
  | @cons p q ps qs hq t ih=>
    intro x hx
    rcases qj.mp hx with e|hx
    .subst e
     exact Qe ok (by rw[<-hq.1];exact hq.2.1)
    .exact ih x hx
 exact all r x hx
theorem Ua{kvs:Wp (Wp Key×V)}(ok:HOk P w H h)(e:H a=Gc (.dT kvs)):kvs.length<=sizeLine/\(a==sysModules)=false/\∃xs,KT H kvs xs/\h.DictOfH (tupleKind (CJ P w)) a xs:=Wm ok (.inl e)
end
def bS(H:Hp)(a:qb)(y:V)(r:qY V):Prop:=
 (∃kvs k,Rd H a (.dK kvs)/\y=kV k/\r=QZ kvs k)\/∃kvs k b,Rd H a (.dT kvs)/\y=.ref b/\H b=Gc (.tup (k.map kV))/\r=QZ kvs k
def iV(H:Hp)(a:qb)(y v:V)(H':Hp):Prop:=
 (∃kvs k,H a=Gc (.dK kvs)/\y=kV k/\kvs.length<sizeLine/\H'=upd H a (.dK (putK kvs k v)))∨
 ∃kvs k b,H a=Gc (.dT kvs)/\y=.ref b/\H b=Gc (.tup (k.map kV))/\kvs.length<sizeLine/\H'=upd H a (.dT (putK kvs k v))
theorem bS.k{H:Hp}{a:qb}{kvs:Wp (Key×V)}{k:Key}(e:H a=Gc (.dK kvs)):bS H a (kV k) (QZ kvs k):=.inl ⟨kvs,k,.inl e,rfl,rfl⟩
theorem iV.k{H:Hp}{a:qb}{kvs:Wp (Key×V)}{k:Key}{v:V}(e:H a=Gc (.dK kvs))(hl:kvs.length<sizeLine):iV H a (kV k) v (upd H a (.dK (putK kvs k v))):=.inl ⟨kvs,k,e,rfl,hl,rfl⟩
section
variable{X:Cx}{pins:Wp (qb×Obj)}{σ:St}{H:Hp}{s:qX}{a:qb}{y v:V}{u r:qT}{o:qY V}{A:rS}{E:qT->qX->Prop}
theorem Inv.big(I:Inv X pins σ H s):sysModules<s.heap.objs.size:=by
 have h:mainGlobals<s.heap.objs.size:=(I.mod.glob.keeps I.bk).lt
 exact vg (by decide) h
theorem pW{Q:qT->qX->Prop}(hu:A.units+1<cLine)(I:Inv X pins σ H s)(g:bS H a y o)(ry:RelV y u)(h:∀s',Inv X pins σ H s'->Q (.bool o.isSome) s'):wpAny (model X.prog X.w) A (compareOp .In u (.ref a)) Q E s:=by
 rcases g with⟨kvs,k,e,ey,l⟩|⟨kvs,k,b,e,ey,eb,l⟩
 .subst ey
  obtain⟨z,hd,vs,rel,dd⟩:=Vu I.hok e
  refine wpAny_in_of (VZ ry) hd dd.mapOf ?_
  rw[<-(rel.val k).LJ,<-l]
  exact h _ (I.tok _)
 .subst ey
  cases (show u=rY b from ry)
  obtain⟨z,hd,xs,rel,dd⟩:=Wm I.hok e
  refine wpAny_in_heap (yD hu) (Qe I.hok eb) hd dd ?_
  have q:=(rel.val k).LJ
  rw[Option.isSome_map]at q
  rw[<-q,<-l]
  exact h _ (I.tok _)
theorem Px{h':rT}{t':Nat}{ob:HO}(I:Inv X pins σ H s)(mu:Mut (H a))(hs:uq a s.heap h')(he:∃q,h'.get? a=Gc q)(new:Cv X.prog X.w (upd H a ob) h' a ob):Inv X pins σ (upd H a ob) {s with heap:=h',toks:=t'}:=
 I.write (x:=a) (e:=a) mu (.inl rfl) (λb q hb z=>(hs.2 b hb).trans z) he new
theorem VH{P:rF}{w:rX}{H':Hp}{h':rT}{kvs:Wp (Key×V)}{vs:Wp (Key×qT)}(z:kvs.length<=sizeLine)(hd:(a==sysModules)=false)(rel:KV kvs vs)(dd:h'.DictOf (CJ P w) a vs):Cv P w H' h' a (.dK kvs):=⟨z,hd,vs,rel,dd⟩
theorem VJ{H':Hp}{Q:Unit->qX->Prop}(hu:A.units+1<cLine)(I:Inv X pins σ H s)(g:iV H a y v H')(ry:RelV y u)(rv:RelV v r)(h:∀s',Inv X pins σ H' s'->Q () s'):wpAny (model X.prog X.w) A (setItem (.ref a) u r) Q E s:=by
 rcases g with⟨kvs,k,e,ey,l,eH⟩|⟨kvs,k,b,e,ey,eb,l,eH⟩
 .subst ey eH
  obtain⟨z,hd,vs,rel,dd⟩:=aE I.hok e
  have hz:vs.length<=sizeLine:=by rw[<-rel.length];exact z
  have hl:(putK kvs k v).length<=sizeLine:=by have:=IF kvs k v;lia
  refine wpAny_setItem_pairs (hsz:=hz) (VZ ry) dd λh' dd' hs=>h _ ?_
  have he:∃q,h'.get? a=Gc q:=let⟨q,_,_,hq,_⟩:=dd';⟨q,hq⟩
  exact Px I (by rw[e];exact vS) hs he (VH hl hd (rel.put k rv) dd')
 .subst ey eH
  cases (show u=rY b from ry)
  obtain⟨z,hd,xs,rel,dd⟩:=Ua I.hok e
  have hz:xs.length<=sizeLine:=by rw[<-AAG rel];exact z
  have hl:(putK kvs k v).length<=sizeLine:=by have:=IF kvs k v;lia
  refine wpAny_setItem_heap (hsz:=hz) (yD hu) (Qe I.hok eb) dd λh' dd' hs=>h _ ?_
  obtain⟨q,es,ep,hq,h2,h3,h4,_,h5⟩:=dd'
  refine Px I (by rw[e];exact vS) hs ⟨q,hq⟩ ⟨hl,hd,_,(rel.put k eb rv).keeps λc ys ec=>?_,q,es,ep,hq,h2,h3,h4,h5⟩
  rw[AX (kP ec e (λz=>nomatch z))]
  exact ec
end
section
variable{X:Cx}{pins:Wp (qb×Obj)}{σ:St}{H:Hp}{s:qX}{a:qb}{kvs:Wp (Key×V)}{k:Key}{u:qT}{A:rS}{E:qT->qX->Prop}
end
noncomputable def mX(ty td:TE):TE:=λσ H Q=>ty σ H λy H1=>td σ H1 λx H2=>∃a o,x=.ref a/\bS H2 a y o/\Q (.bl o.isSome) H2
noncomputable def jd(td ty tv:TE):TS:=λD σ H=>tv σ H λv H1=>td σ H1 λx H2=>ty σ H2 λy H3=>∃a H4,x=.ref a/\iV H3 a y v H4/\D.nx σ H4
section
variable{X:Cx}{o i e value:rJ}{pos pos' tpos:Pos}{td ty tv:TE}
theorem fF(hu:X.A.units+1<cLine)(hi:PE X i ty)(ho:PE X o td):PC X .In i o (mX ty td):=by
 intro pins s σ H Q I h
 refine thn (hi pins s σ H _ I h) λiv s1 ⟨y,H1,I1,ry,q1⟩=>thn (ho pins s1 σ H1 _ I1 q1) λu s2 ⟨x,H2,I2,rx,a,ov,ex,g,q2⟩=>?_
 subst ex
 obtain rfl:u=rY a:=rx
 exact pW hu I2 g ry λs3 I3=>⟨.bl ov.isSome,H2,I3,rfl,q2⟩
theorem Yw(hu:X.A.units+1<cLine)(ho:PE X o td)(hi:PE X i ty)(hv:PE X value tv)(hs:swapsWith value (Gc (.Subscript o i pos')) pos.line X.env=pure false):PS X (.Assign [.Subscript o i pos'] value pos) (jd td ty tv):=by
 intro pins s σ H D I h
 refine wpAny_Assign_Subscript (thn (hv pins s σ H _ I h) λr s1 ⟨v,H1,I1,rv,q1⟩=>thn (ho pins s1 σ H1 _ I1 q1) λu s2 ⟨x,H2,I2,rx,q2⟩=>thn (hi pins s2 σ H2 _ I2 q2) λiv s3 ⟨y,H3,I3,ry,a,H4,ex,g,q3⟩=>?_) hs
 subst ex
 obtain rfl:u=rY a:=rx
 exact VJ hu I3 g ry rv λs4 I4=>⟨σ,H4,I4,q3⟩
end
theorem Qx{P:rF}{w:rX}{H:Hp}(h:rT)(hb:sysModules<h.objs.size):Cv P w H (h.push {cls:=.type "dict",data:=.dict #[]}) h.objs.size (.dK []):=
 ⟨sf _,xn.mpr (rh (qv hb)),[],.nil,Heap.DictOf.new h⟩
noncomputable def dJ:TE:=λ_ H Q=>∀p,H p=none->Q (.ref p) (upd H p (.dK []))
section
variable{X:Cx}{pos:Pos}
theorem X1:PE X (.Dict [] [] pos) dJ:=λpins s σ H Q I h=>
 wpAny_Dict_empty ⟨.ref s.heap.objs.size,_,I.laid (a:=s.heap.objs.size) (o:=.dK []) (t':=s.toks) (λ_ _ q=>qU _ q) (qg _) (Qx s.heap I.big),rfl,h _ (I.hok.fresh (qg _))⟩
end
def Qq:Wp (TE×TE)->St->Hp->(Wp (V×V)->Hp->Prop)->Prop
 | [],_,H,Q=>Q [] H
 |(tk,tv)::r,σ,H,Q=>tk σ H λx H1=>tv σ H1 λy H2=>Qq r σ H2 λps H3=>Q ((x,y)::ps) H3
abbrev VV:Wp (V×V)->Wp (qT×qT)->Prop:=Paired λp q=>RelV p.1 q.1/\RelV p.2 q.2
def PPs(X:Cx)(pos:Pos)(keys:Wp (qY rJ))(values:Wp rJ)(trs:Wp (TE×TE)):Prop:=
 ∀(pins:Wp (qb×Obj)) (s:qX) (σ:St) (H:Hp) (Q:Wp (V×V)->Hp->Prop),Inv X pins σ H s->Qq trs σ H Q->
  wpAny (model X.prog X.w) X.A (evalPairs (pairTrees keys values X.env pos)) (λvs s'=>∃ps H',Inv X pins σ H' s'/\VV ps vs/\Q ps H') X.xe s
theorem Y6{X:Cx}{pos:Pos}:PPs X pos [] [] []:=λpins s σ H Q I h=>pairTrees_nil_walk ⟨[],H,I,.nil,h⟩
theorem WC{X:Cx}{pos:Pos}{k v:rJ}{ks:Wp (qY rJ)}{vs:Wp rJ}{tk tv:TE}{trs:Wp (TE×TE)}(hk:PE X k tk)(hv:PE X v tv)(hr:PPs X pos ks vs trs):PPs X pos (Gc k::ks) (v::vs) ((tk,tv)::trs):=λpins s σ H Q I h=>
 pairTrees_cons_walk (thn (hk pins s σ H _ I h) λu s1 ⟨x,H1,I1,rx,q1⟩=>thn (hv pins s1 σ H1 _ I1 q1) λw2 s2 ⟨y,H2,I2,ry,q2⟩=>
  thn (hr pins s2 σ H2 _ I2 q2) λws s3 ⟨ps,H3,I3,rel,q3⟩=>⟨(x,y)::ps,H3,I3,.cons ⟨rx,ry⟩ rel,q3⟩)
noncomputable def Kl(kvs more:Wp (Key×V)):Wp (Key×V):=more.foldl (λacc kv=>putK acc kv.1 kv.2) kvs
theorem KV.merge:∀{more:Wp (Key×V)} {rs:Wp (Key×qT)} {kvs:Wp (Key×V)} {vs:Wp (Key×qT)},KV more rs->KV kvs vs->KV (Kl kvs more) (merged vs rs):=by
 intro more rs kvs vs r
 unfold KV at r
 induction r generalizing kvs vs with
 |nil=>intro q;exact q
 | @cons p q ps qs h t ih=>
   intro r0
   have e:KV (putK kvs p.1 p.2) (stored vs q.1 q.2):=by
    have:=r0.put p.1 h.2
    rw[<-h.1];exact this
   exact ih e
theorem Il:∀(more kvs:Wp (Key×V)),(Kl kvs more).length<=kvs.length+more.length
 | [],kvs=>by show kvs.length<=kvs.length+0;lia
 |p::r,kvs=>by
  have h1:=Il r (putK kvs p.1 p.2)
  have h2:=IF kvs p.1 p.2
  show(Kl (putK kvs p.1 p.2) r).length<=_
  rw[rV];lia
theorem Lx{P:rF}{w:rX}:∀{kvs:Wp (Key×V)} {ws:Wp (qT×qT)},VV (kvs.map λkv=>(kV kv.1,kv.2)) ws->∃rs,Carries (CJ P w) ws rs/\KV kvs rs
 | [],_,r=>by rw[uC]at r;cases r;exact⟨[],vS,.nil⟩
 |p::kvs,_,r=>by
  rw[rD]at r
  cases r with
  | @cons a b as bs h t=>
    obtain⟨rs,c,q⟩:=Lx (P:=P) (w:=w) t
    obtain⟨b1,b2⟩:=b
    exact⟨(p.1,b2)::rs,⟨VZ h.1,rfl,c⟩,.cons ⟨rfl,h.2⟩ q⟩
noncomputable def j6(trs:Wp (TE×TE)):TE:=λσ H Q=>∀p,H p=none->Qq trs σ (upd H p (.dK [])) λps H2=>H2 p=Gc (.dK [])/\∃kvs:Wp (Key×V),ps=kvs.map (λkv=>(kV kv.1,kv.2))/\kvs.length<=15/\Q (.ref p) (upd H2 p (.dK (Kl [] kvs)))
theorem Zl{X:Cx}{pos:Pos}{keys:Wp (qY rJ)}{values:Wp rJ}{trs:Wp (TE×TE)}(h:PPs X pos keys values trs)(hall:keys.all (·.isSome)=true)(hl:keys.length=values.length)(h0:keys≠[])(h15:keys.length<=15):PE X (.Dict keys values pos) (j6 trs):=by
 intro pins s σ H Q I q
 have hn:=I.hok.fresh (qg s.heap.objs.size)
 have I1:=I.laid (a:=s.heap.objs.size) (o:=.dK []) (h':=s.heap.push {cls:=.type "dict",data:=.dict #[]}) (t':=s.toks) (λ_ _ q=>qU _ q) (qg _) (Qx s.heap I.big)
 refine wpAny_Dict_walk (knd:=CJ X.prog X.w) hall hl h0 h15 (thn (h pins _ σ _ _ I1 (q _ hn)) λws s2 ⟨ps,H2,I2,rel,e,kvs,ep,lk,q2⟩=>?_)
 subst ep
 obtain⟨rs,c,rk⟩:=Lx (P:=X.prog) (w:=X.w) rel
 obtain⟨z,hd,vs0,r0,dd⟩:=aE I2.hok e
 cases r0
 refine⟨rs,c,dd,λh' dd' hs=>⟨.ref s.heap.objs.size,_,?_,rfl,q2⟩⟩
 have hz:(Kl [] kvs).length<=sizeLine:=by
  have h1:=Il kvs []
  rw[uA]at h1
  rw[sizeLine_eq];lia
 have he:∃q,h'.get? s.heap.objs.size=Gc q:=let⟨q,_,_,hq,_⟩:=dd';⟨q,hq⟩
 exact Px I2 (by rw[e];exact vS) hs he (VH hz hd (rk.merge .nil) dd')
structure M1(X:Cx)(o:rJ)(m:Str)(apos:Pos)(e:rJ)(cpos:Pos):Prop where
 base:attributeBase o m X.env (eval o X.env)=eval o X.env
 few:((backTo cpos (rB [e] X.env)).all (λx=> !x.1) && (backToKw cpos (keywordEach [] X.env)).all (λx=>x.1.isSome)
  && decide (([e]:Wp rJ).length+([]:Wp yS).length+(if([]:Wp yS).isEmpty then 0 else 1)<30))=true
 line:(apos.endLine==cpos.line)=true
 trees:backTo cpos (rB [e] X.env)=[(false,eval e X.env)]
structure M2(X:Cx)(o:rJ)(m:Str)(apos:Pos)(e f:rJ)(cpos:Pos):Prop where
 base:attributeBase o m X.env (eval o X.env)=eval o X.env
 few:((backTo cpos (rB [e,f] X.env)).all (λx=> !x.1) && (backToKw cpos (keywordEach [] X.env)).all (λx=>x.1.isSome)
  && decide (([e,f]:Wp rJ).length+([]:Wp yS).length+(if([]:Wp yS).isEmpty then 0 else 1)<30))=true
 line:(apos.endLine==cpos.line)=true
 trees:backTo cpos (rB [e,f] X.env)=[(false,eval e X.env),(false,eval f X.env)]
def IsD(H:Hp)(a:qb):Prop:=(∃kvs,Rd H a (.dK kvs))\/∃kvs,Rd H a (.dT kvs)
theorem fB{X:Cx}{pins:Wp (qb×Obj)}{σ:St}{H:Hp}{s:qX}{a:qb}(I:Inv X pins σ H s)(d:IsD H a):s.TypeIs (.ref a) "dict" /\(∀b,rY a=.ref b->∃ob,s.heap.get? b=Gc ob/\ob.dict=none)/\(a==sysModules)=false:=by
 rcases d with⟨kvs,e⟩|⟨kvs,e⟩
 .obtain⟨_,hd,vs,_,dd⟩:=Vu I.hok e
  refine⟨dd.typeIs,λb q=>?_,hd⟩
  cases q
  obtain⟨ob,_,_,h1,h2,_⟩:=dd
  exact⟨ob,h1,h2.2.1⟩
 .obtain⟨_,hd,xs,_,dd⟩:=Wm I.hok e
  refine⟨dd.typeIs,λb q=>?_,hd⟩
  cases q
  obtain⟨ob,_,_,h1,h2,_⟩:=dd
  exact⟨ob,h1,h2.2.1⟩
section
variable{X:Cx}{pins:Wp (qb×Obj)}{σ:St}{H:Hp}{s:qX}{a:qb}{y d:V}{u r:qT}{o:qY V}{A:rS}{E:qT->qX->Prop}
theorem dG{Q:qT->qX->Prop}(hu:A.units+1<cLine)(I:Inv X pins σ H s)(g:bS H a y o)(ry:RelV y u)(rd:RelV d r)(h:∀w' s',Inv X pins σ H s'->RelV (o.getD d) w'->Q w' s'):wpAny (model X.prog X.w) A (call (.builtin "dict.get") [.ref a,u,r]) Q E s:=by
 rcases g with⟨kvs,k,e,ey,l⟩|⟨kvs,k,b,e,ey,eb,l⟩
 .subst ey
  obtain⟨z,hd,vs,rel,dd⟩:=Vu I.hok e
  refine call_meetsIn xI dd.typeIs zD (yv _ _ _) (meets_dict_get_default (CJ X.prog X.w) a (VZ ry) hd r) ⟨_,dd.mapOf,h _ _ (I.tok _) ?_⟩
  rw[l]
  exact(rel.val k).getD rd
 .subst ey
  cases (show u=rY b from ry)
  obtain⟨z,hd,xs,rel,dd⟩:=Wm I.hok e
  refine call_meetsIn xI dd.typeIs zD (yv _ _ _) (meetsH_dict_get_default (tupleKind (CJ X.prog X.w)) a b hd r) ⟨yD hu,k,xs,Qe I.hok eb,dd,h _ _ (I.tok _) ?_⟩
  rw[l]
  exact(rel.val k).getD rd
end
noncomputable def bw(td ty tx:TE):TE:=λσ H Q=>td σ H λx H1=>∃a,x=.ref a/\IsD H1 a/\ty σ H1 λy H2=>tx σ H2 λz H3=>∃o,bS H3 a y o/\Q (o.getD z) H3
section
variable{X:Cx}{o e f:rJ}{apos cpos:Pos}{td ty tx:TE}
theorem Xi(hu:X.A.units+1<cLine)(ho:PE X o td)(he:PE X e ty)(hf:PE X f tx)(m:M2 X o "get" apos e f cpos):PE X (.Call (.Attribute o "get" apos) [e,f] [] cpos) (bw td ty tx):=by
 intro pins s σ H Q I h
 refine wpAny_Call_method m.base m.few m.line PySem.F.plainAttrs_dict xI PySem.F.type_dict_get (thn (ho pins s σ H _ I h) λu s1 ⟨x,H1,I1,rx,a,ex,d,q1⟩=>?_)
 subst ex
 obtain rfl:u=rY a:=rx
 obtain⟨t1,t2,_⟩:=fB I1 d
 refine⟨t1,t2,?_⟩
 rw[m.trees]
 refine zC rfl (xV (wG (thn (he pins s1 σ H1 _ I1 q1) λiv s2 ⟨y,H2,I2,ry,q2⟩=>
  wG (thn (hf pins s2 σ H2 _ I2 q2) λfv s3 ⟨z,H3,I3,rz,ov,g,q3⟩=>xo ?_))))
 exact dG hu I3 g ry rz λw' s4 I4 rw'=>⟨_,H3,I4,rw',q3⟩
end
section
variable{X:Cx}{pins:Wp (qb×Obj)}{σ:St}{H:Hp}{s:qX}{a:qb}{kvs:Wp (Key×V)}{A:rS}{E:qT->qX->Prop}
theorem WR{Q:qT->qX->Prop}(I:Inv X pins σ H s)(e:Rd H a (.dK kvs))(h:∀p s',H p=none->Inv X pins σ (upd H p (.dK kvs)) s'->Q (.ref p) s'):wpAny (model X.prog X.w) A (call (.type "dict") [.ref a]) Q E s:=by
 obtain⟨z,hd,vs,rel,dd⟩:=Vu I.hok e
 refine kt_call_dict hd dd (by rw[<-rel.length];exact z) λh' dd' hs=>?_
 refine h _ _ (I.hok.fresh (qg _)) (I.laid (a:=s.heap.objs.size) (o:=.dK kvs) (t':=s.toks) (λb q hq=>?_) (qg _) (VH z (xn.mpr (rh (qv I.big))) rel dd'))
 exact(hs.2 b (qv (qq hq))).trans (qU _ hq)
end
section
variable{X:Cx}{pins:Wp (qb×Obj)}{σ:St}{H:Hp}{s:qX}{a:qb}{y:V}{u:qT}{A:rS}{E:qT->qX->Prop}
end
end L2
end
noncomputable section
namespace L2
open PySem PySem.Spec PyProof.Rows
section
variable{prog:rF}{w:rX}{A:rS}{E:qT->qX->Prop}{s:qX}
theorem Rw{h:rT}{it t:qb}{i:Nat}{o:Obj}(ho:h.get? it=Gc o)(hc:o.cls=.type "tuple_iterator")(hd:o.data=.fields #[.ref t,.int i 0]){h':rT}(e:h'=h.update it (λo=>o.mapFields λa=>a.setIfInBounds 1 (rawInt ((i:Int)+1)))):h'.IsTupleIter it t (i+1):=by
 subst e
 have d:=sE hd λa=>a.setIfInBounds 1 (rawInt ((i:Int)+1))
 refine⟨_,rK _ ho (sU d),?_,?_⟩
 .rw[v5];exact hc
 .rw[d];simp[rawInt]
theorem Xw{it t:qb}{i:Nat}{items:rP qT}{x:qT}{Q:qT->qX->Prop}(hit:s.heap.IsTupleIter it t i)(ht:s.heap.IsTuple t items)(hx:items[i]?=Gc x)(hQ:∀h',h'.IsTupleIter it t (i+1)->uq it s.heap h'->Q x {s with heap:=h'}):wpAny (model prog w) A (sA (.ref it)) Q E s:=by
 obtain⟨⟨c,dd,dt,sl⟩,ho,hc,hd⟩:=id hit
 obtain⟨⟨c2,dd2,dt2,sl2⟩,ho2,hc2,n2,hd2⟩:=id ht
 simp only at hc hd hc2 hd2
 subst hc hd hc2 hd2
 unfold sA
 refine qR (sH (name:=tM "__next__") hit.typeIs vC (sD vC hit.typeIs xq ?_ (xg _)))
 unfold uQ.«tuple_iterator.__next__»
 wp_walk using rG ho,rG ho2
 have e:items[(i:Int).toNat]?=Gc x:=by rw[vy];exact hx
 rw[e]
 refine qR (tZ ho rfl (by simp) ?_)
 exact qa ⟨x,rfl,qa (hQ _ (Rw ho rfl rfl rfl) (sx ..))⟩
theorem Wc{it t:qb}{i:Nat}{items:rP qT}{Q:qT->qX->Prop}(hh:A.handled=none)(hit:s.heap.IsTupleIter it t i)(ht:s.heap.IsTuple t items)(hx:items[i]?=none)(hE:∀h' e,wg it s.heap h'->(∃o,h'.get? e=Gc o/\o.cls=.type "StopIteration")->E (.ref e) {s with heap:=h'}):wpAny (model prog w) A (sA (.ref it)) Q E s:=by
 obtain⟨⟨c,dd,dt,sl⟩,ho,hc,hd⟩:=id hit
 obtain⟨⟨c2,dd2,dt2,sl2⟩,ho2,hc2,n2,hd2⟩:=id ht
 simp only at hc hd hc2 hd2
 subst hc hd hc2 hd2
 unfold sA
 refine qR (sH (name:=tM "__next__") hit.typeIs vC (sD vC hit.typeIs xq ?_ (xg _)))
 unfold uQ.«tuple_iterator.__next__»
 wp_walk using rG ho,rG ho2
 have e:items[(i:Int).toNat]?=none:=by rw[vy];exact hx
 rw[e]
 refine qR (vA (qR (tZ ho rfl (by simp) ?_)))
 have hh1:A.in1.handled=none:=hh
 unfold Builtin.SmallTypes.stopIteration
 simp only[newExc,newTuple,raiseNew]
 wp_walk
 refine hE _ _ ?_ ⟨_,qk _ rfl,rfl⟩
 have a:=(sx (a:=it) (h:=s.heap) (f:=se λx=>x.setIfInBounds 0 rf)).extBut
 exact(a.push _).push _
theorem T5(l:qb)(items:rP qT)(n:Nat)(dct:qY qb)(sl:rP (qY qT)):Meets (uQ.«enumerate.__new__» ⟨[.type "enumerate",.ref l],[]⟩) (λ_ R s=>s.heap.get? l=Gc {cls:=.type "tuple",dict:=dct,data:=.seq items n,slots:=sl}/\R (.ok (.ret (.ref (s.heap.objs.size+1)))) {s with heap:=(s.heap.push {cls:=.type "tuple_iterator",data:=.fields #[.ref l,.int 0 0]}).push {cls:=.type "enumerate",data:=.fields #[.none,.bool false,.ref s.heap.objs.size,rawInt 0,.none,.none]}}):=
 .of_wp λprog w A R s h=>by
  obtain⟨hp,g,d,tk,os⟩:=s
  obtain⟨hl,h⟩:=h
  have hsub:=sub_enumerate
  have hT:xr (vP ⟨hp,g,d,tk,os⟩) l items:=⟨_,hl,rfl,n,rfl⟩
  wp_walk using rG hl
  refine wpAny_stack_any λst=>qa ?_
  split
  .rename_i c _ _ _ _ _
   cases (c==wX "enumerate")<;>(wp_walk using rG hl,uW hT)<;>(refine⟨_,rfl,?_⟩;rw[rQ];exact h)
  .wp_walk using rG hl,uW hT
   refine⟨_,rfl,?_⟩
   rw[rQ]
   exact h
theorem Rz{l:qb}{items:rP qT}{Q:qT->qX->Prop}(hT:s.heap.IsTuple l items)(h:∀h',IsEnum h' (s.heap.objs.size+1) s.heap.objs.size 0 .none->h'.IsTupleIter s.heap.objs.size l 0->(∀b o,s.heap.get? b=Gc o->h'.get? b=Gc o)->Q (.ref (s.heap.objs.size+1)) {s with heap:=h'}):wpAny (model prog w) A (call (.type "enumerate") [.ref l]) Q E s:=by
 obtain⟨⟨c,dct,dt,sl⟩,hl,hc,n,hd⟩:=hT
 simp only at hc hd
 subst hc hd
 refine callType_new F.called_enumerate (by decide) (F.typeCall_enumerate_1 _) (F.newCall_enumerate_1 _) (λobj=>F.args_object_init_2 obj _) F.entry_enumerate_new (T5 l items n dct sl) ⟨hl,?_⟩
 have z:=qk (s.heap.push {cls:=.type "tuple_iterator",data:=.fields #[.ref l,.int 0 0]}) (o:={cls:=.type "enumerate",data:=.fields #[.none,.bool false,.ref s.heap.objs.size,rawInt 0,.none,.none]}) rfl
 rw[rQ]at z
 exact⟨⟨_,z,rfl⟩,h _ z ⟨_,qU _ (qk _ rfl),rfl,rfl⟩ λb o x=>qU _ (qU _ x)⟩
end
section
variable{X:Cx}
end
end L2
end
noncomputable section
namespace L2
open PySem PySem.Spec PyProof.Rows
structure TopD(K:qS)(w:rX)(a:qb)(kvs:Wp (Str×V)):Prop where
 ex:∃(es:rP DictEntry) (n:Nat),K.lookup a=Gc ⟨.type "dict",none,.dict es n, #[]⟩/\PySem.W.KeysLit w.params es.toList/\(a==sysModules)=false/\∀x,V6 (kvs.lookup x) (findBy AAF es x)
section
variable{X:Cx}
end
end L2
end
noncomputable section
namespace L2
open PySem PySem.Spec PyProof.Rows
def SIt(h:rT)(j l:qb)(i:Nat)(its:rP qT):Prop:=(h.IsListIter j l i/\h.IsList l its)\/(h.IsTupleIter j l i/\h.IsTuple l its)
section
variable{prog:rF}{w:rX}{A:rS}{E:qT->qX->Prop}{s:qX}{h h':rT}{j l:qb}{i:Nat}{its:rP qT}
theorem SIt.at(q:SIt h j l i its)(k1:∀o,h.get? j=Gc o->h'.get? j=Gc o)(k2:∀o,h.get? l=Gc o->h'.get? l=Gc o):SIt h' j l i its:=by
 rcases q with⟨a,b⟩|⟨a,b⟩
 .exact .inl ⟨a.at k1,b.at k2⟩
 .exact .inr ⟨a.at k1,let⟨o,e,r⟩:=b;⟨o,k2 o e,r⟩⟩
theorem SIt.but{c:qb}(q:SIt h j l i its)(sb:wg c h h')(n1:j≠c)(n2:l≠c):SIt h' j l i its:=q.at (λo e=>sb _ o n1 e) λo e=>sb _ o n2 e
theorem SIt.live(q:SIt h j l i its):∃o,h.get? j=Gc o/\∀v,o.data≠.cell v:=by
 rcases q with⟨⟨o,a,b,c⟩,_⟩|⟨⟨o,a,b,c⟩,_⟩
 .exact⟨o,a,λv z=>by rw[c]at z;cases z⟩
 .exact⟨o,a,λv z=>by rw[c]at z;cases z⟩
theorem SIt.ne(q:SIt h j l i its):l≠j:=by
 rcases q with⟨⟨o,a,b,_⟩,⟨o2,a2,b2,_⟩⟩|⟨⟨o,a,b,_⟩,⟨o2,a2,b2,_⟩⟩
 .intro z;subst z;rw[a]at a2;cases a2;rw[b]at b2;injection b2 with q;exact absurd q (by decide)
 .intro z;subst z;rw[a]at a2;cases a2;rw[b]at b2;injection b2 with q;exact absurd q (by decide)
theorem KN{x:qT}{Q:qT->qX->Prop}(q:SIt s.heap j l i its)(hx:its[i]?=Gc x)(k:∀h',SIt h' j l (i+1) its->uq j s.heap h'->Q x {s with heap:=h'}):wpAny (model prog w) A (sA (.ref j)) Q E s:=by
 have n:=q.ne
 rcases q with⟨a,b⟩|⟨a,b⟩
 .exact wpAny_nextOf_list_item a b hx λh' a' sb=>k h' (.inl ⟨a',b.extBut sb.extBut n⟩) sb
 .exact Xw a b hx λh' a' sb=>k h' (.inr ⟨a',let⟨o,e,r⟩:=b;⟨o,sb.extBut _ o n e,r⟩⟩) sb
theorem KU{Q:qT->qX->Prop}(hh:A.handled=none)(q:SIt s.heap j l i its)(hx:its[i]?=none)(k:∀h' e,wg j s.heap h'->(∃o,h'.get? e=Gc o/\o.cls=.type "StopIteration")->E (.ref e) {s with heap:=h'}):wpAny (model prog w) A (sA (.ref j)) Q E s:=by
 rcases q with⟨a,b⟩|⟨a,b⟩
 .exact wpAny_nextOf_list_end hh a b hx k
 .exact Wc hh a b hx k
theorem UW{z ti tt j1 j2 l1 l2:qb}{m:Nat}{xs ys:rP qT}{x y u1 u2:qT}{Q:qT->qX->Prop}(D:ZipApart z ti tt j1 j2 l1 l2)(oz:yE s.heap z ti tt .none)(oi:vU s.heap ti (.ref j1) (.ref j2))(ot:vU s.heap tt u1 u2)(q1:SIt s.heap j1 l1 m xs)(q2:SIt s.heap j2 l2 m ys)(ex:xs[m]?=Gc x)(ey:ys[m]?=Gc y)(k:∀h',yE h' z ti tt (rawInt s.heap.objs.size)->vU h' tt x y->SIt h' j1 l1 (m+1) xs->SIt h' j2 l2 (m+1) ys->vU h' s.heap.objs.size x y->(∀c o,c≠z->c≠tt->c≠j1->c≠j2->s.heap.get? c=Gc o->h'.get? c=Gc o)->Q (.ref s.heap.objs.size) {s with heap:=h'}):wpAny (model prog w) A (uQ.«zip.__next__» ⟨[.ref z],[]⟩) (λfin s'=>∃v,fin=.done (.ret v)/\Q v s') E s:=by
 show wpAny _ _ (field (.ref z) 2 >>= _) _ _ _
 refine qR (uH oz rfl (x:=.bool false) rfl ?_)
 show wpAny _ _ (field (.ref z) 3 >>= _) _ _ _
 refine qR (uH oz rfl (x:=.ref ti) rfl (qR (tT oi rfl ?_)))
 show wpAny _ _ (uJ (.ref z) >>= _) _ _ _
 refine qR ?_
 unfold uJ
 refine qR (uH oz rfl (x:=.none) rfl (qa ?_))
 simp only[wW]
 refine qR (vA (qR (uH oz rfl (x:=.ref tt) rfl (qR (vD oz (by simp) λg1 oz1 b1=>?_)))))
 have oz1:yE g1 z ti tt .ellipsis:=oz1
 refine qR ?_
 simp only[List.zipIdx_cons,List.zipIdx_nil,zR,zk]
 refine qR (qR (ye ?_))
 show wpAny _ _ (sA (.ref j1) >>= _) _ _ _
 refine qR (KN (q1.but b1.extBut D.i1z D.l1z) ex λg2 q12 b2=>qa ?_)
 have ot2:vU g2 tt u1 u2:=b2.extBut _ _ D.TOi1 (b1.extBut _ _ D.TOz ot)
 refine qR (tT ot2 rfl (qR (xX ot2 λg3 ot3 b3=>?_)))
 have ot3:vU g3 tt x u2:=ot3
 refine qR (wB (qa (qR (qR (ye ?_)))))
 show wpAny _ _ (sA (.ref j2) >>= _) _ _ _
 refine qR (KN (((q2.but b1.extBut D.i2z D.l2z).but b2.extBut D.i12.symm D.l2i1).but b3.extBut D.TOi2.symm D.l2TO) ey λg4 q24 b4=>qa ?_)
 have ot4:vU g4 tt x u2:=b4.extBut _ _ D.TOi2 ot3
 refine qR (tT ot4 rfl (qR (xX ot4 λg5 ot5 b5=>?_)))
 have ot5:vU g5 tt x y:=ot5
 refine qR (wB (qa (qa (qR (tT ot5 rfl (qR (wpAny_newTuple ?_)))))))
 have sz:g5.objs.size=s.heap.objs.size:=by rw[b5.1,b4.1,b3.1,b2.1,b1.1]
 have oz5:yE g5 z ti tt .ellipsis:=b5.extBut _ _ D.TOz.symm (b4.extBut _ _ D.i2z.symm (b3.extBut _ _ D.TOz.symm (b2.extBut _ _ D.i1z.symm oz1)))
 have k5:∀c o,c≠z->c≠tt->c≠j1->c≠j2->s.heap.get? c=Gc o->g5.get? c=Gc o:=λc o c1 c2 c3 c4 e=>b5.extBut _ _ c2 (b4.extBut _ _ c4 (b3.extBut _ _ c2 (b2.extBut _ _ c3 (b1.extBut _ _ c1 e))))
 have q15:SIt g5 j1 l1 (m+1) xs:=((q12.but b3.extBut D.TOi1.symm D.l1TO).but b4.extBut D.i12 D.l1i2).but b5.extBut D.TOi1.symm D.l1TO
 have q25:SIt g5 j2 l2 (m+1) ys:=q24.but b5.extBut D.TOi2.symm D.l2TO
 have zlt:z<g5.objs.size:=qq oz5
 show wpAny _ _ (wM (.ref z) (.ref g5.objs.size) >>= _) _ _ _
 refine qR ?_
 unfold wM
 have oz6:yE (g5.push {cls:=.type "tuple",data:=.seq #[x,y]}) z ti tt .ellipsis:=qU _ oz5
 refine qR (vD oz6 (by simp) λg7 oz7 b7=>?_)
 have oz7:yE g7 z ti tt (rawInt g5.objs.size):=oz7
 refine vD oz7 (by simp) λg8 oz8 b8=>?_
 have oz8:yE g8 z ti tt (rawInt g5.objs.size):=oz8
 have up:∀c o,c≠z->g5.get? c=Gc o->g8.get? c=Gc o:=λc o c1 e=>b8.extBut _ _ c1 (b7.extBut _ _ c1 (qU _ e))
 have op8:vU g8 g5.objs.size x y:=b8.extBut _ _ (ur zlt) (b7.extBut _ _ (ur zlt) (qk _ rfl))
 rw[sz]at oz8 op8
 refine qa ⟨_,rfl,?_⟩
 show Q (.ref g5.objs.size) _
 rw[sz]
 exact k g8 oz8 (up _ _ D.TOz ot5) (q15.at (λo e=>up _ o D.i1z e) λo e=>up _ o D.l1z e) (q25.at (λo e=>up _ o D.i2z e) λo e=>up _ o D.l2z e) op8 λc o c1 c2 c3 c4 e=>up c o c1 (k5 c o c1 c2 c3 c4 e)
theorem XJ{z ti tt j1 j2 l1 l2:qb}{m:Nat}{xs ys:rP qT}{u1 u2:qT}{Q:Fin->qX->Prop}(hh:A.handled=none)(D:ZipApart z ti tt j1 j2 l1 l2)(oz:yE s.heap z ti tt .none)(oi:vU s.heap ti (.ref j1) (.ref j2))(ot:vU s.heap tt u1 u2)(q1:SIt s.heap j1 l1 m xs)(q2:SIt s.heap j2 l2 m ys)(en:xs[m]?=none\/ys[m]?=none)(k:∀h' e,(∀c o,c≠z->c≠tt->c≠j1->c≠j2->s.heap.get? c=Gc o->h'.get? c=Gc o)->(∃o,h'.get? e=Gc o/\o.cls=.type "StopIteration")->E (.ref e) {s with heap:=h'}):wpAny (model prog w) A (uQ.«zip.__next__» ⟨[.ref z],[]⟩) Q E s:=by
 show wpAny _ _ (field (.ref z) 2 >>= _) _ _ _
 refine qR (uH oz rfl (x:=.bool false) rfl ?_)
 show wpAny _ _ (field (.ref z) 3 >>= _) _ _ _
 refine qR (uH oz rfl (x:=.ref ti) rfl (qR (tT oi rfl ?_)))
 show wpAny _ _ (uJ (.ref z) >>= _) _ _ _
 refine qR ?_
 unfold uJ
 refine qR (uH oz rfl (x:=.none) rfl (qa ?_))
 simp only[wW]
 refine qR (vA (qR (uH oz rfl (x:=.ref tt) rfl (qR (vD oz (by simp) λg1 oz1 b1=>?_)))))
 have oz1:yE g1 z ti tt .ellipsis:=oz1
 refine qR ?_
 simp only[List.zipIdx_cons,List.zipIdx_nil,zR,zk]
 refine qR (qR (ye ?_))
 show wpAny _ _ (sA (.ref j1) >>= _) _ _ _
 cases ex:xs[m]? with
 |none=>
  refine qR (KU hh (q1.but b1.extBut D.i1z D.l1z) ex λg2 e b2 he=>?_)
  obtain⟨oe,e1,e2⟩:=he
  have oz2:yE g2 z ti tt .ellipsis:=b2 _ _ D.i1z.symm oz1
  have nez:e≠z:=λx=>by subst x;rw[oz2]at e1;cases e1;simp at e2
  exact vD oz2 (by simp) λg3 _ b3=>k g3 e (λc o c1 _ c3 _ x=>b3.extBut _ _ c1 (b2 _ _ c3 (b1.extBut _ _ c1 x))) ⟨oe,b3.extBut _ _ nez e1,e2⟩
 |some x=>
  have ey:ys[m]?=none:=by
   rcases en with z|z
   .rw[ex]at z;cases z
   .exact z
  refine qR (KN (q1.but b1.extBut D.i1z D.l1z) ex λg2 q12 b2=>qa ?_)
  have ot2:vU g2 tt u1 u2:=b2.extBut _ _ D.TOi1 (b1.extBut _ _ D.TOz ot)
  refine qR (tT ot2 rfl (qR (xX ot2 λg3 ot3 b3=>?_)))
  refine qR (wB (qa (qR (qR (ye ?_)))))
  show wpAny _ _ (sA (.ref j2) >>= _) _ _ _
  refine qR (KU hh (((q2.but b1.extBut D.i2z D.l2z).but b2.extBut D.i12.symm D.l2i1).but b3.extBut D.TOi2.symm D.l2TO) ey λg4 e b4 he=>?_)
  obtain⟨oe,e1,e2⟩:=he
  have oz4:yE g4 z ti tt .ellipsis:=b4 _ _ D.i2z.symm (b3.extBut _ _ D.TOz.symm (b2.extBut _ _ D.i1z.symm oz1))
  have nez:e≠z:=λx=>by subst x;rw[oz4]at e1;cases e1;simp at e2
  exact vD oz4 (by simp) λg5 _ b5=>k g5 e (λc o c1 c2 c3 c4 x=>b5.extBut _ _ c1 (b4 _ _ c4 (b3.extBut _ _ c2 (b2.extBut _ _ c3 (b1.extBut _ _ c1 x))))) ⟨oe,b5.extBut _ _ nez e1,e2⟩
theorem SR{z ti tt j1 j2 l1 l2:qb}{m:Nat}{xs ys:rP qT}{x y u1 u2:qT}{Q:qY qT->qX->Prop}(D:ZipApart z ti tt j1 j2 l1 l2)(oz:yE s.heap z ti tt .none)(oi:vU s.heap ti (.ref j1) (.ref j2))(ot:vU s.heap tt u1 u2)(q1:SIt s.heap j1 l1 m xs)(q2:SIt s.heap j2 l2 m ys)(ex:xs[m]?=Gc x)(ey:ys[m]?=Gc y)(k:∀h',yE h' z ti tt (rawInt s.heap.objs.size)->vU h' tt x y->SIt h' j1 l1 (m+1) xs->SIt h' j2 l2 (m+1) ys->vU h' s.heap.objs.size x y->(∀c o,c≠z->c≠tt->c≠j1->c≠j2->s.heap.get? c=Gc o->h'.get? c=Gc o)->Q (Gc (.ref s.heap.objs.size)) {s with heap:=h'}):wpAny (model prog w) A (pyNext (.ref z)) Q E s:=by
 have ht:s.TypeIs (.ref z) "zip":=⟨_,oz,rfl⟩
 unfold pyNext
 exact qR (wU (sH (name:=tM "__next__") ht xh (sD xh ht F.entry_zip_next
  (UW D oz oi ot q1 q2 ex ey λh' a1 a2 a3 a4 a5 a6=>qa (k h' a1 a2 a3 a4 a5 a6)) (F.args_zip_next_1 _))))
theorem V1{z ti tt j1 j2 l1 l2:qb}{m:Nat}{xs ys:rP qT}{u1 u2:qT}{Q:qY qT->qX->Prop}(hh:A.handled=none)(D:ZipApart z ti tt j1 j2 l1 l2)(oz:yE s.heap z ti tt .none)(oi:vU s.heap ti (.ref j1) (.ref j2))(ot:vU s.heap tt u1 u2)(q1:SIt s.heap j1 l1 m xs)(q2:SIt s.heap j2 l2 m ys)(en:xs[m]?=none\/ys[m]?=none)(k:∀h',(∀c o,c≠z->c≠tt->c≠j1->c≠j2->s.heap.get? c=Gc o->h'.get? c=Gc o)->Q none {s with heap:=h'}):wpAny (model prog w) A (pyNext (.ref z)) Q E s:=by
 have ht:s.TypeIs (.ref z) "zip":=⟨_,oz,rfl⟩
 unfold pyNext
 refine qR (wU (sH (name:=tM "__next__") ht xh (sD xh ht F.entry_zip_next
  (XJ hh D oz oi ot q1 q2 en λh' e kp he=>?_) (F.args_zip_next_1 _))))
 obtain⟨o,e1,e2⟩:=he
 exact qR (wH (T:="StopIteration") (b:=true) ⟨o,e1,e2⟩ zl (qa (k _ kp)))
end
end L2
end
noncomputable section
namespace L2
open PySem PySem.Spec PyProof.Rows
def Lj(h:rT)(b:rR)(l:qb)(its:rP qT):Prop:=match b with|true=>h.IsTuple l its|false=>h.IsList l its
noncomputable def bX:rR->uO|true=>"tuple_iterator" |false=>"list_iterator"
noncomputable def zh1(h:rT)(b:rR)(l:qb):rT:=h.push {cls:=.type (bX b),data:=.fields #[.ref l,.int 0 0]}
noncomputable def zh2(h:rT)(b c:rR)(l m:qb):rT:=zh1 (zh1 h b l) c m
noncomputable def zh3(h:rT)(b c:rR)(l m:qb):rT:=(zh2 h b c l m).push {cls:=.type "tuple",data:=.seq #[.ref h.objs.size,.ref (zh1 h b l).objs.size]}
noncomputable def zh4(h:rT)(b c:rR)(l m:qb):rT:=(zh3 h b c l m).push {cls:=.type "tuple",data:=.seq #[.none,.none]}
noncomputable def zh5(h:rT)(b c:rR)(l m:qb):rT:=(zh4 h b c l m).push {cls:=.type "zip",data:=.fields #[.none,.bool false,.bool false,.ref (zh2 h b c l m).objs.size,.ref (zh3 h b c l m).objs.size]}
theorem Lj.push{h:rT}{b:rR}{l:qb}{its:rP qT}(q:Lj h b l its)(o:Obj):Lj (h.push o) b l its:=by
 cases b
 .exact Heap.IsList.push q _
 .obtain⟨u,e,r⟩:=(show h.IsTuple l its from q)
  exact⟨u,qU _ e,r⟩
theorem Wr(b c:rR)(l m:qb)(xs ys:rP qT):Meets (uQ.«zip.__new__» ⟨[.type "zip",.ref l,.ref m],[]⟩) (λ_ R s=>Lj s.heap b l xs/\Lj s.heap c m ys/\R (.ok (.ret (.ref (zh4 s.heap b c l m).objs.size))) {s with heap:=zh5 s.heap b c l m}):=
 .of_wp λprog w A R s hyp=>by
  obtain⟨hp,gs,dr,tk,os⟩:=s
  obtain⟨i1,i2,hyp⟩:=hyp
  have hsub:=sub_zip
  have i3:Lj (vP ⟨zh1 hp b l,gs,dr,tk,os⟩) c m ys:=Lj.push i2 _
  cases b<;>cases c
  .have a1:zo (vP ⟨hp,gs,dr,tk,os⟩) l xs:=i1
   have a2:zo (vP ⟨hp.push {cls:=.type "list_iterator",data:=.fields #[.ref l,.int 0 0]},gs,dr,tk,os⟩) m ys:=i3
   wp_walk using tJ a1,tJ a2
   exact⟨_,rfl,hyp⟩
  .have a1:zo (vP ⟨hp,gs,dr,tk,os⟩) l xs:=i1
   have a2:xr (vP ⟨hp.push {cls:=.type "list_iterator",data:=.fields #[.ref l,.int 0 0]},gs,dr,tk,os⟩) m ys:=i3
   wp_walk using tJ a1,uW a2
   exact⟨_,rfl,hyp⟩
  .have a1:xr (vP ⟨hp,gs,dr,tk,os⟩) l xs:=i1
   have a2:zo (vP ⟨hp.push {cls:=.type "tuple_iterator",data:=.fields #[.ref l,.int 0 0]},gs,dr,tk,os⟩) m ys:=i3
   wp_walk using uW a1,tJ a2
   exact⟨_,rfl,hyp⟩
  .have a1:xr (vP ⟨hp,gs,dr,tk,os⟩) l xs:=i1
   have a2:xr (vP ⟨hp.push {cls:=.type "tuple_iterator",data:=.fields #[.ref l,.int 0 0]},gs,dr,tk,os⟩) m ys:=i3
   wp_walk using uW a1,uW a2
   exact⟨_,rfl,hyp⟩
section
variable{prog:rF}{w:rX}{A:rS}{E:qT->qX->Prop}{s:qX}
theorem YN{h h':rT}{b:rR}{l j:qb}{its:rP qT}(q:Lj h b l its)(k:∀c o,h.get? c=Gc o->h'.get? c=Gc o)(e:h'.get? j=Gc {cls:=.type (bX b),data:=.fields #[.ref l,.int 0 0]}):SIt h' j l 0 its:=by
 cases b
 .exact .inl ⟨⟨_,e,rfl,rfl⟩,(show h.IsList l its from q).at λo z=>k _ o z⟩
 .exact .inr ⟨⟨_,e,rfl,rfl⟩,let⟨o,z,r⟩:=(show h.IsTuple l its from q);⟨o,k _ o z,r⟩⟩
theorem T9{b c:rR}{l m:qb}{xs ys:rP qT}{Q:qT->qX->Prop}(i1:Lj s.heap b l xs)(i2:Lj s.heap c m ys)(k:∀h',yE h' (s.heap.objs.size+4) (s.heap.objs.size+2) (s.heap.objs.size+3) .none->vU h' (s.heap.objs.size+2) (.ref s.heap.objs.size) (.ref (s.heap.objs.size+1))->vU h' (s.heap.objs.size+3) .none .none->SIt h' s.heap.objs.size l 0 xs->SIt h' (s.heap.objs.size+1) m 0 ys->(∀c o,s.heap.get? c=Gc o->h'.get? c=Gc o)->Q (.ref (s.heap.objs.size+4)) {s with heap:=h'}):wpAny (model prog w) A (call (.type "zip") [.ref l,.ref m]) Q E s:=by
 refine callType_new F.called_zip (by decide) (F.typeCall_zip_2 _ _) (F.newCall_zip_2 _ _) (λobj=>F.args_object_init_3 obj _ _) F.entry_zip_new (Wr b c l m xs ys) ⟨i1,i2,?_⟩
 have z1:(zh1 s.heap b l).objs.size=s.heap.objs.size+1:=rQ ..
 have z2:(zh2 s.heap b c l m).objs.size=s.heap.objs.size+2:=by unfold zh2 zh1;rw[rQ];exact congrArg (· +1) z1
 have z3:(zh3 s.heap b c l m).objs.size=s.heap.objs.size+3:=by unfold zh3;rw[rQ,z2]
 have z4:(zh4 s.heap b c l m).objs.size=s.heap.objs.size+4:=by unfold zh4;rw[rQ,z3]
 have kp:∀d o,s.heap.get? d=Gc o->(zh5 s.heap b c l m).get? d=Gc o:=λd o e=>by
  unfold zh5 zh4 zh3 zh2 zh1
  exact qU _ (qU _ (qU _ (qU _ (qU _ e))))
 have g5:(zh5 s.heap b c l m).get? (zh4 s.heap b c l m).objs.size=Gc _:=qk _ rfl
 have g4:(zh5 s.heap b c l m).get? (zh3 s.heap b c l m).objs.size=Gc _:=qU _ (qk _ rfl)
 have g3:(zh5 s.heap b c l m).get? (zh2 s.heap b c l m).objs.size=Gc _:=qU _ (qU _ (qk _ rfl))
 have g2:(zh5 s.heap b c l m).get? (zh1 s.heap b l).objs.size=Gc _:=qU _ (qU _ (qU _ (qk _ rfl)))
 have g1:(zh5 s.heap b c l m).get? s.heap.objs.size=Gc _:=qU _ (qU _ (qU _ (qU _ (qk _ rfl))))
 show _/\_
 rw[z2,z3,z4]at g5
 rw[z1,z2]at g3
 rw[z3]at g4
 rw[z1]at g2
 rw[z4]
 exact⟨⟨_,g5,rfl⟩,k _ g5 g3 g4 (YN i1 kp g1) (YN i2 kp g2) kp⟩
end
end L2
end
noncomputable section
namespace L2
open PySem PySem.Spec PyProof.Rows
def SqB(K:qS)(H:Hp)(k:rR)(a:qb)(xs:Wp V):Prop:=match k with|true=>SqT K H a xs|false=>SqL K H a xs
def JIt(h:rT)(k:rR)(j l:qb)(i:Nat):Prop:=match k with|true=>h.IsTupleIter j l i|false=>h.IsListIter j l i
theorem JIt.at{h h':rT}{k:rR}{j l:qb}{i:Nat}(q:JIt h k j l i)(e:∀o,h.get? j=Gc o->h'.get? j=Gc o):JIt h' k j l i:=by
 cases k
 .exact Heap.IsListIter.at q e
 .exact Heap.IsTupleIter.at q e
theorem JIt.sit{h:rT}{k:rR}{j l:qb}{i:Nat}{its:rP qT}(q:JIt h k j l i)(p:Lj h k l its):SIt h j l i its:=by
 cases k
 .exact .inl ⟨q,p⟩
 .exact .inr ⟨q,p⟩
theorem SIt.jit{h:rT}{k:rR}{j l:qb}{i:Nat}{its:rP qT}(q:SIt h j l i its)(p:Lj h k l its):JIt h k j l i:=by
 rcases q with⟨q,r⟩|⟨q,r⟩
 .cases k
  .exact q
  .obtain⟨o,e,c,_⟩:=r;obtain⟨o',e',c',_⟩:=(show h.IsTuple l its from p)
   rw[e]at e';cases e';rw[c]at c';injection c' with z;exact absurd z (by decide)
 .cases k
  .obtain⟨o,e,c,_⟩:=r;obtain⟨o',e',c',_⟩:=(show h.IsList l its from p)
   rw[e]at e';cases e';rw[c]at c';injection c' with z;exact absurd z (by decide)
  .exact q
theorem Inv.sqB{X:Cx}{pins:Wp (qb×Obj)}{σ:St}{H:Hp}{s:qX}{k:rR}{a:qb}{xs:Wp V}(I:Inv X pins σ H s)(h:SqB X.K H k a xs):∃its:Wp qT,Vals xs its/\Lj s.heap k a its.toArray:=by
 cases k
 .obtain⟨its,h1,⟨o,n,q1,q2,_,q3⟩,h3⟩:=I.list h
  exact⟨its,h1,o,q1,q2,n,q3⟩
 .obtain⟨its,h1,h2,h3⟩:=I.tuple h
  exact⟨its,h1,h2⟩
theorem Inv.QO{X:Cx}{pins:Wp (qb×Obj)}{σ:St}{H:Hp}{s:qX}{k:rR}{a:qb}{xs ys:Wp V}(I:Inv X pins σ H s)(h:SqB X.K H k a xs)(g:SqB X.K H k a ys):xs=ys:=by
 cases k
 .exact I.Qk h g
 .exact I.PB h g
noncomputable def Itz(K:qS)(k:rR)(a:qb)(m:rR)(b:qb):It:=
 ⟨λi H=>∃(xs ys:Wp V) (x y:V),SqB K H k a xs/\SqB K H m b ys/\xs[i]?=Gc x/\ys[i]?=Gc y,
  λi H v H'=>∃(p:qb) (x y:V),H p=none/\v=.ref p/\(∀xs,SqB K H k a xs->xs[i]?=Gc x)/\(∀ys,SqB K H m b ys->ys[i]?=Gc y)/\H'=upd H p (.tup [x,y]),
  λi H=>∃(xs ys:Wp V),SqB K H k a xs/\SqB K H m b ys/\(xs.length<=i\/ys.length<=i)⟩
structure ZSt(h:rT)(z ti tt j1 j2:qb)(k:rR)(a:qb)(m:rR)(b:qb)(i:Nat):Prop where
 oz:yE h z ti tt .none
 oi:vU h ti (.ref j1) (.ref j2)
 ot:∃u v,vU h tt u v
 q1:JIt h k j1 a i
 q2:JIt h m j2 b i
structure ZNe(z ti tt j1 j2:qb):Prop where
 n1:ti≠z
 n2:tt≠z
 n3:j1≠z
 n4:j2≠z
 n5:ti≠tt
 n6:ti≠j1
 n7:ti≠j2
 n8:tt≠j1
 n9:tt≠j2
 n10:j1≠j2
theorem ZNe.apart{z ti tt j1 j2 a b:qb}(N:ZNe z ti tt j1 j2)(ha:a∉ [z,tt,j1,j2])(hb:b∉ [z,tt,j1,j2]):ZipApart z ti tt j1 j2 a b:=by
 simp only[qj,rH,tm,yf]at ha hb
 exact⟨N.n1,N.n2,N.n3,N.n4,N.n5,N.n6,N.n7,N.n8,N.n9,N.n10,ha.1,ha.2.1,ha.2.2.1,ha.2.2.2,hb.1,hb.2.1,hb.2.2.1,hb.2.2.2⟩
theorem BJ{X:Cx}{pins:Wp (qb×Obj)}{σ:St}{H:Hp}{s:qX}{k:rR}{a c:qb}{xs:Wp V}(I:Inv X pins σ H s)(q:SqB X.K H k a xs)(f:QW X pins H c):a≠c:=by
 intro e
 subst e
 have rd:∀o,Rd H a o->uP:=λo r=>by
  rcases r with r|⟨_,r⟩<;>(rw[f.1]at r;cases r)
 have kk:∀o,X.K.lookup a=Gc o->uP:=λo hk=>by
  have b:=I.ok.mod.kin a o hk
  rcases f.2.2.2.1 with z|z
  .exact I.ok.YY a o b z
  .exact absurd (qf (qq (I.ok.bs a o b).1) z) (sV _)
 cases k
 .rcases(show SqL X.K H a xs from q)with q|⟨o,_,_,hk,_⟩
  .exact rd _ q
  .exact kk o hk
 .rcases(show SqT X.K H a xs from q)with q|⟨o,_,_,hk,_⟩
  .exact rd _ q
  .exact kk o hk
theorem XI{P:rF}{w:rX}{K:qS}{elts:Wp rJ}{n:Nat}{pos:Pos}(k:rR)(a:qb)(m:rR)(b:qb)(z ti tt j1 j2:qb)(N:ZNe z ti tt j1 j2):Turn P w K (.Tuple elts n pos) (Itz K k a m b) [z,ti,tt,j1,j2] z (λi h=>ZSt h z ti tt j1 j2 k a m b i) where
 mem:=by simp
 obj:=λi h st c hc=>by
  have jl:∀{q:rR} {j l:qb},JIt h q j l i->∃o,h.get? j=Gc o/\∀v,o.data≠.cell v:=λ{q j l} x=>by
   cases q
   .obtain⟨o,e,_,d⟩:=(show h.IsListIter j l i from x)
    exact⟨o,e,λv z=>by rw[d]at z;cases z⟩
   .obtain⟨o,e,_,d⟩:=(show h.IsTupleIter j l i from x)
    exact⟨o,e,λv z=>by rw[d]at z;cases z⟩
  simp only[qj,rH,tm]at hc
  rcases hc with rfl|rfl|rfl|rfl|rfl
  .exact⟨_,st.oz,λv z=>nomatch z⟩
  .exact⟨_,st.oi,λv z=>nomatch z⟩
  .obtain⟨u,v,e⟩:=st.ot
   exact⟨_,e,λv z=>nomatch z⟩
  .exact jl st.q1
  .exact jl st.q2
 keep:=λi h h' st kp=>⟨kp z (by simp) _ st.oz,kp ti (by simp) _ st.oi,let⟨u,v,e⟩:=st.ot;⟨u,v,kp tt (by simp) _ e⟩,st.q1.at λo e=>kp j1 (by simp) o e,st.q2.at λo e=>kp j2 (by simp) o e⟩
 item:=by
  intro X hP hw hK hc i pins s σ H E I hf st hg
  subst hP hw hK
  obtain⟨xs,ys,x,y,s1,s2,e1,e2⟩:=hg
  obtain⟨i1,r1,p1⟩:=I.sqB s1
  obtain⟨i2,r2,p2⟩:=I.sqB s2
  obtain⟨u1,h1,ru1⟩:=r1.get e1
  obtain⟨u2,h2,ru2⟩:=r2.get e2
  have fz:=hf z (by simp);have fi:=hf ti (by simp);have ft:=hf tt (by simp);have f1:=hf j1 (by simp);have f2:=hf j2 (by simp)
  have ap:=N.apart (a:=a) (b:=b) (by simp[BJ I s1 fz,BJ I s1 ft,BJ I s1 f1,BJ I s1 f2]) (by simp[BJ I s2 fz,BJ I s2 ft,BJ I s2 f1,BJ I s2 f2])
  obtain⟨v1,v2,ot⟩:=st.ot
  refine SR ap st.oz st.oi ot (st.q1.sit p1) (st.q2.sit p2) (x:=u1) (y:=u2) (by simpa using h1) (by simpa using h2) λh' oz ot' q1 q2 op kp=>⟨_,rfl,wpAny_letOwnedTupleGo_zip oz λg oz' sb=>?_⟩
  have lt:∀c o,s.heap.get? c=Gc o->c≠s.heap.objs.size:=λc o q=>qv (qq q)
  have nz:z≠s.heap.objs.size:=lt _ _ st.oz
  have nt:tt≠s.heap.objs.size:=lt _ _ ot
  have n1:j1≠s.heap.objs.size:=by obtain⟨o,e,_⟩:=(st.q1.sit p1).live;exact lt _ _ e
  have n2:j2≠s.heap.objs.size:=by obtain⟨o,e,_⟩:=(st.q2.sit p2).live;exact lt _ _ e
  have kp2:∀c o,c≠z->c≠tt->c≠j1->c≠j2->s.heap.get? c=Gc o->g.get? c=Gc o:=λc o c1 c2 c3 c4 q=>(sb.2 c c1).trans (kp c o c1 c2 c3 c4 q)
  have fr:H s.heap.objs.size=none:=I.hok.fresh (qg _)
  have op2:g.get? s.heap.objs.size=Gc {cls:=.type "tuple",data:=.seq #[u1,u2]}:=(sb.2 _ (rh nz)).trans op
  have ne:∀c u,c∈ [z,ti,tt,j1,j2]->∀d,H d=Gc u->d≠c:=λc u hc d q e=>by rw[e,(hf c hc).1]at q;cases q
  have kpH:∀c u,H c=Gc u->∀o,s.heap.get? c=Gc o->g.get? c=Gc o:=λc u q o e=>kp2 c o (ne z u (by simp) c q) (ne tt u (by simp) c q) (ne j1 u (by simp) c q) (ne j2 u (by simp) c q) e
  have ka:∀o,s.heap.get? a=Gc o->g.get? a=Gc o:=λo e=>kp2 a o (BJ I s1 fz) (BJ I s1 ft) (BJ I s1 f1) (BJ I s1 f2) e
  have kb:∀o,s.heap.get? b=Gc o->g.get? b=Gc o:=λo e=>kp2 b o (BJ I s2 fz) (BJ I s2 ft) (BJ I s2 f1) (BJ I s2 f2) e
  have sq:∀{q:rR} {d:qb} {is:rP qT},Lj s.heap q d is->(∀o,s.heap.get? d=Gc o->h'.get? d=Gc o)->Lj h' q d is:=λ{q d is} x kd=>by
   cases q
   .exact(show s.heap.IsList d is from x).at kd
   .obtain⟨o,e,r⟩:=(show s.heap.IsTuple d is from x)
    exact⟨o,kd o e,r⟩
  have ka1:∀o,s.heap.get? a=Gc o->h'.get? a=Gc o:=λo e=>kp a o (BJ I s1 fz) (BJ I s1 ft) (BJ I s1 f1) (BJ I s1 f2) e
  have kb1:∀o,s.heap.get? b=Gc o->h'.get? b=Gc o:=λo e=>kp b o (BJ I s2 fz) (BJ I s2 ft) (BJ I s2 f1) (BJ I s2 f2) e
  refine⟨.ref s.heap.objs.size,upd H s.heap.objs.size (.tup [x,y]),?_,rfl,⟨_,x,y,fr,rfl,λzs hz=>by rw[I.QO hz s1];exact e1,λzs hz=>by rw[I.QO hz s2];exact e2,rfl⟩,⟨oz',(sb.2 _ N.n1).trans (kp ti _ N.n1 N.n5 N.n6 N.n7 st.oi),⟨_,_,(sb.2 _ N.n2).trans ot'⟩,(q1.jit (sq p1 ka1)).at λo e=>(sb.2 _ N.n3).trans e,(q2.jit (sq p2 kb1)).at λo e=>(sb.2 _ N.n4).trans e⟩,?_⟩
  .show Inv X pins σ _ {s with heap:=g,gens:=s.gens,drawn:=s.drawn,toks:=s.toks}
   refine I.step (g':=s.gens) (d':=s.drawn) (ch:=[z,tt,j1,j2]) ?_ ?_ ?_ ?_ ?_ ?_ ?_ ?_ ?_ ?_ I.bare
   .intro c hc
    have q:QW X pins H c:=hf c (by simp only[qj,rH,tm]at hc ⊢; rcases hc with z|z|z|z<;>simp[z])
    exact⟨q.2.2.2.1,q.2.1,q.2.2.2.2.1,q.2.2.2.2.2⟩
   .exact λc o _ _ hc q _=>by
     simp only[qj,rH,tm,yf]at hc
     exact kp2 c o hc.1 hc.2.1 hc.2.2.1 hc.2.2.2 q
   .exact λc o _ _ hc q _=>by
     simp only[qj,rH,tm,yf]at hc
     exact⟨o.slots,kp2 c o hc.1 hc.2.1 hc.2.2.1 hc.2.2.2 q⟩
   .exact λc o _ q n=>by rw[AX (lt c o q)];exact n
   .exact λc o hc q=>by
     simp only[qj,rH,tm,yf]at hc
     exact⟨o,kp2 c o hc.1 hc.2.1 hc.2.2.1 hc.2.2.2 q⟩
   .exact λc ys q=>by rw[AX (BA q fr)];exact q
   .exact λc o u q=>by rw[AX (BA q fr)];exact q
   .exact λc ps q=>⟨#[],by rw[AX (BA q fr),q];simp⟩
   .rintro mm ⟨o,es,ep,ho,r⟩
    exact⟨o,es,ep,kp2 _ o (rh fz.2.1) (rh ft.2.1) (rh f1.2.1) (rh f2.2.1) ho,r⟩
   .intro c v q
    by_cases hb:c=s.heap.objs.size
    .subst hb
     rw[Au]at q
     cases q
     exact⟨by show 2<=sizeLine;decide,[u1,u2],.cons ru1 (.cons ru2 .nil),⟨_,op2,rfl,0,rfl⟩⟩
    .rw[AX hb]at q
     refine(I.hok c v q).Wq (λd o hd r=>?_) (λd r=>by rw[AX (BA r fr)];exact r) (λd ys r=>by rw[AX (BA r fr)];exact r)
     rcases hd with e|e
     .rw[e]at r ⊢; exact kpH c v q o r
     .exact kpH d _ e o r
  .intro c hc
   have q:=hf c hc
   have:c≠s.heap.objs.size:=by
    simp only[qj,rH,tm]at hc
    rcases hc with e|e|e|e|e
    .rw[e];exact nz
    .rw[e];exact lt _ _ st.oi
    .rw[e];exact nt
    .rw[e];exact n1
    .rw[e];exact n2
   rw[AX this];exact q.1
 done:=by
  intro X hP hw hK hc i pins s σ H E I hf st hg
  subst hP hw hK
  obtain⟨xs,ys,s1,s2,e⟩:=hg
  obtain⟨i1,r1,p1⟩:=I.sqB s1
  obtain⟨i2,r2,p2⟩:=I.sqB s2
  have l1:=r1.length
  have l2:=r2.length
  have hh:X.A.in1.handled=none:=I.ok.hd hc
  have hh0:X.A.handled=none:=I.ok.hd hc
  have fz:=hf z (by simp);have fi:=hf ti (by simp);have ft:=hf tt (by simp);have f1:=hf j1 (by simp);have f2:=hf j2 (by simp)
  have ap:=N.apart (a:=a) (b:=b) (by simp[BJ I s1 fz,BJ I s1 ft,BJ I s1 f1,BJ I s1 f2]) (by simp[BJ I s2 fz,BJ I s2 ft,BJ I s2 f1,BJ I s2 f2])
  obtain⟨v1,v2,ot⟩:=st.ot
  refine V1 hh0 ap st.oz st.oi ot (st.q1.sit p1) (st.q2.sit p2) (by rcases e with e|e;exact .inl (by simp;lia);exact .inr (by simp;lia)) λh' kp=>⟨rfl,?_⟩
  have ne:∀c u,c∈ [z,ti,tt,j1,j2]->∀d,H d=Gc u->d≠c:=λc u hc d q e=>by rw[e,(hf c hc).1]at q;cases q
  show Inv X pins σ _ {s with heap:=h',gens:=s.gens,drawn:=s.drawn,toks:=s.toks}
  refine I.step (g':=s.gens) (d':=s.drawn) (ch:=[z,tt,j1,j2]) ?_ ?_ ?_ ?_ ?_ ?_ ?_ ?_ ?_ ?_ I.bare
  .intro c hc
   have q:QW X pins H c:=hf c (by simp only[qj,rH,tm]at hc ⊢; rcases hc with z|z|z|z<;>simp[z])
   exact⟨q.2.2.2.1,q.2.1,q.2.2.2.2.1,q.2.2.2.2.2⟩
  .exact λc o _ _ hc q _=>by
    simp only[qj,rH,tm,yf]at hc
    exact kp c o hc.1 hc.2.1 hc.2.2.1 hc.2.2.2 q
  .exact λc o _ _ hc q _=>by
    simp only[qj,rH,tm,yf]at hc
    exact⟨o.slots,kp c o hc.1 hc.2.1 hc.2.2.1 hc.2.2.2 q⟩
  .exact λc o _ q n=>n
  .exact λc o hc q=>by
    simp only[qj,rH,tm,yf]at hc
    exact⟨o,kp c o hc.1 hc.2.1 hc.2.2.1 hc.2.2.2 q⟩
  .exact λc ys q=>q
  .exact λc o u q=>q
  .exact λc ps q=>⟨#[],by rw[q];simp⟩
  .rintro mm ⟨o,es,ep,ho,r⟩
   exact⟨o,es,ep,kp _ o (rh fz.2.1) (rh ft.2.1) (rh f1.2.1) (rh f2.2.1) ho,r⟩
  .intro c v q
   refine(I.hok c v q).Wq (λd o hd r=>?_) (λd r=>r) (λd ys r=>r)
   rcases hd with e|e
   .rw[e]at r ⊢; exact kp c o (ne z v (by simp) c q) (ne tt v (by simp) c q) (ne j1 v (by simp) c q) (ne j2 v (by simp) c q) r
   .exact kp d o (ne z _ (by simp) d e) (ne tt _ (by simp) d e) (ne j1 _ (by simp) d e) (ne j2 _ (by simp) d e) r
 self:=λ_ _ _ _ _ st h=>wpAny_pyIter_zip st.oz h
end L2
end
noncomputable section
namespace L2
open PySem PySem.Spec PyProof.Rows
theorem zne(n:Nat):ZNe (n+4) (n+2) (n+3) n (n+1):=⟨λe=>by have:n+2=n+4:=e;lia,λe=>by have:n+3=n+4:=e;lia,λe=>by have:n=n+4:=e;lia,λe=>by have:n+1=n+4:=e;lia,λe=>by have:n+2=n+3:=e;lia,λe=>by have:n+2=n:=e;lia,λe=>by have:n+2=n+1:=e;lia,λe=>by have:n+3=n:=e;lia,λe=>by have:n+3=n+1:=e;lia,λe=>by have:n=n+1:=e;lia⟩
section
variable{X:Cx}
noncomputable def oP(K:qS)(ta:TA):TI:=λσ H R=>ta σ H λvs H1=>∃k a m b,vs=[.ref a,.ref b]/\(∃xs,SqB K H1 k a xs)/\(∃ys,SqB K H1 m b ys)/\R (Itz K k a m b) H1
theorem c8{a b:rJ}{ta:TA}{p pos tp:Pos}{elts:Wp rJ}{n:Nat}(hg:Gl X "zip")(hm:X.mg "zip"=none)(ha:PA X [a,b] ta)(hs:rB [a,b] X.env=[(false,eval a X.env),(false,eval b X.env)]:=by rfl)(hs2:rB [b] X.env=[(false,eval b X.env)]:=by rfl):PI X (.Tuple elts n tp) (.Call (.Name "zip" p) [a,b] [] pos) (oP X.K ta):=by
 intro pins s σ H R I h
 refine Call_ (Ic I hg hm boot_zip (uu (thn (ha pos pins s σ H _ I h) λus s1 ⟨vs,H1,I1,r1,q1⟩=>?_) (by rw[hs,hs2]) (by rw[hs2];rfl)))
 obtain⟨k,a',m,b',e,⟨xs,hq⟩,⟨ys,hr⟩,q⟩:=q1
 subst e
 obtain⟨u,v,rfl,ru,rv⟩:=r1.two
 cases (show u=rY a' from ru)
 cases (show v=rY b' from rv)
 obtain⟨i1,v1,p1⟩:=I1.sqB hq
 obtain⟨i2,v2,p2⟩:=I1.sqB hr
 refine T9 p1 p2 λh' oz oi ot q1 q2 kp=>wpAny_pyIter_zip (s:={s1 with heap:=h'}) oz ?_
 have sq:∀{q:rR} {d:qb} {is:rP qT},Lj s1.heap q d is->Lj h' q d is:=λ{q d is} x=>by
  cases q
  .exact(show s1.heap.IsList d is from x).at λo e=>kp _ o e
  .obtain⟨o,e,r⟩:=(show s1.heap.IsTuple d is from x)
   exact⟨o,kp _ o e,r⟩
 refine⟨s1.heap.objs.size+4,[s1.heap.objs.size+4,s1.heap.objs.size+2,s1.heap.objs.size+3,s1.heap.objs.size,s1.heap.objs.size+1],_,_,H1,rfl,I1.kept (t':=s1.toks) kp,
  XI k a' m b' _ _ _ _ _ (zne s1.heap.objs.size),⟨oz,oi,⟨_,_,ot⟩,q1.jit (sq p1),q2.jit (sq p2)⟩,λc hc=>?_,q⟩
 simp only[qj,rH,tm]at hc
 have:s1.heap.objs.size<=c:=by rcases hc with rfl|rfl|rfl|rfl|rfl<;>first|exact qg _|exact Nat.le_add_right _ _
 exact I1.ZZ this (I1.hok.fresh this)
end
end L2
end
noncomputable section
namespace L2
open PySem PySem.Spec PyProof.Rows
section
variable{prog:rF}{w:rX}{A:rS}{E:qT->qX->Prop}{s:qX}
theorem IsList.Q3{h h':rT}{a:qb}{items:rP qT}(p:h.IsList a items)(k:∀o,h.get? a=Gc o->h'.get? a=Gc o):h'.IsList a items:=by
 obtain⟨o,ho,r⟩:=p
 exact⟨o,k o ho,r⟩
theorem Oz{it t:qb}{items:rP qT}(hne:t≠it):∀(n i:Nat) (s:qX) (Q:Wp qT->qX->Prop),s.heap.IsListIter it t i->s.heap.IsList t items->i+n<=items.size->(∀h',h'.IsListIter it t (i+n)->uq it s.heap h'->Q ((items.toList.drop i).take n) {s with heap:=h'})->wpAny (model prog w) A (draw (.ref it) n) Q E s
 |0,i,s,Q,hit,_,_,hQ=>by
  show wpAny _ _ (pure []) Q E s
  exact qa (by simpa using hQ s.heap hit (Heap.SameBut.refl ..))
 |n+1,i,s,Q,hit,ht,hle,hQ=>by
  have hlt:i<items.size:=by lia
  show wpAny _ _ (pyNext (.ref it) >>= _) Q E s
  refine qR (wo hit ht (x:=items[i]) (by simp[hlt]) λh1 hit1 hs1=>?_)
  refine qR (sI (Oz hne n (i+1) _ _ hit1 (IsList.Q3 ht λo e=>hs1.extBut t o hne e) (by lia) λh2 hit2 hs2=>qa ?_))
  have hd:items.toList.drop i=items[i]::items.toList.drop (i+1):=by simp[sW,hlt]
  have:=hQ h2 (by rw[show i+(n+1)=i+1+n by lia];exact hit2) (hs1.trans hs2)
  rw[hd,List.take_succ_cons]at this
  exact this
theorem J7{t:qb}{items:rP qT}{Q:Wp qT->qX->Prop}(hh:A.handled=none)(ht:s.heap.IsList t items)(hty:s.TypeIs (.ref t) "list")(hQ:∀h',wg s.heap.objs.size s.heap h'->Q items.toList {s with heap:=h'}):wpAny (model prog w) A (unpackItems (.ref t) items.size none) Q E s:=by
 have hlt:t≠s.heap.objs.size:=by obtain⟨o,ho,_⟩:=ht;exact qv (qq ho)
 unfold unpackItems
 refine qR ?_
 .unfold notIterableAtAll
  refine qR (zS hty F.slot_list_iter.lookup ?_)
  refine qa ?_
  simp only[uX,v8]
  refine qR (sI (tJ ht ?_))
  refine qR (sI (Oz hlt items.size 0 _ _ ⟨_,qk _ rfl,rfl,rfl⟩ (IsList.Q3 ht λo e=>qU _ e) (by lia) λh1 hit1 hs1=>?_))
  have hall:List.take items.size (List.drop 0 items.toList)=items.toList:=by
   rw[List.drop_zero];exact vh (by simp)
  rw[hall]
  rw[rA (by simp)]
  have ht1:h1.IsList t items:=IsList.Q3 (IsList.Q3 ht λo e=>qU _ e) λo e=>hs1.extBut t o hlt e
  refine qR (sI (xH hh hit1 ht1 (by simp) λh2 he2=>?_))
  simp only[Option.isSome_none,uX,v8]
  refine qa (hQ h2 λb o hb e=>he2 b o hb (hs1.extBut b o hb (qU _ e)))
theorem JL{env:Env}{elts:Wp rJ}{x1}{pos:Pos}{t:qb}{items:rP qT}{Q:Unit->qX->Prop}(hh:A.handled=none)(ht:s.heap.IsList t items)(hty:s.TypeIs (.ref t) "list")(hn:(assignEach elts env).length=items.size)(hstar:(assignEach elts env).findIdx? (·.1)=none)(h:∀h',wg s.heap.objs.size s.heap h'->wpAny (model prog w) A (assignInOrder ((assignEach elts env).map (·.2)) items.toList) Q E {s with heap:=h'}):wpAny (model prog w) A (assign (.Tuple elts x1 pos) env (.ref t)) Q E s:=by
 rw[PyProof.Rows.assign_Tuple]
 refine qR (wQ ?_)
 unfold unpack
 rw[hn,hstar]
 exact qR (sI (J7 hh ht hty h))
end
section
variable{X:Cx}{pos:Pos}
noncomputable def oV(K:qS)(n:Nat)(t:TGs):TG:=λv σ H Q=>∃a xs,v=.ref a/\(SqT K H a xs\/H a=Gc (.lst xs))/\xs.length=n/\t xs σ H Q
theorem cy{es:Wp rJ}{k:Nat}{t:TGs}{n:Nat}(hc:X.calm=true)(h:PGs X es t)(hn:(assignEach es X.env).length=n:=by rfl)(hst:(assignEach es X.env).findIdx? (·.1)=none:=by rfl):PG X (.Tuple es k pos) (oV X.K n t):=by
 intro pins s σ H v u Q I r hw
 obtain⟨a,xs,e1,hq,hl,hw⟩:=hw
 rcases hq with hq|hq
 .exact fg hc h hn hst pins s σ H v u Q I r ⟨a,xs,e1,hq,hl,hw⟩
 .subst e1
  cases r
  obtain⟨its,rv,p,hz⟩:=I.list (SqL.of hq)
  obtain⟨z,its2,m,rv2,_,e⟩:=I.Yk hq
  refine JL (I.ok.hd hc) p.isList ⟨_,e,rfl⟩ (by simp[hn,<-hl,rv.length]) hst λh' hx=>?_
  have I1:Inv X pins σ H {s with heap:=h'}:=I.kept (t':=s.toks) λb o e=>hx b o (qv (qq e)) e
  exact h pins _ σ H xs _ Q I1 (by simpa using rv) hw
end
end L2
end
noncomputable section
namespace L2
open PySem PySem.Spec PyProof.Rows
theorem JIt.live{h:rT}{k:rR}{j l:qb}{i:Nat}(q:JIt h k j l i):∃o,h.get? j=Gc o/\∀v,o.data≠.cell v:=by
 cases k with
 |true=>obtain⟨o,e,c,d⟩:=q;exact⟨o,e,λv z=>by rw[d]at z;cases z⟩
 |false=>obtain⟨o,e,c,d⟩:=q;exact⟨o,e,λv z=>by rw[d]at z;cases z⟩
theorem Lj.mono{h h':rT}{k:rR}{l:qb}{its:rP qT}(q:Lj h k l its)(e:∀o,h.get? l=Gc o->h'.get? l=Gc o):Lj h' k l its:=by
 cases k with
 |true=>obtain⟨o,ho,r⟩:=q;exact⟨o,e o ho,r⟩
 |false=>obtain⟨o,ho,r⟩:=q;exact⟨o,e o ho,r⟩
theorem UM{prog:rF}{w:rX}{A:rS}(hh:A.handled=none)(it t:qb)(hne:t≠it)(items:rP qT):Draws prog w A it [it,t] items.size (λi v=>items[i]?=Gc v) (λi h=>SIt h it t i items) where
 live:=λ_ _ st=>let⟨o,ho,_⟩:=st.live;⟨o,ho⟩
 frame:=λ_ _ _ st hk=>st.at (λo e=>hk it (by simp) o e) λo e=>hk t (by simp) o e
 item:=λi s Q E hi st hQ=>KN st (x:=items[i]) (by simp[hi]) λh' a b=>hQ _ h' s.toks (by simp[hi]) a b
 done:=λs Q E st hE=>KU hh st (by simp) hE
noncomputable def ItE(K:qS)(kk:rR)(a:qb):It:=
 ⟨λi H=>∃xs x,SqB K H kk a xs/\xs[i]?=Gc x,λi H x H'=>∃p y,H p=none/\x=.ref p/\(∀xs,SqB K H kk a xs->xs[i]?=Gc y)/\H'=upd H p (.tup [.int i,y]),λi H=>∃xs,SqB K H kk a xs/\xs.length<=i⟩
theorem R5{P:rF}{w:rX}{K:qS}{elts:Wp rJ}{k:Nat}{pos:Pos}(kk:rR)(a e it:qb)(hei:e≠it):Turn P w K (.Tuple elts k pos) (ItE K kk a) [e,it] e (λi h=>(∃old,IsEnum h e it i old)/\JIt h kk it a i) where
 mem:=by simp
 obj:=λi h st b hb=>by
  obtain⟨⟨old,h1⟩,st2⟩:=st
  obtain⟨o,h2,h4⟩:=st2.live
  simp only[qj,rH,tm]at hb
  rcases hb with rfl|rfl
  .exact⟨_,h1,λv z=>nomatch z⟩
  .exact⟨o,h2,h4⟩
 keep:=λi h h' st k=>by
  obtain⟨⟨old,h1⟩,h2⟩:=st
  exact⟨⟨old,k e (by simp) _ h1⟩,h2.at λo q=>k it (by simp) o q⟩
 item:=by
  intro X hP hw hK hc i pins s σ H E I hf st hg
  subst hP hw hK
  obtain⟨xs,x,hq,hx⟩:=hg
  obtain⟨its,rv,p⟩:=I.sqB hq
  obtain⟨u,hu,ru⟩:=rv.get hx
  obtain⟨⟨old,h1⟩,h2⟩:=st
  obtain⟨oi,hi1,hi2⟩:=h2.live
  have hea:a≠e:=BJ I hq (hf e (by simp))
  have hia:a≠it:=BJ I hq (hf it (by simp))
  have hil:i<its.toArray.size:=by
   have:=(qe.mp hu).1
   simpa using this
  have hh:X.A.in1.handled=none:=I.ok.hd hc
  have D:=UM (prog:=X.prog) (w:=X.w) hh it a hia its.toArray
  refine wpAny_pyNext_enum_itemD D h1 (h2.sit p) hil hei (by simp[hei,rh hea]) ?_
  intro y h' tk hy out st' tup size kept
  have ey:y=u:=by
   have:its[i]?=Gc y:=by simpa using hy
   rw[hu]at this
   exact(sL this).symm
  subst ey
  refine⟨_,rfl,wpAny_letOwnedTupleGo_enum out λh'' en sb=>?_⟩
  have hfe:=hf e (by simp)
  have hfi:=hf it (by simp)
  have lt:∀b o,s.heap.get? b=Gc o->b≠s.heap.objs.size:=λb o q=>qv (qq q)
  have kept2:∀b o,b≠e->b≠it->s.heap.get? b=Gc o->h''.get? b=Gc o:=λb o b1 b2 q=>(sb.2 b b1).trans (kept b o b1 b2 q)
  have fr:H s.heap.objs.size=none:=I.hok.fresh (qg _)
  have tup2:h''.get? s.heap.objs.size=Gc {cls:=.type "tuple",data:=.seq #[.int i tk,y]}:=(sb.2 _ (rh (lt e _ h1))).trans tup
  have ne1:∀b u,H b=Gc u->b≠e:=λb u q z=>by rw[z,hfe.1]at q;cases q
  have ne2:∀b u,H b=Gc u->b≠it:=λb u q z=>by rw[z,hfi.1]at q;cases q
  refine⟨.ref s.heap.objs.size,upd H s.heap.objs.size (.tup [.int i,x]),?_,rfl,⟨_,x,fr,rfl,λys hys=>by rw[I.QO hys hq];exact hx,rfl⟩,⟨⟨y,en⟩,?_⟩,?_⟩
  .show Inv X pins σ _ {s with heap:=h'',gens:=s.gens,drawn:=s.drawn,toks:=tk+1}
   refine I.step (g':=s.gens) (d':=s.drawn) (ch:=[e,it]) ?_ ?_ ?_ ?_ ?_ ?_ ?_ ?_ ?_ ?_ I.bare
   .intro b hb
    simp only[qj,rH,tm]at hb
    rcases hb with rfl|rfl
    .exact⟨hfe.2.2.2.1,hfe.2.1,hfe.2.2.2.2.1,hfe.2.2.2.2.2⟩
    .exact⟨hfi.2.2.2.1,hfi.2.1,hfi.2.2.2.2.1,hfi.2.2.2.2.2⟩
   .exact λb o _ _ hc q _=>kept2 b o (λz=>hc (by simp[z])) (λz=>hc (by simp[z])) q
   .exact λb o _ _ hc q _=>⟨o.slots,kept2 b o (λz=>hc (by simp[z])) (λz=>hc (by simp[z])) q⟩
   .exact λb o _ q n=>by rw[AX (lt b o q)];exact n
   .exact λb o hc q=>⟨o,kept2 b o (λz=>hc (by simp[z])) (λz=>hc (by simp[z])) q⟩
   .exact λb ys q=>by rw[AX (BA q fr)];exact q
   .exact λb o u q=>by rw[AX (BA q fr)];exact q
   .exact λb ps q=>⟨#[],by rw[AX (BA q fr),q];simp⟩
   .rintro m ⟨o,es,ep,ho,r⟩
    exact⟨o,es,ep,kept2 _ o (rh hfe.2.1) (rh hfi.2.1) ho,r⟩
   .intro b v q
    by_cases hb:b=s.heap.objs.size
    .subst hb
     rw[Au]at q
     cases q
     exact⟨by show 2<=sizeLine;decide,[.int i tk,y],.cons ⟨tk,rfl⟩ (.cons ru .nil),⟨_,tup2,rfl,0,rfl⟩⟩
    .rw[AX hb]at q
     refine(I.hok b v q).Wq (λc z hc r=>kept2 c z ?_ ?_ r) (λc r=>by rw[AX (BA r fr)];exact r) (λc ys r=>by rw[AX (BA r fr)];exact r)
     .rcases hc with z|z
      .rw[z];exact ne1 b v q
      .exact ne1 c _ z
     .rcases hc with z|z
      .rw[z];exact ne2 b v q
      .exact ne2 c _ z
  .have pa:Lj h'' kk a its.toArray:=p.mono λo q=>kept2 a o hea hia q
   exact(st'.at (λo q=>(sb.2 it (rh hei)).trans q) λo q=>(sb.2 a hea).trans q).jit pa
  .intro b hb
   simp only[qj,rH,tm]at hb
   rcases hb with rfl|rfl
   .rw[AX (lt b _ h1)];exact hfe.1
   .rw[AX (lt b _ hi1)];exact hfi.1
 done:=by
  intro X hP hw hK hc i pins s σ H E I hf st hg
  subst hP hw hK
  obtain⟨xs,hq,hx⟩:=hg
  obtain⟨its,rv,p⟩:=I.sqB hq
  obtain⟨⟨old,h1⟩,h2⟩:=st
  have hl:=rv.length
  have hh:X.A.in1.handled=none:=I.ok.hd hc
  obtain⟨f0,f1,f2,f3,f4,f5⟩:=hf it (by simp)
  have D:Draws X.prog X.w X.A.in1 it [it,a] i (λ_ _=>ze) (λj h=>j=i/\SIt h it a i its.toArray):=
   {live:=λ_ _ st=>let⟨o,ho,_⟩:=st.2.live;⟨o,ho⟩
    frame:=λ_ _ _ st hk=>⟨st.1,st.2.at (λo e=>hk it (by simp) o e) λo e=>hk a (by simp) o e⟩
    item:=λj s Q E hj st _=>absurd st.1 (qv hj)
    done:=λs Q E st hE=>KU hh st.2 (by simp;lia) hE}
  exact wpAny_pyNext_enum_endD D h1 ⟨rfl,h2.sit p⟩ λh' eb=>⟨rfl,I.turned (t':=s.toks) (λb o hb q=>eb b o hb q) f0 f1 f3 f4 f5⟩
 self:=λ_ _ _ _ _ st h=>by
  obtain⟨⟨old,h1⟩,_⟩:=st
  exact wpAny_pyIter_enum h1 h
section
variable{X:Cx}
noncomputable def gM(K:qS)(ta:TA):TI:=λσ H R=>ta σ H λvs H1=>∃kk a,vs=[.ref a]/\(∃xs,SqB K H1 kk a xs)/\R (ItE K kk a) H1
theorem Wj{a:rJ}{ta:TA}{p pos tp:Pos}{elts:Wp rJ}{k:Nat}(hg:Gl X "enumerate")(hm:X.mg "enumerate"=none)(ha:PA X [a] ta)(hs:rB [a] X.env=[(false,eval a X.env)]:=by rfl):PI X (.Tuple elts k tp) (.Call (.Name "enumerate" p) [a] [] pos) (gM X.K ta):=by
 intro pins s σ H R I h
 refine Call_ (Ic I hg hm boot_enumerate (callWith_type1 (thn (ha pos pins s σ H _ I h) λus s1 ⟨vs,H1,I1,r1,q1⟩=>?_) hs rfl))
 obtain⟨kk,b,e,⟨xs,hq⟩,q⟩:=q1
 subst e
 obtain⟨u,rfl,ru⟩:=r1.one
 cases (show u=rY b from ru)
 obtain⟨its,rv,pt⟩:=I1.sqB hq
 have fin:∀h':rT,IsEnum h' (s1.heap.objs.size+1) s1.heap.objs.size 0 .none->JIt h' kk s1.heap.objs.size b 0->(∀b o,s1.heap.get? b=Gc o->h'.get? b=Gc o)->wpAny (model X.prog X.w) X.A (pyIter (.ref (s1.heap.objs.size+1))) (PIE X pins σ (.Tuple elts k tp) R) X.xe {s1 with heap:=h'}:=λh' en it kp=>by
  refine wpAny_pyIter_enum (s:={s1 with heap:=h'}) en ?_
  refine⟨s1.heap.objs.size+1,[s1.heap.objs.size+1,s1.heap.objs.size],_,_,H1,rfl,I1.kept (t':=s1.toks) kp,R5 kk b (s1.heap.objs.size+1) s1.heap.objs.size (Nat.succ_ne_self _),⟨⟨_,en⟩,it⟩,λc hc=>?_,q⟩
  simp only[qj,rH,tm]at hc
  rcases hc with rfl|rfl
  .exact I1.ZZ (by lia) (I1.hok.fresh (by lia))
  .exact I1.ZZ (qg _) (I1.hok.fresh (qg _))
 cases kk with
 |true=>exact Rz (show s1.heap.IsTuple b its.toArray from pt) λh' en it kp=>fin h' en it kp
 |false=>exact call_enumerate_list (show s1.heap.IsList b its.toArray from pt) λh' en it _ kp=>fin h' en it kp
end
end L2
end
noncomputable section
namespace St
open PySem PySem.Spec L2 PyProof.Rows
inductive Kd where
 |non|bl|int|str|tup|lst|dct
 deriving zd
noncomputable def Kd.ty:Kd->uO
 | .non=>"NoneType" | .bl=>"bool" | .int=>"int" | .str=>"str" | .tup=>"tuple" | .lst=>"list" | .dct=>"dict"
noncomputable def Kd.isA:Kd->uO->rR
 | .bl,"bool"=>true| .bl,"int"=>true| .int,"int"=>true| .str,"str"=>true| .tup,"tuple"=>true| .lst,"list"=>true| .dct,"dict"=>true
 |_,_=>false
section
variable{K:qS}
theorem ao(k:Kd):vB K (.type k.ty) (.type "int")=Gc (k.isA "int"):=by
 cases k<;>first|rfl|(unfold vB;rfl)
theorem Xm(k:Kd):vB K (.type k.ty) (.type "bool")=Gc (k.isA "bool"):=by
 cases k<;>rfl
theorem kit_tuple(k:Kd):vB K (.type k.ty) (.type "tuple")=Gc (k.isA "tuple"):=by
 cases k<;>rfl
theorem Yu(k:Kd):vB K (.type k.ty) (.type "str")=Gc (k.isA "str"):=by
 cases k<;>rfl
end
structure Dfn(P:rF)(w:rX)(K:qS)(mg:Str->qY qT)(base:rT)(x:Str)(k:Nat)(ps:Wp Str)(sp:Sp):Prop where
 ex:∃f fd,mg x=Gc (.ref f)/\ue K (.ref f)=true/\Binds K fd ps []/\Nd P w K mg base CX0 k f fd ps sp
structure Src(K:qS)(mg:Str->qY qT)(x:Str)(st:sG):Prop where
 ex:∃f fd,Fun K x x st f fd/\mg x=Gc (.ref f)
theorem jv{X:Cx}{k:Nat}{x:Str}{ps:Wp Str}{sp:Sp}{e:rJ}{es:Wp rJ}{t:TA}{p pos:Pos}(d:Dfn X.prog X.w X.K X.mg X.base x k ps sp)(hr:JE k X.A)(hg:Gl X x)(ha:PA X (e::es) t)(hdb:(x==("__debug__":Str))=false:=by decide)(he:rB (e::es) X.env=(false,eval e X.env)::rB es X.env:=by rfl)(hpl:(backTo pos (rB es X.env)).any (·.1)=false:=by rfl):PE X (.Call (.Name x p) (e::es) [] pos) (Zw sp [] E0 t):=by
 obtain⟨f,fd,a,b,c,F⟩:=d.ex
 exact ZL F hr hg a b c .nil lR ha hdb he hpl
section
variable{X:Cx}
theorem Yz{n:Nat}(h:n<2^8000):n.log2<9000:=by
 by_cases h0:n=0
 .subst h0;decide
 .exact vg ((Nat.log2_lt h0).mpr h) (by decide)
theorem XN:OpR X (binaryOp .FloorDiv) (rI (λ_ j=>0<j/\j.natAbs<2^8000) λi j=>.int (i / j)):=opI λi j _ _ _ _ _ hc q=>by
 have h1:(0:Int)<j:=hc.1
 exact floordiv_int (by lia) (by rw[Int.fdiv_eq_ediv_of_nonneg i (by lia)];exact q) (.inl (PyProof.noPylong_of_log2 (Yz hc.2)))
theorem MT{prog:rF}{w:rX}{A:rS}(hh:A.handled=none){a it:qb}(hne:a≠it){vs:Wp qT}:Walks prog w A it [it,a] [it] vs.length (λi v=>vs[i]?=Gc v) (λi h=>h.IsListIter it a i/\h.IsList a vs.toArray) where
 sub:=λb hb=>by simp at hb;simp[hb]
 frame:=λi h h' st k=>⟨st.1.at λo e=>k it (by simp) o e,by
  obtain⟨o,ho,r⟩:=st.2
  exact⟨o,k a (by simp) o ho,r⟩⟩
 item:=λi s Q E hi st hQ=>by
  refine wo st.1 st.2 (x:=vs[i]) (by simp[hi]) λh' st' sb=>?_
  refine hQ _ h' s.toks (by simp[hi]) ⟨st',?_⟩ λb o hb e=>(sb.2 b (by simpa using hb)).trans e
  obtain⟨o,ho,r⟩:=st.2
  exact⟨o,(sb.2 a hne).trans ho,r⟩
 done:=λs Q E st hQ=>xH hh st.1 st.2 (by simp) λh' eb=>hQ h' s.toks λb o hb e=>eb b o (by simpa using hb) e
 self:=λi s Q E st hQ=>zW st.1 hQ
theorem Vm(hc:X.calm=true):Cj X (.builtin "all") (λxs H Q=>∃(p:qb) (bs:Wp rR),xs=[.ref p]/\SqL X.K H p (bs.map V.bl)/\Q (.bl (bs.all id)) H):=by
 intro pins s σ H xs us Q I r h
 obtain⟨p,bs,rfl,hp,q⟩:=h
 obtain⟨u,rfl,ru⟩:=r.one
 cases (show u=rY p from ru)
 obtain⟨its,rv,pl,hz⟩:=I.list hp
 have hd:X.A.in1.handled=none:=I.ok.hd hc
 refine call_all_walk (tJ pl.isList ?_)
 have hlen:bs.length=its.length:=by have:=rv.length;simpa using this
 have hpl:=pl.isList
 have hne:p≠s.heap.objs.size:=by
  obtain⟨o,ho,_⟩:=hpl
  exact qv (qq ho)
 refine⟨s.heap.objs.size,_,_,its.length,_,_,λi=>bs.getD i true,rfl,MT (vs:=its) hd hne,⟨⟨_,qk _ rfl,rfl,rfl⟩,?_⟩,?_,?_⟩
 .obtain⟨o,ho,r⟩:=hpl
  exact⟨o,qU _ ho,r⟩
 .intro i v s' Q' E' hv hq
  have hi:i<its.length:=(qe.mp hv).1
  have hb:(bs.map V.bl)[i]?=Gc (.bl (bs.getD i true)):=by
   rw[ql,qW (by lia)]
   simp[qV,qW (show i<bs.length by lia)]
  obtain⟨u,hu,ru⟩:=rv.get hb
  rw[hv]at hu
  cases hu
  cases (show v=xv _ from ru)
  exact ug hq
 .intro h' tk hk
  have e:(rO its.length).all (λi=>bs.getD i true)=bs.all id:=by
   rw[<-hlen]
   clear q hp rv hlen
   have:∀(l:Wp rR),(rO l.length).all (λi=>l.getD i true)=l.all id:=by
    intro l
    induction l with
    |nil=>rfl
    |cons b l ih=>
     rw[rV,List.range_succ_eq_map,vt,xt,vt,<-ih]
     rfl
   exact this bs
  rw[e]
  exact⟨.bl _,H,I.kept (t':=tk) λb o eb=>hk b o (by simp;exact qv (qq eb)) (qU _ eb),rfl,q⟩
theorem Wz{ns:Wp Int}{j:Nat}(h:j<ns.length):(ns.take (j+1)).sum=(ns.take j).sum+ns.getD j 0:=by
 have e:ns.getD j 0=ns[j]:=by simp[qV,qW h]
 rw[List.take_succ,qW h,List.sum_append,e]
 show _+(ns[j]+0)=_
 lia
theorem LF{ns:Wp Int}:∀{j:Nat},j<=ns.length->preSum (λi=>ns.getD i 0) j=(ns.take j).sum
 |0,_=>by simp[preSum]
 |j+1,h=>by
  rw[preSum,LF (by lia),Wz (by lia)]
theorem TK{ns:Wp Int}(h:∀n∈ns,0<=n/\n<=1000000):0<=ns.sum/\ns.sum<=1000000*ns.length:=by
 induction ns with
 |nil=>simp
 |cons a l ih=>
  have h1:=h a (by simp)
  have h2:=ih λn hn=>h n (by simp[hn])
  rw[tK,rV]
  have:((l.length+1:Nat):Int)=(l.length:Int)+1:=by lia
  lia
end
section
variable{prog:rF}{w:rX}{A:rS}{E:qT->qX->Prop}{s:qX}
theorem JQ{t sl:qb}{items:rP qT}{vl vu:qT}{lo hi:qY Int}{Q:qT->qX->Prop}(ht:y7 s.heap t items)(hs:s.heap.IsSliceOf sl vl vu .none)(pl:y9 vl lo)(pu:y9 vu hi)(hw:HT.sIx items.size 0 lo=0/\HT.sIx items.size items.size hi=items.size)(h:Q (.ref t) s):wpAny (model prog w) A (getItem (.ref t) (.ref sl)) Q E s:=by
 obtain⟨os,hos,hcs,hds⟩:=id hs
 have hTs:s.TypeIs (.ref sl) "slice":=⟨os,hos,hcs⟩
 unfold getItem
 try with_reducible refine sI ?_
 first|refine qR (qa ?_)|skip
 refine qR (wpAny_sequenceKey ht.typeIs (by decide) ?_)
 refine qR (sH (name:=tM "__getitem__") ht.typeIs sS
  (sD sS ht.typeIs AAA ?_ (AAS _ _)))
 show wpAny _ _ (yC (.ref t) >>= _) _ _ s
 refine qR (tupleItemsOf_ ht ?_)
 refine qR (vd hTs ?_)
 rw[q9 (by decide)]
 refine qR (HT.Gj hs pl pu ?_)
 show wpAny _ _ (if(((HT.sIx items.size 0 lo:Nat):Int)==0 && (1:Int)==1 && (HT.sIx items.size items.size hi-HT.sIx items.size 0 lo)==items.size)=true then _ else _) _ _ s
 rw[q9 (by rw[hw.1,hw.2];simp)]
 unfold Builtin.Tuple.tupleIsExact
 refine qR (qR (vd ht.typeIs (qa ?_)))
 rw[q9 (by decide)]
 exact qR (vA (qa ⟨_,rfl,qa h⟩))
end
section
variable{X:Cx}
def pM(K:qS):V->qY Int->qY Int->Hp->VK->Prop:=λx lo hi H Q=>∃a xs,x=.ref a/\SqT K H a xs/\HT.sIx xs.length 0 lo=0/\HT.sIx xs.length xs.length hi=xs.length/\Q x H
theorem fX:SlR X (pM X.K):=by
 intro pins s σ H x v vl vu lo hi sl Q I rx hs pl pu h
 obtain⟨a,xs,rfl,hx,h1,h2,q⟩:=h
 cases rx
 obtain⟨its,r,ht,hz⟩:=I.tuple hx
 have hlen:its.toArray.size=xs.length:=by rw[qr];exact r.length.symm
 refine⟨"tuple",_,sS.lookup,ht.typeIs,?_⟩
 exact JQ ht hs pl pu (by rw[hlen];exact⟨h1,h2⟩) ⟨.ref a,H,I,rfl,q⟩
noncomputable def kg(K:qS):R2:=λx y H Q=>∃a b ys,x=.ref a/\y=.ref b/\SqT K H a []/\SqT K H b ys/\Q (.ref b) H
theorem ae:OpR X (binaryOp .Add) (kg X.K):=by
 intro pins s σ H x y v u Q I rx ry h
 obtain⟨a,b,ys,rfl,rfl,ha,hb,q⟩:=h
 cases rx
 cases ry
 obtain⟨its,r1,p1,_⟩:=I.tuple ha
 obtain⟨its2,r2,p2,_⟩:=I.tuple hb
 have e0:its=[]:=r1.Mn.mpr rfl
 subst e0
 obtain⟨⟨cls,dd,data,sl⟩,ho,hc,n,hd⟩:=id p1
 obtain⟨⟨cls2,dd2,data2,sl2⟩,ho2,hc2,n2,hd2⟩:=id p2
 simp only at hc hd hc2 hd2
 subst hc hd hc2 hd2
 exact concat_meets ⟨_,ho,rfl⟩ ⟨_,ho2,rfl⟩ yq AAI wu we (wR _ _)
  (tuple_addW0 a b #[] its2.toArray n n2 dd dd2 sl sl2 rfl) ⟨ho,ho2,⟨.ref b,H,I,rfl,q⟩⟩
end
end St
end
noncomputable section
namespace Mi
open PySem PySem.Spec L2
inductive D where
 |non|bl (b:rR)|int (i:Int)|str (x:Str)|ty (n:uO)|tup (ds:Wp D)|lst (ds:Wp D)|dct (kvs:Wp (Key×D))|scr (ns:Wp Int)|ref (n:Nat)
inductive Wv where
 |val (d:D)|own (ds:Wp D)
inductive Cl where
 |lst (ds:Wp D)|dct (kvs:Wp (Key×D))|tab (x:Str)
abbrev Sto:=Wp Cl
structure Ms where
 cel:Wp qb
 tmp:Wp qb
def Ms.mem(M:Ms)(a:qb):Prop:=a∈M.cel\/a∈M.tmp
noncomputable def Ms.no:Ms:=⟨[],[]⟩
theorem Ms.YS{a:qb}:¬Ms.no.mem a:=λz=>z.elim (λz=>by cases z) λz=>by cases z
def KL(K:qS)(a:qb)(xs:Wp V):Prop:=∃(o:Obj) (its:rP qT) (n:Nat),K.lookup a=Gc o/\o.cls=.type "list" /\o.dict=none/\o.data=.seq its n/\its.size<=sizeLine/\Vals xs its.toList
mutual
inductive Bi(K:qS)(M:Ms)(H:Hp):V->D->Prop
 |non:Bi K M H .non .non
 |bl (b:rR):Bi K M H (.bl b) (.bl b)
 |int (i:Int):Bi K M H (.int i) (.int i)
 |str (x:Str):Bi K M H (.str x) (.str x)
 |ty (n:uO):Bi K M H (.ty n) (.ty n)
 |tup {a:qb} {xs:Wp V} {ds:Wp D} (h:SqT K H a xs) (r:Af K M H xs ds):Bi K M H (.ref a) (.tup ds)
 |lst {a:qb} {xs:Wp V} {ds:Wp D} (h:H a=Gc (.lst xs)) (n:¬M.mem a) (r:Af K M H xs ds):Bi K M H (.ref a) (.lst ds)
 |scr {a:qb} {ns:Wp Int} (h:(Rd H a (.lst (ns.map V.int))/\¬M.mem a)\/KL K a (ns.map V.int)):Bi K M H (.ref a) (.scr ns)
 |dct {a:qb} {kvs:Wp (Key×V)} {es:Wp (Key×D)} (h:H a=Gc (.dK kvs)) (n:¬M.mem a) (r:Bd K M H kvs es):Bi K M H (.ref a) (.dct es)
 |ref {a:qb} {n:Nat} (h:M.cel[n]?=Gc a):Bi K M H (.ref a) (.ref n)
inductive Af(K:qS)(M:Ms)(H:Hp):Wp V->Wp D->Prop
 |nil:Af K M H [] []
 |cons {v:V} {d:D} {vs:Wp V} {ds:Wp D} (h:Bi K M H v d) (t:Af K M H vs ds):Af K M H (v::vs) (d::ds)
inductive Bd(K:qS)(M:Ms)(H:Hp):Wp (Key×V)->Wp (Key×D)->Prop
 |nil:Bd K M H [] []
 |cons {k:Key} {v:V} {d:D} {vs:Wp (Key×V)} {ds:Wp (Key×D)} (h:Bi K M H v d) (t:Bd K M H vs ds):Bd K M H ((k,v)::vs) ((k,d)::ds)
end
def MOk(M:Ms)(H:Hp):Prop:=∀a,M.mem a->(∃xs,H a=Gc (.lst xs))\/(∃kvs,H a=Gc (.dK kvs))\/∃ps,H a=Gc (.tbl ps)
structure Sp1(M:Ms)(H:Hp)(M':Ms)(H':Hp):Prop where
 mo:MOk M H
 pre:M.cel <+: M'.cel
 fresh:∀a,M'.mem a->M.mem a\/H a=none
 keep:∀a o,H a=Gc o->¬M.mem a->H' a=Gc o
structure Gr(M:Ms)(H:Hp)(M':Ms)(H':Hp):Prop where
 mo:MOk M H
 pre:M.cel <+: M'.cel
 tmp:M'.tmp=M.tmp
 fresh:∀a,a∈M'.cel->a∈M.cel\/H a=none
 keep:∀a o,H a=Gc o->a∉M.cel->H' a=Gc o
 some:∀a,H a≠none->H' a≠none
section
variable{K:qS}{M M' M2:Ms}{H H' H2:Hp}
theorem MOk.some(mo:MOk M H){a:qb}(h:M.mem a):H a≠none:=λz=>by
 rcases mo a h with⟨xs,e⟩|⟨xs,e⟩|⟨xs,e⟩<;>(rw[e]at z;cases z)
theorem Gr.st(g:Gr M H M' H'):Sp1 M H M' H':=⟨g.mo,g.pre,λa z=>z.elim (λz=>(g.fresh a z).imp .inl id) λz=>.inl (.inr (by rw[<-g.tmp];exact z)),λa o e n=>g.keep a o e λz=>n (.inl z)⟩
theorem Gr.refl(mo:MOk M H):Gr M H M H:=⟨mo,tF,rfl,λ_ z=>.inl z,λ_ _ e _=>e,λ_ e=>e⟩
theorem Gr.none(g:Gr M H M' H'){a:qb}(h:H' a=none):H a=none:=by
 cases e:H a with
 |none=>rfl
 |some o=>exact absurd h (g.some a (by rw[e];intro z;cases z))
theorem Gr.trans(h:Gr M H M' H')(g:Gr M' H' M2 H2):Gr M H M2 H2:=
 ⟨h.mo,h.pre.trans g.pre,g.tmp.trans h.tmp,λa z=>(g.fresh a z).elim (h.fresh a) λz=>.inr (h.none z),λa o e n=>g.keep a o (h.keep a o e n) (λz=>by
   rcases h.fresh a z with z|z
   .exact n z
   .rw[e]at z;cases z),λa e=>g.some a (h.some a e)⟩
theorem Gr.grow(mo:MOk M H)(k:∀a o,H a=Gc o->H' a=Gc o):Gr M H M H':=
 ⟨mo,tF,rfl,λ_ z=>.inl z,λb u eb _=>k b u eb,λb eb z=>by
   cases h:H b with
   |none=>exact eb h
   |some o=>rw[k b o h]at z;cases z⟩
theorem Ku{α:Type}{xs ys:Wp α}(h:xs <+: ys){n:Nat}{a:α}(e:xs[n]?=Gc a):ys[n]?=Gc a:=by
 obtain⟨zs,rfl⟩:=h
 rw[qZ (qe.mp e).1]
 exact e
theorem W2{a:qb}{xs:Wp V}(h:SqT K H a xs)(k:∀b o,H b=Gc o->(∀ys,o≠.lst ys)->(∀ys,o≠.dK ys)->(∀ys,o≠.tbl ys)->H' b=Gc o):SqT K H' a xs:=by
 rcases h with h|h
 .rcases h with h|⟨o,h⟩
  .exact .inl (.inl (k _ _ h (λys z=>by cases z) (λys z=>by cases z) λys z=>by cases z))
  .exact .inl (.inr ⟨o,k _ _ h (λys z=>by cases z) (λys z=>by cases z) λys z=>by cases z⟩)
 .exact .inr h
theorem Sp1.sqT(g:Sp1 M H M' H'){a:qb}{xs:Wp V}(h:SqT K H a xs):SqT K H' a xs:=W2 h λb o e n1 n2 n3=>g.keep b o e λz=>by
 rcases g.mo b z with⟨ys,q⟩|⟨ys,q⟩|⟨ys,q⟩
 .exact n1 ys (sL (e.symm.trans q))
 .exact n2 ys (sL (e.symm.trans q))
 .exact n3 ys (sL (e.symm.trans q))
theorem Sp1.nm(g:Sp1 M H M' H'){a:qb}{o:HO}(e:H a=Gc o)(n:¬M.mem a):¬M'.mem a:=λz=>by
 rcases g.fresh _ z with z|z
 .exact n z
 .rw[z]at e;cases e
theorem Bi.step(g:Sp1 M H M' H'){v:V}{d:D}(h:Bi K M H v d):Bi K M' H' v d:=
 Bi.rec (motive_1:=λv d _=>Bi K M' H' v d) (motive_2:=λv d _=>Af K M' H' v d) (motive_3:=λv d _=>Bd K M' H' v d) .non .bl .int .str .ty (λh _ r=>.tup (g.sqT h) r) (λh n _ r=>.lst (g.keep _ _ h n) (g.nm h n) r) (λh=>by
  rcases h with⟨h,n⟩|h
  .rcases h with h|⟨o,h⟩
   .exact .scr (.inl ⟨.inl (g.keep _ _ h n),g.nm h n⟩)
   .exact .scr (.inl ⟨.inr ⟨o,g.keep _ _ h n⟩,g.nm h n⟩)
  .exact .scr (.inr h)) (λh n _ r=>.dct (g.keep _ _ h n) (g.nm h n) r) (λh=>.ref (Ku g.pre h)) .nil (λ_ _ h t=>.cons h t) .nil (λ_ _ h t=>.cons h t) h
theorem Af.ind{P:Wp V->Wp D->Prop}(n:P [] [])(c:∀{v:V} {d:D} {vs:Wp V} {ds:Wp D},Bi K M H v d->P vs ds->P (v::vs) (d::ds)){vs:Wp V}{ds:Wp D}(h:Af K M H vs ds):P vs ds:=
 Af.rec (motive_1:=λ_ _ _=>ze) (motive_2:=λv d _=>P v d) (motive_3:=λ_ _ _=>ze) trivial (λ_=>trivial) (λ_=>trivial) (λ_=>trivial) (λ_=>trivial) (λ_ _ _=>trivial) (λ_ _ _ _=>trivial) (λ_=>trivial) (λ_ _ _ _=>trivial) (λ_=>trivial) n (λh _ _ t=>c h t) trivial (λ_ _ _ _=>trivial) h
theorem Bd.ind{P:Wp (Key×V)->Wp (Key×D)->Prop}(n:P [] [])(c:∀{k:Key} {v:V} {d:D} {vs:Wp (Key×V)} {ds:Wp (Key×D)},Bi K M H v d->P vs ds->P ((k,v)::vs) ((k,d)::ds)){vs:Wp (Key×V)}{ds:Wp (Key×D)}(h:Bd K M H vs ds):P vs ds:=
 Bd.rec (motive_1:=λ_ _ _=>ze) (motive_2:=λ_ _ _=>ze) (motive_3:=λv d _=>P v d) trivial (λ_=>trivial) (λ_=>trivial) (λ_=>trivial) (λ_=>trivial) (λ_ _ _=>trivial) (λ_ _ _ _=>trivial) (λ_=>trivial) (λ_ _ _ _=>trivial) (λ_=>trivial) trivial (λ_ _ _ _=>trivial) n (λh _ _ t=>c h t) h
theorem Af.step(g:Sp1 M H M' H'){v:Wp V}{d:Wp D}(h:Af K M H v d):Af K M' H' v d:=h.ind .nil λh t=>.cons (h.step g) t
theorem Bd.step(g:Sp1 M H M' H'){v:Wp (Key×V)}{d:Wp (Key×D)}(h:Bd K M H v d):Bd K M' H' v d:=h.ind .nil λh t=>.cons (h.step g) t
theorem Af.length:∀{v:Wp V} {d:Wp D},Af K M H v d->v.length=d.length
 |_,_,.nil=>rfl
 |_,_,.cons _ t=>by simp[Af.length t]
theorem Af.get:∀{v:Wp V} {d:Wp D} {i:Nat} {y:D},Af K M H v d->d[i]?=Gc y->∃x,v[i]?=Gc x/\Bi K M H x y
 |_,_,i,y,.nil,e=>by simp at e
 |_,_,0,y,.cons h t,e=>by simp at e;subst e;exact⟨_,rfl,h⟩
 |_,_,i+1,y,.cons h t,e=>by
  obtain⟨x,h1,h2⟩:=Af.get (i:=i) t (by simpa using e)
  exact⟨x,by simpa using h1,h2⟩
theorem Af.append:∀{v v':Wp V} {d d':Wp D},Af K M H v d->Af K M H v' d'->Af K M H (v++v') (d++d')
 |_,_,_,_,.nil,s=>s
 |_,_,_,_,.cons h t,s=>.cons h (Af.append t s)
theorem Af.take:∀{v:Wp V} {d:Wp D} (n:Nat),Af K M H v d->Af K M H (v.take n) (d.take n)
 |_,_,0,_=>.nil
 |_,_,_+1,.nil=>.nil
 |_,_,n+1,.cons h t=>.cons h (Af.take n t)
theorem Af.drop:∀{v:Wp V} {d:Wp D} (n:Nat),Af K M H v d->Af K M H (v.drop n) (d.drop n)
 |_,_,0,r=>r
 |_,_,_+1,.nil=>.nil
 |_,_,n+1,.cons _ t=>Af.drop n t
theorem Af.set{x:V}{y:D}(r:Bi K M H x y):∀{v:Wp V} {d:Wp D} (i:Nat),Af K M H v d->Af K M H (v.set i x) (d.set i y)
 |_,_,_,.nil=>.nil
 |_,_,0,.cons _ t=>.cons r t
 |_,_,i+1,.cons q t=>.cons q (Af.set r i t)
end
abbrev En:=Wp (qY D)
abbrev Sg:=Wp (qY V)
structure EnR(K:qS)(M:Ms)(E:En)(σ:Sg)(H:Hp):Prop where
 len:E.length=σ.length
 val:∀(i:Nat) (d:D),E[i]?=Gc (Gc d)->∃v,σ[i]?=Gc (Gc v)/\Bi K M H v d
noncomputable def oq(x:Str):Str:=(x++(".<locals>.":Str))++("<lambda>":Str)
def Zb(K:qS)(c P:qb):Prop:=
 ∃o vs file tf flags tg inF text tt,K.lookup c=Gc o/\o.cls=wX "code" /\o.data=Data.fields vs/\vs[11]?=Gc (rY P)/\vs.getD 11 rf=rY P/\vs.getD 18 rf=yn file tf/\vs.getD 7 rf=xJ flags tg/\vs.getD 9 rf=xv inF/\vs.getD 10 rf=xJ text tt/\c≠P
def TabAt(K:qS)(x:Str)(P:qb):Prop:=
 ∃f oc od fd osl c,ub K mainGlobals x=Gc (Gc (rY f))/\K.lookup f=Gc ⟨oc,od,Data.func fd,osl⟩/\fd.code=rY c/\Zb K c P
def fS(q:Str)(o:Obj):Prop:=∃vs t,o.data=Data.fields vs/\vs[1]?=Gc (yn q t)
structure We(K:qS)(H:Hp)(x:Str)(P:qb)(ps:rP qT):Prop where
 tri:PySem.TriplesOk ps.toList
 tat:TabAt K x P
 cod:∀pos cv,PySem.codeAmong pos ps.toList=Gc cv->∃c o,cv=rY c/\H c=Gc (.frz o (.own 0))/\fS (oq x) o
theorem We.step{x:Str}{P:qb}{ps:rP qT}{K:qS}{M M':Ms}{H H':Hp}(t:We K H x P ps)(g:Sp1 M H M' H'):We K H' x P ps:=⟨t.tri,t.tat,λpos cv e=>by
 obtain⟨c,o,h1,h2,h3⟩:=t.cod pos cv e
 refine⟨c,o,h1,g.keep _ _ h2 λz=>?_,h3⟩
 rcases g.mo c z with⟨ys,q⟩|⟨ys,q⟩|⟨ys,q⟩<;>(rw[h2]at q;cases q)⟩
def bY(K:qS)(M:Ms)(H:Hp)(a:qb):Cl->Prop
 | .lst ds=>∃xs,H a=Gc (.lst xs)/\Af K M H xs ds
 | .dct es=>∃kvs,H a=Gc (.dK kvs)/\Bd K M H kvs es
 | .tab x=>∃ps,H a=Gc (.tbl ps)/\We K H x a ps
structure StR(K:qS)(M:Ms)(S:Sto)(H:Hp):Prop where
 mo:MOk M H
 nd:M.cel.Nodup
 nt:∀a∈M.tmp,a∉M.cel
 len:M.cel.length=S.length
 cell:∀(n:Nat) (a:qb) (c:Cl),M.cel[n]?=Gc a->S[n]?=Gc c->bY K M H a c
section
variable{K:qS}{M M' M2:Ms}{H H' H2:Hp}{E:En}{σ:Sg}{S:Sto}
theorem EnR.step(r:EnR K M E σ H)(g:Sp1 M H M' H'):EnR K M' E σ H':=⟨r.len,λi d e=>by
 obtain⟨v,h1,h2⟩:=r.val i d e
 exact⟨v,h1,h2.step g⟩⟩
theorem StR.grow(r:StR K M S H)(k:∀a o,H a=Gc o->H' a=Gc o):StR K M S H':=by
 have g:Sp1 M H M H':=⟨r.mo,tF,λ_ z=>.inl z,λa o e _=>k a o e⟩
 refine⟨λa z=>(r.mo a z).imp (λ⟨xs,e⟩=>⟨xs,k _ _ e⟩) (Or.imp (λ⟨xs,e⟩=>⟨xs,k _ _ e⟩) λ⟨xs,e⟩=>⟨xs,k _ _ e⟩),r.nd,r.nt,r.len,λn a c h1 h2=>?_⟩
 have q:=r.cell n a c h1 h2
 cases c with
 |lst ds=>obtain⟨xs,e,rr⟩:=q;exact⟨xs,k _ _ e,rr.step g⟩
 |dct ds=>obtain⟨xs,e,rr⟩:=q;exact⟨xs,k _ _ e,rr.step g⟩
 |tab ds=>obtain⟨xs,e,rr⟩:=q;exact⟨xs,k _ _ e,rr.step g⟩
theorem StR.chg(r:StR K M S H){n:Nat}{a:qb}{ds es:Wp D}{ys:Wp V}(h1:M.cel[n]?=Gc a)(h2:S[n]?=Gc (.lst ds))(hy:Af K M H ys es):StR K M (S.set n (.lst es)) (upd H a (.lst ys))/\Gr M H M (upd H a (.lst ys)):=by
 have ha:a∈M.cel:=qx h1
 have hl:n<S.length:=(qe.mp h2).1
 have g:Gr M H M (upd H a (.lst ys)):=⟨r.mo,tF,rfl,λ_ z=>.inl z,λb o eb nb=>by rw[AX (λz=>nb (by rw[z];exact ha))];exact eb,λb eb=>by
  by_cases h:b=a
  .subst h;rw[Au];intro z;cases z
  .rw[AX h];exact eb⟩
 refine⟨⟨λb z=>?_,r.nd,r.nt,by rw[uS];exact r.len,λm b c e1 e2=>?_⟩,g⟩
 .by_cases h:b=a
  .subst h;exact .inl ⟨ys,Au⟩
  .rw[AX h];exact r.mo b z
 .by_cases h:n=m
  .subst h
   rw[h1]at e1;cases e1
   rw[qo hl]at e2;cases e2
   exact⟨ys,Au,hy.step g.st⟩
  .rw[qc h]at e2
   have hb:b≠a:=λz=>by
    subst z
    exact h ((wy (qe.mp h1).1 r.nd).mp (h1.trans e1.symm))
   have q:=r.cell m b c e1 e2
   cases c with
   |lst fs=>obtain⟨xs,e,rr⟩:=q;exact⟨xs,by rw[AX hb];exact e,rr.step g.st⟩
   |dct fs=>obtain⟨xs,e,rr⟩:=q;exact⟨xs,by rw[AX hb];exact e,rr.step g.st⟩
   |tab fs=>obtain⟨xs,e,rr⟩:=q;exact⟨xs,by rw[AX hb];exact e,rr.step g.st⟩
theorem StR.Zf(r:StR K M S H){a:qb}{xs:Wp V}{ds:Wp D}(e:H a=none)(k:∀b o,H b=Gc o->H' b=Gc o)(ea:H' a=Gc (.lst xs))(rr:Af K M H xs ds):StR K ⟨M.cel++[a],M.tmp⟩ (S++[.lst ds]) H'/\Gr M H ⟨M.cel++[a],M.tmp⟩ H':=by
 have g:Gr M H ⟨M.cel++[a],M.tmp⟩ H':=⟨r.mo,vk _ _,rfl,λb z=>by
  rcases rC.mp z with z|z
  .exact .inl z
  .simp at z;subst z;exact .inr e,λb o eb _=>k b o eb,λb eb z=>by
  cases h:H b with
  |none=>exact eb h
  |some o=>rw[k b o h]at z;cases z⟩
 have na:¬M.mem a:=λz=>r.mo.some z e
 refine⟨⟨λb z=>?_,?_,λb hb z=>?_,by simp[r.len],λm b c e1 e2=>?_⟩,g⟩
 .have z':M.mem b\/b=a:=by
   rcases z with z|z
   .rcases rC.mp z with z|z
    .exact .inl (.inl z)
    .simp at z;exact .inr z
   .exact .inl (.inr z)
  rcases z' with z|z
  .exact(r.mo b z).imp (λ⟨xs,e⟩=>⟨xs,k _ _ e⟩) (Or.imp (λ⟨xs,e⟩=>⟨xs,k _ _ e⟩) λ⟨xs,e⟩=>⟨xs,k _ _ e⟩)
  .subst z;exact .inl ⟨xs,ea⟩
 .rw[vQ]
  refine⟨r.nd,by simp,λx hx y hy=>?_⟩
  simp at hy;subst hy
  exact λz=>na (.inl (by rw[<-z];exact hx))
 .rcases rC.mp z with z|z
  .exact r.nt b hb z
  .simp at z;subst z;exact na (.inr hb)
 .by_cases h:m<S.length
  .rw[qZ (by rw[r.len];exact h)]at e1
   rw[qZ h]at e2
   have q:=r.cell m b c e1 e2
   cases c with
   |lst fs=>obtain⟨xs,e,rr⟩:=q;exact⟨xs,k _ _ e,rr.step g.st⟩
   |dct fs=>obtain⟨xs,e,rr⟩:=q;exact⟨xs,k _ _ e,rr.step g.st⟩
   |tab fs=>obtain⟨xs,e,rr⟩:=q;exact⟨xs,k _ _ e,rr.step g.st⟩
  .have hm:m=S.length:=by
    have:=(qe.mp e2).1
    simp at this;lia
   subst hm
   rw[rL (by rw[r.len];exact qg _)]at e1
   rw[rL (qg _)]at e2
   rw[r.len]at e1
   simp at e1 e2
   subst e1 e2
   exact⟨xs,ea,rr.step g.st⟩
end
noncomputable def pN:qY vY->rR
 |some .local=>true
 |some .cell=>true
 |some .free=>true
 |_=>false
noncomputable def ji(sc:uz)(x:Str):rR:=pN (sc.names.lookup x)
theorem dw{sc:uz}{x:Str}(h:ji sc x=true):Vis sc x:=by
 unfold ji at h
 unfold Vis
 cases e:sc.names.lookup x with
 |none=>rw[e]at h;cases h
 |some k=>
  rw[e]at h
  cases k<;>first|(cases h;done)|simp
abbrev Ev:=En->Sto->qY (D×Sto)
noncomputable def tD(K:qS)(f:Ev):TE:=λσ H Q=>∃M E S d S',f E S=Gc (d,S')/\EnR K M E σ H/\StR K M S H/\∀v H' M',Gr M H M' H'->StR K M' S' H'->Bi K M' H' v d->Q v H'
structure DE(X:Cx)(e:rJ)(f:Ev):Prop where
 pe:PE X e (tD X.K f)
theorem A7{X:Cx}{e:rJ}{t t':TE}(h:PE X e t)(m:∀σ H Q,t' σ H Q->t σ H Q):PE X e t':=λpins s σ H Q I q=>h pins s σ H Q I (m _ _ _ q)
theorem TC{X:Cx}{e:rJ}{t t':TT}(h:PT X e t)(m:∀σ H Q,t' σ H Q->t σ H Q):PT X e t':=λpins s σ H Q I q=>h pins s σ H Q I (m _ _ _ q)
theorem Hx{K:qS}{f:Ev}{σ:Sg}{H:Hp}{Q Q':VK}(h:tD K f σ H Q)(m:∀v H',Q v H'->Q' v H'):tD K f σ H Q':=by
 obtain⟨M,E,S,d,S',e,r,st,q⟩:=h
 exact⟨M,E,S,d,S',e,r,st,λv H' M' g s r=>m _ _ (q v H' M' g s r)⟩
theorem Ae{α β:Type}{o:qY α}{k:α->qY β}{y:β}(e:o.bind k=Gc y):∃x,o=Gc x/\k x=Gc y:=by
 cases o with
 |none=>cases e
 |some x=>exact⟨x,rfl,e⟩
theorem Hl{α β:Type}{o:qY α}{k:α->β}{y:β}(e:o.map k=Gc y):∃x,o=Gc x/\k x=y:=by
 cases o with
 |none=>cases e
 |some x=>cases e;exact⟨x,rfl,rfl⟩
noncomputable def fz:Wv->D
 | .val d=>d
 | .own ds=>.lst ds
noncomputable def at?(E:En)(i:Nat):qY D:=(E[i]?).join
theorem at?_some{E:En}{i:Nat}{w:D}(h:at? E i=Gc w):E[i]?=Gc (Gc w):=by
 unfold at? at h
 cases e:E[i]? with
 |none=>rw[e]at h;cases h
 |some q=>rw[e]at h;exact congrArg Gc h
noncomputable def evs:Wp Ev->En->Sto->qY (Wp D×Sto)
 | [],_,S=>Gc ([],S)
 |f::fs,E,S=>(f E S).bind λr=>(evs fs E r.2).map λq=>(r.1::q.1,q.2)
noncomputable def tDs(K:qS):Wp Ev->TA
 | []=>lx
 |f::fs=>fO (tD K f) (tDs K fs)
structure DEs(X:Cx)(es:Wp rJ)(fs:Wp Ev):Prop where
 pe:PA X es (tDs X.K fs)
theorem AN{X:Cx}:DEs X [] []:=⟨VB⟩
theorem AF{X:Cx}{e:rJ}{es:Wp rJ}{f:Ev}{fs:Wp Ev}(h:DE X e f)(t:DEs X es fs)(hs:rB (e::es) X.env=(false,eval e X.env)::rB es X.env:=by rfl):DEs X (e::es) (f::fs):=⟨Mq h.pe t.pe hs⟩
section
variable{K:qS}{M M':Ms}{E:En}{S:Sto}{σ:Sg}{H H':Hp}
theorem FV:∀{fs:Wp Ev} {M:Ms} {S:Sto} {ds:Wp D} {S':Sto} {H:Hp} {Q:Wp V->Hp->Prop},evs fs E S=Gc (ds,S')->EnR K M E σ H->StR K M S H->(∀vs H' M',Gr M H M' H'->StR K M' S' H'->Af K M' H' vs ds->Q vs H')->tDs K fs σ H Q
 | [],M,S,ds,S',H,Q,e,r,st,q=>by
   cases e
   exact q [] H M (.refl st.mo) st .nil
 |f::fs,M,S,ds,S',H,Q,e,r,st,q=>by
  obtain⟨⟨d,S1⟩,e1,e⟩:=Ae e
  obtain⟨⟨es,S2⟩,e2,e⟩:=Hl e
  cases e
  refine⟨M,E,S,d,S1,e1,r,st,λv H1 M1 g1 st1 d1=>?_⟩
  exact FV e2 (r.step g1.st) st1 λvs H2 M2 g2 st2 d2=>q _ _ M2 (g1.trans g2) st2 (.cons (d1.step g2.st) d2)
theorem K3:∀{fs:Wp Ev} {S:Sto} {ds:Wp D} {S':Sto},evs fs E S=Gc (ds,S')->ds.length=fs.length
 | [],_,_,_,e=>by cases e;rfl
 |f::fs,S,ds,S',e=>by
  obtain⟨⟨d,S1⟩,e1,e⟩:=Ae e
  obtain⟨⟨es,S2⟩,e2,e⟩:=Hl e
  cases e
  simp[K3 e2]
def Sh(K:qS)(M:Ms)(H:Hp)(v:V):Wv->Prop
 | .val d=>Bi K M H v d
 | .own ds=>∃a xs,v=.ref a/\H a=Gc (.lst xs)/\Af K M H xs ds
def ivP(K:qS)(M:Ms)(H:Hp)(v:V):D->Prop
 | .non=>v=.non
 | .bl b=>v=.bl b
 | .int i=>v=.int i
 | .str x=>v=.str x
 | .ty n=>v=.ty n
 | .tup ds=>∃a xs,v=.ref a/\SqT K H a xs/\Af K M H xs ds
 |_=>ze
theorem Bi.iv{K:qS}{M:Ms}{H:Hp}{v:V}{d:D}(h:Bi K M H v d):ivP K M H v d:=by
 cases h with
 |tup h r=>exact⟨_,_,rfl,h,r⟩
 |non=>rfl
 |bl=>rfl
 |int=>rfl
 |str=>rfl
 |ty=>rfl
 |_=>trivial
inductive Shs(K:qS)(M:Ms)(H:Hp):Wp V->Wp Wv->Prop
 |nil:Shs K M H [] []
 |cons {v:V} {w:Wv} {vs:Wp V} {ws:Wp Wv} (h:Sh K M H v w) (t:Shs K M H vs ws):Shs K M H (v::vs) (w::ws)
noncomputable def dr(S:Sto):D->Wv
 | .ref n=>match S[n]? with
   |some (.lst ds)=>.own ds
   |_=>.val (.ref n)
 |d=>.val d
theorem af(st:StR K M S H){v:V}{d:D}(h:Bi K M H v d):Sh K M H v (dr S d):=by
 cases h with
 |ref h=>
  rename_i a n
  show Sh K M H (.ref a) (match S[n]? with|some (.lst ds)=>.own ds|_=>.val (.ref n))
  split
  .rename_i ds e
   obtain⟨xs,h1,h2⟩:=st.cell n a _ h e
   exact⟨a,xs,rfl,h1,h2⟩
  .exact .ref h
 |non=>exact .non
 |bl b=>exact .bl b
 |int b=>exact .int b
 |str b=>exact .str b
 |ty b=>exact .ty b
 |tup h r=>exact .tup h r
 |lst h n r=>exact .lst h n r
 |scr h=>exact .scr h
 |dct h n r=>exact .dct h n r
theorem YJ(st:StR K M S H):∀{vs:Wp V} {ds:Wp D},Af K M H vs ds->Shs K M H vs (ds.map (dr S))
 |_,_,.nil=>.nil
 |_,_,.cons h t=>.cons (af st h) (YJ st t)
def NwR(K:qS)(M:Ms)(H H':Hp)(v:V):Wv->Prop
 | .val d=>Bi K M H' v d
 | .own ds=>∃a xs,v=.ref a/\H a=none/\H' a=Gc (.lst xs)/\Af K M H xs ds
structure Nw(K:qS)(M:Ms)(H H':Hp)(v:V)(w:Wv):Prop where
 grow:∀a o,H a=Gc o->H' a=Gc o
 rel:NwR K M H H' v w
theorem Nw.same{v:V}{d:D}(mo:MOk M H)(h:Bi K M H v d):Nw K M H H v (.val d):=⟨λ_ _ e=>e,h⟩
theorem GZ{a:qb}{o:HO}(e:H a=none):∀b u,H b=Gc u->upd H a o b=Gc u:=λb u eb=>by rw[AX (λz=>by subst z;rw[e]at eb;cases eb)];exact eb
theorem Nw.lst{a:qb}{xs:Wp V}{ds:Wp D}(mo:MOk M H)(e:H a=none)(h:Af K M H xs ds):Nw K M H (upd H a (.lst xs)) (.ref a) (.own ds):=⟨GZ e,a,xs,rfl,e,Au,h⟩
theorem Nw.tup{a:qb}{xs:Wp V}{ds:Wp D}(mo:MOk M H)(e:H a=none)(h:Af K M H xs ds):Nw K M H (upd H a (.tup xs)) (.ref a) (.val (.tup ds)):=⟨GZ e,.tup (.of Au) (h.step (Gr.grow mo (GZ e)).st)⟩
noncomputable def fin:rR->Wv->Sto->qY (D×Sto)
 |_,.val d,S=>Gc (d,S)
 |false,.own ds,S=>Gc (.lst ds,S)
 |true,.own ds,S=>Gc (.ref S.length,S++[.lst ds])
theorem Nw.fin{c:rR}{v:V}{w:Wv}{d:D}{S':Sto}(n:Nw K M H H' v w)(st:StR K M S H)(e:fin c w S=Gc (d,S')):∃M',Gr M H M' H'/\StR K M' S' H'/\Bi K M' H' v d:=by
 cases w with
 |val d'=>
  cases e
  exact⟨M,.grow st.mo n.grow,st.grow n.grow,n.rel⟩
 |own ds=>
  obtain⟨a,xs,rfl,h1,h2,h3⟩:=n.rel
  cases c with
  |false=>
   cases e
   exact⟨M,.grow st.mo n.grow,st.grow n.grow,.lst h2 (λz=>st.mo.some z h1) (h3.step (Gr.grow st.mo n.grow).st)⟩
  |true=>
   cases e
   obtain⟨s1,g1⟩:=st.Zf h1 n.grow h2 h3
   refine⟨_,g1,s1,.ref ?_⟩
   rw[<-st.len]
   exact qm
abbrev Op1:=Wv->qY Wv
abbrev Op2:=Wv->Wv->qY Wv
abbrev OpN:=Wp Wv->qY Wv
noncomputable def rOp(K:qS)(op:Op2):R2:=λx y H Q=>∃M w1 w2 r,op w1 w2=Gc r/\MOk M H/\Sh K M H x w1/\Sh K M H y w2/\∀v H',Nw K M H H' v r->Q v H'
def rUn(K:qS)(op:Op1):V->Hp->VK->Prop:=λx H Q=>∃M w r,op w=Gc r/\MOk M H/\Sh K M H x w/\∀v H',Nw K M H H' v r->Q v H'
def rN(K:qS)(op:OpN):Wp V->Hp->VK->Prop:=λxs H Q=>∃M ws r,op ws=Gc r/\MOk M H/\Shs K M H xs ws/\∀v H',Nw K M H H' v r->Q v H'
noncomputable def Nn(c:rR)(op:OpN)(fs:Wp Ev):Ev:=λE S=>(evs fs E S).bind λr=>(op (r.1.map (dr r.2))).bind λw=>fin c w r.2
abbrev eOp:=Nn false
abbrev iH:=Nn true
noncomputable def o1(op:Op1):OpN| [a]=>op a|_=>none
noncomputable def o2(op:Op2):OpN| [a,b]=>op a b|_=>none
theorem Kj{c:rR}{op:OpN}{fs:Wp Ev}{Q:VK}{d:D}{S':Sto}(e:Nn c op fs E S=Gc (d,S'))(r:EnR K M E σ H)(st:StR K M S H)(h:∀v H' M',Gr M H M' H'->StR K M' S' H'->Bi K M' H' v d->Q v H'):tDs K fs σ H λvs H1=>rN K op vs H1 Q:=by
 obtain⟨⟨ds,S1⟩,e1,e⟩:=Ae e
 obtain⟨w,e2,e⟩:=Ae e
 refine FV e1 r st λvs H1 M1 g1 st1 d1=>⟨M1,_,w,e2,st1.mo,YJ st1 d1,λv H2 n=>?_⟩
 obtain⟨M2,g2,st2,d2⟩:=n.fin st1 e
 exact h v H2 M2 (g1.trans g2) st2 d2
end
theorem gE{K:qS}{f:Op2}{x y:V}{H:Hp}{Q:VK}(h:rN K (o2 f) [x,y] H Q):rOp K f x y H Q:=by
 obtain⟨M,ws,r,e,mo,s,q⟩:=h
 cases s with
 |cons h1 s=>
  cases s with
  |cons h2 s=>
   cases s
   exact⟨M,_,_,r,e,mo,h1,h2,q⟩
theorem cX{K:qS}{f:Op1}{x:V}{H:Hp}{Q:VK}(h:rN K (o1 f) [x] H Q):rUn K f x H Q:=by
 obtain⟨M,ws,r,e,mo,s,q⟩:=h
 cases s with
 |cons h1 s=>
  cases s
  exact⟨M,_,r,e,mo,h1,q⟩
theorem RM{K:qS}{c:rR}{f:Op2}{fa fb:Ev}{σ:Sg}{H:Hp}{Q:VK}(h:tD K (Nn c (o2 f) [fa,fb]) σ H Q):tOp (rOp K f) (tD K fa) (tD K fb) σ H Q:=by
 obtain⟨M,E,S,d,S',e,r,st,q⟩:=h
 have z:tD K fa σ H λx H1=>tD K fb σ H1 λy H2=>rN K (o2 f) [x,y] H2 Q:=Kj (Q:=Q) e r st q
 exact Hx z λx H1 z1=>Hx z1 λy H2 z2=>gE z2
theorem eQ{K:qS}{c:rR}{f:Op1}{fa:Ev}{σ:Sg}{H:Hp}{Q:VK}(h:tD K (Nn c (o1 f) [fa]) σ H Q):tUn (rUn K f) (tD K fa) σ H Q:=by
 obtain⟨M,E,S,d,S',e,r,st,q⟩:=h
 have z:tD K fa σ H λx H1=>rN K (o1 f) [x] H1 Q:=Kj (Q:=Q) e r st q
 exact Hx z λx H1 z1=>cX z1
section
variable{X:Cx}{a b e:rJ}{es:Wp rJ}{fa fb:Ev}{fs:Wp Ev}{pos p:Pos}{c:rR}
theorem XQ{op:Operator}{f:Op2}(ho:OpR X (binaryOp op) (rOp X.K f))(ha:DE X a fa)(hb:DE X b fb):DE X (.BinOp a op b pos) (Nn c (o2 f) [fa,fb]):=⟨A7 (lE ho ha.pe hb.pe) λ_ _ _ h=>RM h⟩
theorem YX{op:CmpOp}{f:Op2}(ho:OpR X (compareOp op) (rOp X.K f))(ha:DE X a fa)(hb:DE X b fb)(hm:behindInMarks op b=false:=by rfl):DE X (.Compare a [op] [b] pos) (Nn c (o2 f) [fa,fb]):=⟨A7 (ZW ho ha.pe hb.pe hm) λ_ _ _ h=>RM h⟩
theorem dh{op:UnaryOp}{f:Op1}(ho:UnR X (unaryOp op) (rUn X.K f))(ha:DE X a fa):DE X (.UnaryOp op a pos) (Nn c (o1 f) [fa]):=⟨A7 (kx ho ha.pe) λ_ _ _ h=>eQ h⟩
theorem Cy{f:Op2}(hr:IxR X (rOp X.K f))(ha:DE X a fa)(hb:DE X b fb)(hs:Uv b:=by exact λ_ _=>rfl):DE X (.Subscript a b pos) (Nn c (o2 f) [fa,fb]):=⟨A7 (jW hr ha.pe hb.pe hs) λ_ _ _ h=>RM h⟩
theorem FX{id:uO}{x:Str}{f:OpN}(hc:Cj X (.builtin id) (rN X.K f))(hg:Gl X x)(hm:X.mg x=none)(hv:bootBuiltins x=Gc (.builtin id))(ha:DEs X (e::es) fs)(hn:x≠ "__name__":=by decide)(hdb:(x==("__debug__":Str))=false:=by decide)(he:rB (e::es) X.env=(false,eval e X.env)::rB es X.env:=by rfl)(hpl:(backTo pos (rB es X.env)).any (·.1)=false:=by rfl):DE X (.Call (.Name x p) (e::es) [] pos) (Nn c f fs):=⟨
 A7 (WE hc hg hm hv ha.pe hn hdb he hpl) λ_ _ _ h=>by
  obtain⟨M,E,S,d,S',e,r,st,q⟩:=h
  exact Kj e r st q⟩
theorem OU{T:uO}{x:Str}{f:OpN}(hc:Cj X (.type T) (rN X.K f))(hg:Gl X x)(hm:X.mg x=none)(hv:bootBuiltins x=Gc (.type T))(ha:DEs X (e::es) fs)(hn:x≠ "__name__":=by decide)(hdb:(x==("__debug__":Str))=false:=by decide)(he:rB (e::es) X.env=(false,eval e X.env)::rB es X.env:=by rfl)(hpl:(backTo pos (rB es X.env)).any (·.1)=false:=by rfl):DE X (.Call (.Name x p) (e::es) [] pos) (Nn c f fs):=⟨
 A7 (LO hc hg hm hv ha.pe hn hdb he hpl) λ_ _ _ h=>by
  obtain⟨M,E,S,d,S',e,r,st,q⟩:=h
  exact Kj e r st q⟩
noncomputable def eC(d:D):Ev:=λ_ S=>Gc (d,S)
theorem Oo{v:V}{d:D}(h:PE X e (tC v))(r:∀K M H,Bi K M H v d):DE X e (eC d):=⟨A7 h λσ H Q z=>by
 obtain⟨M,E,S,w,S',e,rr,st,q⟩:=z
 cases e
 exact q _ _ M (.refl st.mo) st (r _ _ _)⟩
theorem BD{i:Int}{j:Nat}:DE X (.Constant (.int i) j pos) (eC (.int i)):=Oo dY λ_ _ _=>.int _
theorem Th{i:rR}{j:Nat}:DE X (.Constant (.bool i) j pos) (eC (.bl i)):=Oo jK λ_ _ _=>.bl _
theorem Ht{i:Str}{j:Nat}:DE X (.Constant (.str i) j pos) (eC (.str i)):=Oo cV λ_ _ _=>.str _
theorem lZ{j:Nat}:DE X (.Constant .none j pos) (eC .non):=Oo gC λ_ _ _=>.non
noncomputable def eV(i:Nat):Ev:=λE S=>(at? E i).map λd=>(d,S)
theorem AK(i:Nat){x:Str}(hN:X.N[i]?=Gc x:=by rfl)(hv:ji X.env.scope x=true:=by rfl)(hd:(x==("__debug__":Str))=false:=by decide)(hcd:(x==("__classdict__":Str))=false:=by decide):DE X (.Name x pos) (eV i):=⟨A7 (YZ hN (dw hv) hd hcd) λσ H Q z=>by
 obtain⟨M,E,S,d,S',e,r,st,q⟩:=z
 obtain⟨d',e1,e⟩:=Hl e
 cases e
 obtain⟨v,hv,rd⟩:=r.val i d (at?_some e1)
 exact⟨v,hv,q v H M (.refl st.mo) st rd⟩⟩
end
theorem Gn:fillsNumberSlot (.type "tuple") "mul"=pure false:=
 fillsNumberSlot_seq (id:="tuple.__mul__") (r:=Gc (.builtin "tuple.__rmul__")) xN.lookup (by decide+kernel) F.slot_tuple_rmul.lookup (by decide+kernel)
theorem Jv:seqRepeat? (.type "tuple")=pure (Gc (.builtin "tuple.__mul__")):=by
 unfold seqRepeat?
 rw[seqSlot_of (T:="tuple") (name:="__mul__") (id:="tuple.__mul__") xN.lookup (by decide+kernel),seqSlot_of (T:="tuple") (name:="__rmul__") (id:="tuple.__rmul__") F.slot_tuple_rmul.lookup (by decide+kernel)]
 rfl
theorem Hq(a:Int)(t:Tok)(l:qb)(items:rP qT)(n:Nat)(dd:qY qb)(sl:rP (qY qT)):Meets (uQ.«int.__rmul__» ⟨[.int a t,.ref l],[]⟩) (λ_ R s=>s.heap.get? l=Gc {cls:=.type "tuple",dict:=dd,data:=.seq items n,slots:=sl}/\R (.ok (.ret zg)) s):=
 .of_wp λprog w A R s h=>by obtain⟨hp,g,d,tk,os⟩:=s;obtain⟨hl,h⟩:=h;wp_walk;exact⟨_,rfl,h⟩
theorem VQ(its:Wp qT)(m:Nat):AAT (λx1 x2=>x1++x2) #[] (qz m its.toArray)=(qz m its).flatten.toArray:=by
 have:=foldl_rep its m []
 rw[sF]at this
 exact this
theorem Y9{X:Cx}:OpR X (binaryOp .Mult) (λx y H Q=>∃a xs k,x=.ref a/\y=.int k/\SqT X.K H a xs/\xs≠[]/\1<=k/\xs.length*k.toNat<=sizeLine/\(k=1->Q (.ref a) H)/\(k≠1->∀p,H p=none->Q (.ref p) (upd H p (.tup (qz k.toNat xs).flatten)))):=by
 intro pins s σ H x y v u Q I rx ry h
 obtain⟨a,xs,k,rfl,rfl,hx,hne,hk,hz,q1,q2⟩:=h
 cases rx
 obtain⟨t,rfl⟩:=ry
 obtain⟨its,r,⟨⟨c,dd,data,sl⟩,ho,hc,n,hd⟩,hzz⟩:=I.tuple hx
 simp only at hc hd
 subst hc hd
 have hl:=r.length
 have hsz:its.toArray.size=xs.length:=by rw[qr];exact hl.symm
 have hpos:0<xs.length:=uo.mpr hne
 have hkl:k.toNat<=sizeLine:=qh (Nat.le_mul_of_pos_left _ hpos) hz
 have hk63:k<2^63:=by
  have:(sizeLine:Nat)<2^63:=by decide
  lia
 refine wJ (T:="tuple") (U:="int") (by decide) ⟨_,ho,rfl⟩ (λs'=>xK s' k t) Gn zQ vp Jv yt.lookup
  (xM vp (xK s k t) yu (yU _ _) (Hq k t a its.toArray n dd sl) ⟨ho,rfl,⟨_,ho,rfl⟩,?_⟩)
 refine sD xN ⟨_,ho,rfl⟩ F.entry_tuple_mul ?_ (AAW _ _)
 unfold uQ.«tuple.__mul__»
 wp_walk using rG ho
 rw[rA (show¬(decide (k< -2^63)||decide (k≥2^63))=true by
  rw[tS]
  rintro (z|z)
  .have:=qu z;lia
  .have:=qu z;lia)]
 wp_walk using rG ho
 by_cases h1:k=1
 .subst h1
  rw[q9 (show(its.toArray.isEmpty||(1:Int)==1)=true by simp)]
  wp_walk using rG ho
  exact⟨_,rfl,.ref a,H,I,rfl,q1 rfl⟩
 .have hemp:its.toArray.isEmpty=false:=by
   cases its with
   |nil=>rw[uA]at hl;lia
   |cons b bs=>rfl
  rw[rA (show¬(its.toArray.isEmpty||k==1)=true by rw[hemp];simpa using h1)]
  wp_walk using rG ho
  have hmul:((its.toArray.size:Int)*k)=((xs.length*k.toNat:Nat):Int):=by
   rw[hsz,zT]
   congr 1
   lia
  rw[rA (show¬(decide (k<=0)||its.toArray.isEmpty)=true by
   rw[hemp,Bool.or_false]
   intro z
   have:=qu z
   lia)]
  wp_walk
  rw[rA (show¬((its.toArray.size:Int)*k>(2^63-1) / 8) by
   rw[hmul]
   have:(sizeLine:Nat)<=(2^63-1) / 8:=by decide
   lia)]
  wp_walk
  rw[rA (show¬yF ((its.toArray.size:Int)*k)=true by
   unfold yF
   rw[hmul]
   intro z
   have:=qu z
   lia)]
  rw[VQ]
  wp_walk
  have hlen:(qz k.toNat its).flatten.length<=sizeLine:=by rw[len_rep,ve,<-hl];exact hz
  rw[rA (show¬((qz k.toNat its).flatten.toArray.size>sizeLine) by rw[qr];lia)]
  wp_walk
  refine⟨_,rfl,.ref _,_,I.laid (o:=.tup (qz k.toNat xs).flatten) (t':=s.toks) (λb ob q=>qU _ q) (qg _) ?_,rfl,q2 h1 _ (I.hok.fresh (qg _))⟩
  exact⟨by rw[len_rep,ve];exact hz,_,r.rep k.toNat,wL _ _⟩
mutual
noncomputable def D.py:D->PyData
 | .non=>.none| .bl b=>.bool b| .int i=>.int i| .str x=>.str x| .ty _=>.none
 | .tup ds=>.tuple (D.pys ds)| .lst ds=>.list (D.pys ds)| .dct _=>.none| .scr _=>.none| .ref _=>.none
noncomputable def D.pys:Wp D->Wp PyData
 | []=>[]
 |d::ds=>D.py d::D.pys ds
end
mutual
noncomputable def D.lay:D->rR
 | .non=>true| .bl _=>true| .int _=>true| .str x=>vw x| .ty _=>false| .dct _=>false| .scr _=>false| .ref _=>false
 | .tup ds=>D.Qi ds| .lst ds=>D.Qi ds
noncomputable def D.Qi:Wp D->rR
 | []=>true
 |d::ds=>D.lay d && D.Qi ds
end
mutual
theorem JY:∀{d:D},d.lay=true->d.py.canLay0=true
 | .non,_=>rfl
 | .bl _,_=>rfl
 | .int _,_=>rfl
 | .str x,h=>h
 | .ty _,h=>uN h
 | .dct _,h=>uN h
 | .scr _,h=>uN h
 | .ref _,h=>uN h
 | .tup ds,h=>by show w6 (D.pys ds)=true;exact MX h
 | .lst ds,h=>by show w6 (D.pys ds)=true;exact MX h
theorem MX:∀{ds:Wp D},D.Qi ds=true->w6 (D.pys ds)=true
 | [],_=>rfl
 |d::ds,h=>by
  have h':(D.lay d && D.Qi ds)=true:=h
  rw[qt]at h'
  show(PyData.canLay0 d.py && w6 (D.pys ds))=true
  rw[JY h'.1,MX h'.2];rfl
end
section
variable{X:Cx}{pins:Wp (qb×Obj)}{σ:Sg}{H:Hp}{s:qX}{M:Ms}
theorem Hw(I:Inv X pins σ H s){a:qb}{xs:Wp V}(h:Rd H a (.lst xs)):∃its:Wp qT,Vals xs its/\∃o n,s.heap.get? a=Gc o/\o.cls=.type "list" /\o.data=.seq its.toArray n:=by
 obtain⟨z,its,n,r,e⟩:=h.ok I.hok
 exact⟨its,r,_,n,e,rfl,rfl⟩
theorem Bi.reads(I:Inv X pins σ H s){v:V}{d:D}(h:Bi X.K M H v d):∀{u:qT},RelV v u->d.lay=true->∃as,Reads s.heap u d.py as:=
 Bi.rec (motive_1:=λv d _=>∀{u:qT},RelV v u->d.lay=true->∃as,Reads s.heap u d.py as) (motive_2:=λvs ds _=>∀{us:Wp qT},Vals vs us->D.Qi ds=true->∃as,ReadsAll s.heap us (D.pys ds) as) (motive_3:=λ_ _ _=>ze)
  (λr _=>by cases r;exact⟨_,.none⟩) (λb _ r _=>by cases r;exact⟨_,.bool b⟩) (λb _ r _=>by obtain⟨t,rfl⟩:=r;exact⟨_,.int b t⟩) (λb _ r _=>by obtain⟨t,rfl⟩:=r;exact⟨_,.str b t⟩) (λ_ _ _ h=>uN h)
  (fun h _ ih _ r hl => by
    cases r
    obtain⟨its,rv,⟨o,e,hc,n,hd⟩,_⟩:=I.tuple h
    obtain⟨as,ra⟩:=ih rv hl
    exact⟨as,.tuple e hc hd ra⟩)
  (fun h _ _ ih _ r hl => by
    cases r
    obtain⟨its,rv,o,n,e,hc,hd⟩:=Hw I (.inl h)
    obtain⟨as,ra⟩:=ih rv hl
    exact⟨_,.list e hc hd ra⟩)
  (λ_ _ _ h=>uN h) (λ_ _ _ _ _ _ h=>uN h) (λ_ _ _ h=>uN h)
  (fun r _ => by cases r; exact ⟨_, .nil⟩) (fun {v d vs ds} _ _ ih1 ih2 _ r hl => by
    cases r with
    |cons r1 r2=>
     have hl':(D.lay d && D.Qi ds)=true:=hl
     rw[qt]at hl'
     obtain⟨as,ra⟩:=ih1 r1 hl'.1
     obtain⟨bs,rb⟩:=ih2 r2 hl'.2
     exact⟨_,.cons ra rb⟩) trivial (λ_ _ _ _=>trivial) h
theorem Af.reads(I:Inv X pins σ H s){vs:Wp V}{ds:Wp D}(h:Af X.K M H vs ds):∀{us:Wp qT},Vals vs us->D.Qi ds=true->∃as,ReadsAll s.heap us (D.pys ds) as:=
 h.ind (P:=λvs ds=>∀{us:Wp qT},Vals vs us->D.Qi ds=true->∃as,ReadsAll s.heap us (D.pys ds) as) (λr _=>by cases r;exact⟨_,.nil⟩) (λ{v d vs ds} h ih2 _ r hl=>by
  cases r with
  |cons r1 r2=>
   have hl':(D.lay d && D.Qi ds)=true:=hl
   rw[qt]at hl'
   obtain⟨as,ra⟩:=h.reads I r1 hl'.1
   obtain⟨bs,rb⟩:=ih2 r2 hl'.2
   exact⟨_,.cons ra rb⟩)
end
noncomputable def deq(a b:D):rR:=PyData.eqv a.py b.py
noncomputable def MI(a b:D):rR:=a.lay && b.lay && decide (min a.py.depth b.py.depth<=60)
noncomputable def wEq:Op2:=λa b=>if MI (fz a) (fz b)=true then Gc (.val (.bl (deq (fz a) (fz b))))else none
noncomputable def wNe:Op2:=λa b=>if MI (fz a) (fz b)=true then Gc (.val (.bl (!deq (fz a) (fz b))))else none
section
variable{X:Cx}
theorem Sh.reads{pins:Wp (qb×Obj)}{σ:Sg}{H:Hp}{s:qX}{M:Ms}{v:V}{u:qT}{w:Wv}(h:Sh X.K M H v w)(I:Inv X pins σ H s)(r:RelV v u)(hl:(fz w).lay=true):∃as,Reads s.heap u (fz w).py as:=by
 cases w with
 |val d=>exact Bi.reads I h r hl
 |own ds=>
  obtain⟨a,xs,rfl,h1,h2⟩:=h
  cases r
  obtain⟨its,rv,o,n,e,hc,hd⟩:=Hw I (.inl h1)
  obtain⟨as,ra⟩:=Af.reads I h2 rv hl
  exact⟨_,.list e hc hd ra⟩
theorem Lz(hu:X.A.units+100<cLine):OpR X (compareOp .Eq) (rOp X.K wEq):=by
 intro pins s σ H x y v u Q I rx ry h
 obtain⟨M,w1,w2,r,e,mo,s1,s2,q⟩:=h
 unfold wEq at e
 split at e
 .rename_i hk
  unfold MI at hk
  rw[qt,qt]at hk
  cases e
  obtain⟨as,ra⟩:=s1.reads I rx hk.1.1
  obtain⟨bs,rb⟩:=s2.reads I ry hk.1.2
  have hd:=qu hk.2
  exact SeqAt.compareEq_reads ra rb (JY hk.1.1) (JY hk.1.2) (by lia) ⟨.bl _,H,I,rfl,q _ _ (.same mo (.bl _))⟩
 .cases e
theorem Q2(hu:X.A.units+100<cLine):OpR X (compareOp .NotEq) (rOp X.K wNe):=by
 intro pins s σ H x y v u Q I rx ry h
 obtain⟨M,w1,w2,r,e,mo,s1,s2,q⟩:=h
 unfold wNe at e
 split at e
 .rename_i hk
  unfold MI at hk
  rw[qt,qt]at hk
  cases e
  obtain⟨as,ra⟩:=s1.reads I rx hk.1.1
  obtain⟨bs,rb⟩:=s2.reads I ry hk.1.2
  have hd:=qu hk.2
  exact SeqAt.compareNe_reads ra rb (JY hk.1.1) (JY hk.1.2) (by lia) ⟨.bl _,H,I,rfl,q _ _ (.same mo (.bl _))⟩
 .cases e
noncomputable def wI2(f:Int->Int->qY D):Op2
 | .val (.int i),.val (.int j)=>(f i j).map .val
 |_,_=>none
theorem Q0{g:qT->qT->Sem qT}{C:Int->Int->Prop}{h:Int->Int->V}{f:Int->Int->qY D}(o:OpR X g (rI C h))(hf:∀i j d,f i j=Gc d->C i j/\∀K M H,Bi K M H (h i j) d):OpR X g (rOp X.K (wI2 f)):=by
 intro pins s σ H x y v u Q I rx ry hh
 obtain⟨M,w1,w2,r,e,mo,s1,s2,q⟩:=hh
 unfold wI2 at e
 split at e
 .obtain rfl:=Bi.iv s1
  obtain rfl:=Bi.iv s2
  rename_i i j
  cases e1:f i j with
  |none=>rw[e1]at e;cases e
  |some d=>
   rw[e1]at e
   cases e
   obtain⟨c,rd⟩:=hf i j d e1
   exact o pins s σ H _ _ v u Q I rx ry ⟨i,j,rfl,rfl,c,q _ _ (.same mo (rd _ _ _))⟩
 .cases e
theorem K5{g:qT->qT->Sem qT}{h:Int->Int->V}{f:Int->Int->qY D}(o:OpR X g (rI0 h))(hf:∀i j d,f i j=Gc d->∀K M H,Bi K M H (h i j) d):OpR X g (rOp X.K (wI2 f)):=by
 intro pins s σ H x y v u Q I rx ry hh
 obtain⟨M,w1,w2,r,e,mo,s1,s2,q⟩:=hh
 unfold wI2 at e
 split at e
 .obtain rfl:=Bi.iv s1
  obtain rfl:=Bi.iv s2
  rename_i i j
  cases e1:f i j with
  |none=>rw[e1]at e;cases e
  |some d=>
   rw[e1]at e
   cases e
   exact o pins s σ H _ _ v u Q I rx ry ⟨i,j,rfl,rfl,q _ _ (.same mo (hf i j d e1 _ _ _))⟩
 .cases e
noncomputable def Le:Op2:=wI2 λi j=>Gc (.int (i-j))
noncomputable def Ya:Nat:=2^60000
noncomputable def FH:Nat:=2^8000
noncomputable def Dl(i j:Int):rR:=decide (i.natAbs<2^64)||(decide (j.natAbs<2^64)||(decide (i.natAbs<Ya) && decide (j.natAbs<Ya)))
theorem bB:OpR X (binaryOp .Mult) (rI (λi j=>Dl i j=true) λi j=>.int (i*j)):=by
 intro pins s σ H x y v u Q I rx ry h
 obtain⟨i,j,rfl,rfl,hk,q⟩:=h
 unfold Dl at hk
 rw[tS,tS,qt]at hk
 rcases hk with hk|hk|hk
 .have:=qu hk
  exact Yd pins s σ H _ _ v u Q I rx ry ⟨i,j,rfl,rfl,.inl ⟨by lia,by lia⟩,q⟩
 .have:=qu hk
  exact Yd pins s σ H _ _ v u Q I rx ry ⟨i,j,rfl,rfl,.inr ⟨by lia,by lia⟩,q⟩
 .have h1:i.natAbs<2^60000:=qu hk.1
  have h2:j.natAbs<2^60000:=qu hk.2
  obtain⟨t1,rfl⟩:=rx
  obtain⟨t2,rfl⟩:=ry
  exact PyProof.Rows.mul_int ⟨.int _,H,I.tok _,⟨_,rfl⟩,q⟩ (PyProof.Rows.mulOk_of_bits (m:=60000) (n:=60000) (zp.mpr h1) (zp.mpr h2) (by decide))
noncomputable def lK:Op2:=wI2 λi j=>if Dl i j=true then Gc (.int (i*j))else none
noncomputable def Ma:Op2:=wI2 λi j=>if(decide (0<j) && decide (j.natAbs<FH))=true then Gc (.int (i / j))else none
noncomputable def PM:Op2:=wI2 λi j=>if 0<j then Gc (.int (i % j))else none
noncomputable def gq:Op2:=wI2 λi j=>if(decide (0<=j) && decide (j<=1000) && decide (i.natAbs<2^64))=true then Gc (.int (i^j.toNat))else none
noncomputable def wLt:Op2:=wI2 λi j=>Gc (.bl (decide (i<j)))
noncomputable def wLe:Op2:=wI2 λi j=>Gc (.bl (decide (i<=j)))
noncomputable def wGt:Op2:=wI2 λi j=>Gc (.bl (decide (j<i)))
noncomputable def wGe:Op2:=wI2 λi j=>Gc (.bl (decide (j<=i)))
theorem kr:OpR X (binaryOp .Sub) (rOp X.K Le):=K5 bW λi j d e K M H=>by cases e;exact .int _
theorem Zy:OpR X (binaryOp .Mult) (rOp X.K lK):=Q0 bB λi j d e=>by
 split at e
 .rename_i hk
  cases e
  exact⟨hk,λ_ _ _=>.int _⟩
 .cases e
theorem iL:OpR X (binaryOp .FloorDiv) (rOp X.K Ma):=Q0 St.XN λi j d e=>by
 split at e
 .rename_i hk
  rw[qt]at hk
  cases e
  exact⟨⟨qu hk.1,qu hk.2⟩,λ_ _ _=>.int _⟩
 .cases e
theorem lH:OpR X (binaryOp .Mod) (rOp X.K PM):=Q0 fE λi j d e=>by
 split at e
 .rename_i hk
  cases e
  exact⟨hk,λ_ _ _=>.int _⟩
 .cases e
theorem jY:OpR X (binaryOp .Pow) (rOp X.K gq):=Q0 fJ λi j d e=>by
 split at e
 .rename_i hk
  rw[qt,qt]at hk
  cases e
  have:=qu hk.1.2
  exact⟨⟨qu hk.1.1,by lia,qu hk.2⟩,λ_ _ _=>.int _⟩
 .cases e
theorem dW:OpR X (compareOp .Lt) (rOp X.K wLt):=K5 jf λi j d e K M H=>by cases e;exact .bl _
theorem l9:OpR X (compareOp .LtE) (rOp X.K wLe):=K5 kZ λi j d e K M H=>by cases e;exact .bl _
theorem mJ:OpR X (compareOp .Gt) (rOp X.K wGt):=K5 kL λi j d e K M H=>by cases e;exact .bl _
theorem nE:OpR X (compareOp .GtE) (rOp X.K wGe):=K5 jk λi j d e K M H=>by cases e;exact .bl _
noncomputable def asL:Wv->qY (Wp D)
 | .own ds=>Gc ds
 | .val (.lst ds)=>Gc ds
 |_=>none
noncomputable def asT:Wv->qY (Wp D)
 | .val (.tup ds)=>Gc ds
 |_=>none
noncomputable def asC:Wv->qY (Wp D)
 | .val (.scr ns)=>Gc (ns.map .int)
 |_=>none
noncomputable def asS(w:Wv):qY (Wp D):=(asL w).or ((asT w).or (asC w))
section
variable{K:qS}{M:Ms}{H:Hp}{v:V}{w:Wv}{ds:Wp D}
theorem Sh.l(h:Sh K M H v w)(e:asL w=Gc ds):∃a xs,v=.ref a/\H a=Gc (.lst xs)/\Af K M H xs ds:=by
 cases w with
 |own es=>cases e;obtain⟨a,xs,rfl,h1,h2⟩:=h;exact⟨a,xs,rfl,h1,h2⟩
 |val d=>
  cases d<;>first|(cases e;done)|skip
  cases e
  cases h with
  |lst h n r=>exact⟨_,_,rfl,h,r⟩
theorem Sh.t(h:Sh K M H v w)(e:asT w=Gc ds):∃a xs,v=.ref a/\SqT K H a xs/\Af K M H xs ds:=by
 cases w with
 |own es=>cases e
 |val d=>
  cases d<;>first|(cases e;done)|skip
  cases e
  cases h with
  |tup h r=>exact⟨_,_,rfl,h,r⟩
theorem Gg:∀{ns:Wp Int},Af K M H (ns.map V.int) (ns.map D.int)
 | []=>.nil
 |n::ns=>.cons (.int n) Gg
theorem Sh.c(h:Sh K M H v w)(e:asC w=Gc ds):∃a xs,v=.ref a/\SqL K H a xs/\Af K M H xs ds:=by
 cases w with
 |own es=>cases e
 |val d=>
  cases d<;>first|(cases e;done)|skip
  cases e
  cases h with
  |scr h=>
   refine⟨_,_,rfl,?_,Gg⟩
   rcases h with h|h
   .exact .inl h.1
   .exact .inr h
theorem Sh.s(h:Sh K M H v w)(e:asS w=Gc ds):∃a xs,v=.ref a/\(SqL K H a xs\/SqT K H a xs)/\Af K M H xs ds:=by
 unfold asS at e
 cases e1:asL w with
 |some es=>
  rw[e1]at e
  cases e
  obtain⟨a,xs,h1,h2,h3⟩:=h.l e1
  exact⟨a,xs,h1,.inl (.of h2),h3⟩
 |none=>
  rw[e1]at e
  cases e2:asT w with
  |some es=>
   rw[e2]at e
   cases e
   obtain⟨a,xs,h1,h2,h3⟩:=h.t e2
   exact⟨a,xs,h1,.inr h2,h3⟩
  |none=>
   rw[e2]at e
   obtain⟨a,xs,h1,h2,h3⟩:=h.c e
   exact⟨a,xs,h1,.inl h2,h3⟩
end
noncomputable def DX:Op1:=λw=>match w with
 | .val (.str z)=>if z.length<=sizeLine then Gc (.val (.int z.length))else none
 |_=>(asS w).map λds=>.val (.int ds.length)
theorem LC:Cj X (.builtin "len") (rN X.K (o1 DX)):=by
 intro pins s σ H xs us Q I r h
 obtain⟨M,ws,w,e,mo,sh,q⟩:=h
 cases sh with
 |nil=>cases e
 |cons h1 t=>
  cases t with
  |cons h2 t=>cases e
  |nil=>
   rename_i v w1
   have e':DX w1=Gc w:=e
   unfold DX at e'
   split at e'
   .split at e'
    .rename_i z hz
     cases e'
     cases h1
     exact O4 pins s σ H _ us Q I r ⟨z,rfl,hz,q _ _ (.same mo (.int _))⟩
    .cases e'
   .cases e1:asS w1 with
    |none=>rw[e1]at e';cases e'
    |some ds=>
     rw[e1]at e'
     cases e'
     obtain⟨a,ys,rfl,h3,h4⟩:=h1.s e1
     refine O9 pins s σ H _ us Q I r ⟨a,ys,rfl,h3,q _ _ ?_⟩
     rw[h4.length]
     exact .same mo (.int _)
noncomputable def wIx:Op2:=λa b=>match a,b with
 |a,.val (.int i)=>(asS a).bind λds=>(atI ds i).map .val
 |_,_=>none
theorem au{K:qS}{M:Ms}{H:Hp}{xs:Wp V}{ds:Wp D}{i:Int}{d:D}(h:Af K M H xs ds)(e:atI ds i=Gc d):∃x,atI xs i=Gc x/\Bi K M H x d:=by
 unfold atI at e⊢
 rw[h.length]
 cases e1:ixN ds.length i with
 |none=>rw[e1]at e;cases e
 |some j=>
  rw[e1]at e
  exact h.get e
theorem IE:IxR X (rOp X.K wIx):=by
 intro value slice pins s σ H x y v u Q I rx ry h hs
 obtain⟨M,w1,w2,r,e,mo,s1,s2,q⟩:=h
 unfold wIx at e
 split at e
 .rename_i i
  cases e1:asS w1 with
  |none=>rw[e1]at e;cases e
  |some ds=>
   rw[e1]at e
   simp only[yw]at e
   cases e2:atI ds i with
   |none=>rw[e2]at e;cases e
   |some d=>
    rw[e2]at e
    cases e
    obtain rfl:=Bi.iv s2
    obtain⟨a,ys,rfl,h3,h4⟩:=s1.s e1
    obtain⟨z,h5,h6⟩:=au h4 e2
    rcases h3 with h3|h3
    .exact Zu value slice pins s σ H _ _ v u Q I rx ry ⟨a,ys,i,z,rfl,rfl,h3,h5,q _ _ (.same mo h6)⟩ hs
    .exact fA value slice pins s σ H _ _ v u Q I rx ry ⟨a,ys,i,z,rfl,rfl,h3,h5,q _ _ (.same mo h6)⟩ hs
 .cases e
end
section
variable{X:Cx}
noncomputable def asI:Wv->qY Int
 | .val (.int i)=>Gc i
 |_=>none
noncomputable def asX:Wv->qY Str
 | .val (.str x)=>Gc x
 |_=>none
theorem PJ{w:Wv}{i:Int}(e:asI w=Gc i):w=.val (.int i):=by
 cases w with
 |own=>cases e
 |val d=>cases d with
  |int=>cases e;rfl
  |_=>cases e
theorem YM{w:Wv}{i:Str}(e:asX w=Gc i):w=.val (.str i):=by
 cases w with
 |own=>cases e
 |val d=>cases d with
  |str=>cases e;rfl
  |_=>cases e
theorem Qp{w:Wv}{i:Wp D}(e:asT w=Gc i):w=.val (.tup i):=by
 cases w with
 |own=>cases e
 |val d=>cases d with
  |tup=>cases e;rfl
  |_=>cases e
noncomputable def Rv{α β:Type}(f:Wv->qY α)(g:α->α->qY β)(h:qY β)(a b:Wv):qY β:=match f a with
 |none=>h
 |some x=>match f b with
  |none=>h
  |some y=>g x y
theorem NG{α β:Type}{f:Wv->qY α}{g:α->α->qY β}{h:qY β}{a b:Wv}{r:β}(e:Rv f g h a b=Gc r):h=Gc r\/∃x y,f a=Gc x/\f b=Gc y/\g x y=Gc r:=by
 unfold Rv at e
 cases e1:f a with
 |none=>rw[e1]at e;exact .inl e
 |some x=>
  rw[e1]at e
  cases e2:f b with
  |none=>rw[e2]at e;exact .inl e
  |some y=>rw[e2]at e;exact .inr ⟨x,y,rfl,rfl,e⟩
noncomputable def CP:Op2:=λa b=>Rv asI (λi j=>Gc (.val (.int (i+j)))) (Rv asX (λx y=>if x.length+y.length<=sizeLine then Gc (.val (.str (x++y)))else none) (Rv asT (λxs ys=>if xs.length+ys.length<=sizeLine then Gc (.val (.tup (xs++ys)))else none)
 (Rv asL (λxs ys=>if xs.length+ys.length<=sizeLine then Gc (.own (xs++ys))else none) none a b) a b) a b) a b
theorem SM{α:Type}{p:Prop} [Decidable p] {x:α}{r:α}(e:(if p then Gc x else none)=Gc r):p/\x=r:=by
 by_cases h:p
 .rw[q9 h]at e;cases e;exact⟨h,rfl⟩
 .rw[rA h]at e;cases e
theorem Nj:OpR X (binaryOp .Add) (rOp X.K CP):=by
 intro pins s σ H x y v u Q I rx ry h
 obtain⟨M,w1,w2,r,e,mo,s1,s2,q⟩:=h
 rcases NG e with e|⟨i,j,e1,e2,e⟩
 .rcases NG e with e|⟨i,j,e1,e2,e⟩
  .rcases NG e with e|⟨xs,ys,e1,e2,e⟩
   .rcases NG e with e|⟨xs,ys,e1,e2,e⟩
    .cases e
    .obtain⟨hz,rfl⟩:=SM e
     obtain⟨a,xs',rfl,h1,r1⟩:=s1.l e1
     obtain⟨b,ys',rfl,h2,r2⟩:=s2.l e2
     have l1:=r1.length
     have l2:=r2.length
     exact fI pins s σ H _ _ v u Q I rx ry ⟨a,b,xs',ys',rfl,rfl,h1,h2,by lia,λp hp=>q _ _ (.lst mo hp (r1.append r2))⟩
   .obtain rfl:=Qp e1
    obtain rfl:=Qp e2
    obtain⟨hz,rfl⟩:=SM e
    obtain⟨a,xs',rfl,h1,r1⟩:=Bi.iv s1
    obtain⟨b,ys',rfl,h2,r2⟩:=Bi.iv s2
    have l1:=r1.length
    have l2:=r2.length
    by_cases hx:xs'=[]
    .subst hx
     cases r1
     refine St.ae pins s σ H _ _ v u Q I rx ry ⟨_,_,_,rfl,rfl,h1,h2,q _ _ (.same mo ?_)⟩
     exact .tup h2 r2
    .refine bG pins s σ H _ _ v u Q I rx ry ⟨_,_,_,_,rfl,rfl,h1,h2,hx,by lia,λz=>?_,λ_ p hp=>q _ _ (.tup mo hp (r1.append r2))⟩
     subst z
     cases r2
     rw[uL]at q
     exact q _ _ (.same mo (.tup h1 r1))
  .obtain rfl:=YM e1
   obtain rfl:=YM e2
   obtain⟨hz,rfl⟩:=SM e
   obtain rfl:=Bi.iv s1
   obtain rfl:=Bi.iv s2
   exact R9 pins s σ H _ _ v u Q I rx ry ⟨_,_,rfl,rfl,hz,q _ _ (.same mo (.str _))⟩
 .obtain rfl:=PJ e1
  obtain rfl:=PJ e2
  cases e
  obtain rfl:=Bi.iv s1
  obtain rfl:=Bi.iv s2
  exact cQ pins s σ H _ _ v u Q I rx ry ⟨_,_,rfl,rfl,q _ _ (.same mo (.int _))⟩
noncomputable def dP:Op2:=λa b=>(asI b).bind λk=>match asI a with
 |some i=>if Dl i k=true then Gc (.val (.int (i*k)))else none
 |none=>match asT a with
  |some xs=>if(!xs.isEmpty && decide (1<=k) && decide (xs.length*k.toNat<=sizeLine))=true then Gc (.val (.tup (qz k.toNat xs).flatten))else none
  |none=>(asL a).bind λxs=>if(decide (k<2^63) && decide (-(2^63)<=k) && decide (xs.length*k.toNat<=sizeLine))=true then Gc (.own (qz k.toNat xs).flatten)else none
theorem Af.rep{K:qS}{M:Ms}{H:Hp}{xs:Wp V}{ds:Wp D}(h:Af K M H xs ds):∀n:Nat,Af K M H (qz n xs).flatten (qz n ds).flatten
 |0=>.nil
 |n+1=>by
  rw[uG,uG,vN,vN]
  exact h.append (Af.rep h n)
theorem Yt:OpR X (binaryOp .Mult) (rOp X.K dP):=by
 intro pins s σ H x y v u Q I rx ry h
 obtain⟨M,w1,w2,r,e,mo,s1,s2,q⟩:=h
 obtain⟨k,e2,e0⟩:=Ae e
 obtain rfl:=PJ e2
 clear e e2
 cases e1:asI w1 with
 |some i=>
  obtain rfl:=PJ e1
  clear e1
  refine Zy pins s σ H x y v u Q I rx ry ⟨M,_,_,r,?_,mo,s1,s2,q⟩
  obtain⟨hk,rfl⟩:=SM e0
  show AAX Wv.val (if Dl i k=true then Gc (D.int (i*k))else none)=Gc _
  rw[q9 hk]
  rfl
 |none=>
  rw[e1]at e0
  dsimp only at e0
  obtain rfl:=Bi.iv s2
  cases e3:asT w1 with
  |some xs=>
   rw[e3]at e0
   obtain rfl:=Qp e3
   obtain⟨hk,rfl⟩:=SM e0
   rw[qt,qt]at hk
   obtain⟨a,ys,rfl,h1,r1⟩:=Bi.iv s1
   have l1:=r1.length
   have z:=qu hk.2
   have hk1:=qu hk.1.2
   have hne:ys≠[]:=λzz=>by
    subst zz
    cases r1
    exact absurd hk.1.1 (by decide)
   refine Y9 pins s σ H _ _ v u Q I rx ry ⟨a,ys,k,rfl,rfl,h1,hne,hk1,by rw[l1];exact z,λe1=>?_,λ_ p hp=>q _ _ (.tup mo hp (r1.rep _))⟩
   subst e1
   have:(qz (1:Int).toNat xs).flatten=xs:=by simp
   rw[this]at q
   exact q _ _ (.same mo (.tup h1 r1))
  |none=>
   rw[e3]at e0
   obtain⟨xs,e4,e0⟩:=Ae e0
   obtain⟨hk,rfl⟩:=SM e0
   rw[qt,qt]at hk
   obtain⟨a,xs',rfl,h1,r1⟩:=s1.l e4
   have l1:=r1.length
   have z:=qu hk.2
   exact cC pins s σ H _ _ v u Q I rx ry ⟨a,k,xs',rfl,rfl,h1,qu hk.1.2,qu hk.1.1,by rw[l1];exact z,λp hp=>q _ _ (.lst mo hp (r1.rep _))⟩
noncomputable def PN:Op1
 | .val (.int i)=>Gc (.val (.int (-i)))
 |_=>none
theorem Vh:UnR X (unaryOp .USub) (rUn X.K PN):=by
 intro pins s σ H x v Q I rx h
 obtain⟨M,w,r,e,mo,s1,q⟩:=h
 unfold PN at e
 split at e
 .cases e
  obtain rfl:=Bi.iv s1
  exact cR pins s σ H _ v Q I rx ⟨_,rfl,q _ _ (.same mo (.int _))⟩
 .cases e
noncomputable def Gs:D->rR
 | .non=>true| .bl _=>true| .int _=>true| .str _=>true
 |_=>false
theorem Sh.flat{K:qS}{M:Ms}{H:Hp}{v:V}{w:Wv}(h:Sh K M H v w)(f:Gs (fz w)=true):Bi K M H v (fz w):=by
 cases w with
 |val d=>exact h
 |own ds=>cases f
noncomputable def inD(x:D)(xs:Wp D):rR:=xs.any λy=>deq y x
theorem Qz{K:qS}{M:Ms}{H:Hp}{v:V}{d:D}(h:Bi K M H v d)(f:Gs d=true):Ll v=true:=by
 cases h<;>first|rfl|cases f
theorem ZK{K:qS}{M:Ms}{H:Hp}{v u:V}{d e:D}(h:Bi K M H v d)(g:Bi K M H u e)(f:Gs d=true)(f':Gs e=true):eqV v u=deq d e:=by
 cases h<;>first|(cases f;done)|skip
 all_goals (cases g<;>first|(cases f';done)|rfl)
theorem OE{K:qS}{M:Ms}{H:Hp}:∀{vs:Wp V} {ds:Wp D},Af K M H vs ds->ds.all Gs=true->vs.all Ll=true
 |_,_,.nil,_=>rfl
 |_,_,.cons h t,f=>by
  rw[vt,qt]at f⊢
  exact⟨Qz h f.1,OE t f.2⟩
theorem Vo{K:qS}{M:Ms}{H:Hp}{u:V}{e:D}(g:Bi K M H u e)(f':Gs e=true):∀{vs:Wp V} {ds:Wp D},Af K M H vs ds->ds.all Gs=true->inV u vs=inD e ds
 |_,_,.nil,_=>rfl
 |_,_,.cons h t,f=>by
  rw[vt,qt]at f
  have ih:=Vo g f' t f.2
  unfold inV inD at ih⊢
  rw[uy,uy,ih,ZK h g f.1 f']
noncomputable def wIn(neg:rR):Op2:=λa b=>(asS b).bind λds=>if(Gs (fz a) && ds.all Gs)=true then Gc (.val (.bl (if neg then !inD (fz a) ds else inD (fz a) ds)))else none
theorem X8{M:Ms}{H:Hp}{x y:V}{w1 w2 r:Wv}{neg:rR}{Q:VK}(e:wIn neg w1 w2=Gc r)(mo:MOk M H)(s1:Sh X.K M H x w1)(s2:Sh X.K M H y w2)(q:∀v H',Nw X.K M H H' v r->Q v H'):rIn X.K neg x y H Q:=by
 unfold wIn at e
 cases e1:asS w2 with
 |none=>rw[e1]at e;cases e
 |some ds=>
  rw[e1]at e
  simp only[yw]at e
  split at e
  .rename_i hk
   rw[qt]at hk
   cases e
   obtain⟨a,xs,rfl,h3,h4⟩:=s2.s e1
   have g1:=s1.flat hk.1
   refine⟨a,xs,rfl,h3,Qz g1 hk.1,OE h4 hk.2,?_⟩
   rw[Vo g1 hk.1 h4 hk.2]
   exact q _ _ (.same mo (.bl _))
  .cases e
theorem YB:OpR X (compareOp .In) (rOp X.K (wIn false)):=by
 intro pins s σ H x y v u Q I rx ry h
 obtain⟨M,w1,w2,r,e,mo,s1,s2,q⟩:=h
 exact VM pins s σ H _ _ v u Q I rx ry (X8 e mo s1 s2 q)
theorem fV:OpR X (compareOp .NotIn) (rOp X.K (wIn true)):=by
 intro pins s σ H x y v u Q I rx ry h
 obtain⟨M,w1,w2,r,e,mo,s1,s2,q⟩:=h
 exact Od pins s σ H _ _ v u Q I rx ry (X8 e mo s1 s2 q)
noncomputable def isN:Wv->rR
 | .val .non=>true
 |_=>false
noncomputable def iY(neg:rR):Op2:=λa b=>match b with
 | .val .non=>Gc (.val (.bl (if neg then !isN a else isN a)))
 |_=>none
theorem az{K:qS}{M:Ms}{H:Hp}{x:V}{w:Wv}(s:Sh K M H x w):decide (x=.non)=isN w:=by
 cases w with
 |own ds=>obtain⟨a,xs,rfl,_⟩:=s;rfl
 |val d=>cases s<;>rfl
theorem ij:OpR X (compareOp .IsNot) (rOp X.K (iY true)):=by
 intro pins s σ H x y v u Q I rx ry h
 obtain⟨M,w1,w2,r,e,mo,s1,s2,q⟩:=h
 unfold iY at e
 split at e
 .cases e
  obtain rfl:=Bi.iv s2
  refine Y0 pins s σ H _ _ v u Q I rx ry ⟨rfl,?_⟩
  rw[az s1]
  exact q _ _ (.same mo (.bl _))
 .cases e
theorem Fg{K:qS}{M:Ms}{H:Hp}{xs:Wp V}{ws:Wp Wv}{f:Op1}{r:Wv}(h:Shs K M H xs ws)(e:o1 f ws=Gc r):∃v w,xs=[v]/\ws=[w]/\Sh K M H v w/\f w=Gc r:=by
 cases h with
 |nil=>cases e
 |cons h1 t=>
  cases t with
  |cons h2 t=>cases e
  |nil=>exact⟨_,_,rfl,rfl,h1,e⟩
theorem QY{K:qS}{M:Ms}{H:Hp}{xs:Wp V}{ws:Wp Wv}{f:Op2}{r:Wv}(h:Shs K M H xs ws)(e:o2 f ws=Gc r):∃v w v' w',xs=[v,v']/\ws=[w,w']/\Sh K M H v w/\Sh K M H v' w'/\f w w'=Gc r:=by
 cases h with
 |nil=>cases e
 |cons h1 t=>
  cases t with
  |nil=>cases e
  |cons h2 t=>
   cases t with
   |cons h3 t=>cases e
   |nil=>exact⟨_,_,_,_,rfl,rfl,h1,h2,e⟩
noncomputable def bL:Op1
 | .val (.int i)=>Gc (.val (.int (if i<0 then-i else i)))
 |_=>none
theorem fm:Cj X (.builtin "abs") (rN X.K (o1 bL)):=by
 intro pins s σ H xs us Q I r h
 obtain⟨M,ws,w,e,mo,sh,q⟩:=h
 obtain⟨v,w1,rfl,rfl,s1,e1⟩:=Fg sh e
 unfold bL at e1
 split at e1
 .cases e1
  obtain rfl:=Bi.iv s1
  exact XF pins s σ H _ us Q I r ⟨_,rfl,q _ _ (.same mo (.int _))⟩
 .cases e1
noncomputable def gz:Op2:=wI2 λi j=>Gc (.int (if j>i then j else i))
noncomputable def bI:Op2:=wI2 λi j=>Gc (.int (if j<i then j else i))
theorem Ri{f:Int->Int->qY D}{a b r:Wv}(e:wI2 f a b=Gc r):∃i j d,a=.val (.int i)/\b=.val (.int j)/\f i j=Gc d/\r=.val d:=by
 unfold wI2 at e
 split at e
 .rename_i i j
  cases e1:f i j with
  |none=>rw[e1]at e;cases e
  |some d=>rw[e1]at e;cases e;exact⟨i,j,d,rfl,rfl,e1,rfl⟩
 .cases e
theorem UZ(hc:X.calm=true):Cj X (.builtin "max") (rN X.K (o2 gz)):=by
 intro pins s σ H xs us Q I r h
 obtain⟨M,ws,w,e,mo,sh,q⟩:=h
 obtain⟨v,w1,v',w2,rfl,rfl,s1,s2,e1⟩:=QY sh e
 obtain⟨i,j,d,rfl,rfl,e2,rfl⟩:=Ri e1
 cases e2
 obtain rfl:=Bi.iv s1
 obtain rfl:=Bi.iv s2
 exact Uy hc pins s σ H _ us Q I r ⟨_,_,rfl,q _ _ (.same mo (.int _))⟩
theorem Vl(hc:X.calm=true):Cj X (.builtin "min") (rN X.K (o2 bI)):=by
 intro pins s σ H xs us Q I r h
 obtain⟨M,ws,w,e,mo,sh,q⟩:=h
 obtain⟨v,w1,v',w2,rfl,rfl,s1,s2,e1⟩:=QY sh e
 obtain⟨i,j,d,rfl,rfl,e2,rfl⟩:=Ri e1
 cases e2
 obtain rfl:=Bi.iv s1
 obtain rfl:=Bi.iv s2
 exact UT hc pins s σ H _ us Q I r ⟨_,_,rfl,q _ _ (.same mo (.int _))⟩
noncomputable def EK:Op1:=λw=>(asS w).map λds=>.val (.tup ds)
theorem aw:Cj X (.type "tuple") (rN X.K (o1 EK)):=by
 intro pins s σ H xs us Q I r h
 obtain⟨M,ws,w,e,mo,sh,q⟩:=h
 obtain⟨v,w1,rfl,rfl,s1,e1⟩:=Fg sh e
 unfold EK at e1
 cases e2:asS w1 with
 |none=>rw[e2]at e1;cases e1
 |some ds=>
  rw[e2]at e1
  cases e1
  obtain⟨a,ys,rfl,h3,h4⟩:=s1.s e2
  refine Nt pins s σ H _ us Q I r ⟨a,ys,rfl,?_⟩
  rcases h3 with h3|h3
  .exact .inl ⟨h3,λl hl=>q _ _ (.tup mo hl h4)⟩
  .exact .inr ⟨h3,q _ _ (.same mo (.tup h3 h4))⟩
noncomputable def Pw:Op1:=λw=>(asS w).map λds=>.own ds
theorem bK:Cj X (.type "list") (rN X.K (o1 Pw)):=by
 intro pins s σ H xs us Q I r h
 obtain⟨M,ws,w,e,mo,sh,q⟩:=h
 obtain⟨v,w1,rfl,rfl,s1,e1⟩:=Fg sh e
 unfold Pw at e1
 cases e2:asS w1 with
 |none=>rw[e2]at e1;cases e1
 |some ds=>
  rw[e2]at e1
  cases e1
  obtain⟨a,ys,rfl,h3,h4⟩:=s1.s e2
  exact N7 pins s σ H _ us Q I r ⟨a,ys,rfl,h3,λl hl=>q _ _ (.lst mo hl h4)⟩
noncomputable def PV:Op1
 | .val (.int i)=>Gc (.val (.int i))
 | .val (.bl b)=>Gc (.val (.int (if b then 1 else 0)))
 |_=>none
theorem OY:Cj X (.type "int") (rN X.K (o1 PV)):=by
 intro pins s σ H xs us Q I r h
 obtain⟨M,ws,w,e,mo,sh,q⟩:=h
 obtain⟨v,w1,rfl,rfl,s1,e1⟩:=Fg sh e
 unfold PV at e1
 split at e1
 .cases e1
  obtain rfl:=Bi.iv s1
  exact O5 pins s σ H _ us Q I r (.inl ⟨_,rfl,q _ _ (.same mo (.int _))⟩)
 .cases e1
  obtain rfl:=Bi.iv s1
  exact O5 pins s σ H _ us Q I r (.inr ⟨_,rfl,q _ _ (.same mo (.int _))⟩)
 .cases e1
noncomputable def blD:D->qY rR
 | .bl b=>Gc b
 |_=>none
noncomputable def bls(ds:Wp D):qY (Wp rR):=ds.mapM blD
theorem U9{K:qS}{M:Ms}{H:Hp}:∀{vs:Wp V} {ds:Wp D} {bs:Wp rR},Af K M H vs ds->bls ds=Gc bs->vs=bs.map V.bl
 |_,_,bs,.nil,e=>by cases e;rfl
 |_,_,bs,.cons (d:=d) (ds:=ds) h t,e=>by
  unfold bls at e
  rw[yG]at e
  cases e1:blD d with
  |none=>rw[e1]at e;cases e
  |some b=>
   rw[e1]at e
   cases e2:ds.mapM blD with
   |none=>rw[e2]at e;cases e
   |some cs=>
    rw[e2]at e
    cases e
    have hd:d=.bl b:=by
     cases d<;>first|(cases e1;done)|skip
     cases e1;rfl
    subst hd
    cases h
    rw[rD,<-U9 t e2]
noncomputable def cj:Op1:=λw=>(asL w).bind λds=>(bls ds).map λbs=>.val (.bl (bs.all id))
theorem du(hc:X.calm=true):Cj X (.builtin "all") (rN X.K (o1 cj)):=by
 intro pins s σ H xs us Q I r h
 obtain⟨M,ws,w,e,mo,sh,q⟩:=h
 obtain⟨v,w1,rfl,rfl,s1,e1⟩:=Fg sh e
 unfold cj at e1
 cases e2:asL w1 with
 |none=>rw[e2]at e1;cases e1
 |some ds=>
  rw[e2]at e1
  simp only[yw]at e1
  cases e3:bls ds with
  |none=>rw[e3]at e1;cases e1
  |some bs=>
   rw[e3]at e1
   cases e1
   obtain⟨a,ys,rfl,h3,h4⟩:=s1.l e2
   exact St.Vm hc pins s σ H _ us Q I r ⟨a,bs,rfl,by rw[<-U9 h4 e3];exact .of h3,q _ _ (.same mo (.bl _))⟩
noncomputable def kdW:Wv->qY St.Kd
 | .own _=>Gc .lst
 | .val .non=>Gc .non| .val (.bl _)=>Gc .bl| .val (.int _)=>Gc .int| .val (.str _)=>Gc .str| .val (.lst _)=>Gc .lst| .val (.dct _)=>Gc .dct| .val (.tup _)=>Gc .tup
 | .val (.ty _)=>none| .val (.scr _)=>none| .val (.ref _)=>none
end
section
variable{X:Cx}
theorem W7{K:qS}(k:St.Kd):vB K (.type k.ty) (.type "list")=Gc (k.isA "list"):=by
 cases k<;>rfl
noncomputable def QD(T:uO):rR:=T== "int" ||T== "bool" ||T== "tuple" ||T== "str" ||T== "list"
theorem gA{K:qS}{T:uO}(h:QD T=true)(k:St.Kd):vB K (.type k.ty) (.type T)=Gc (k.isA T):=by
 unfold QD at h
 simp only[tS,vf]at h
 rcases h with(((rfl|rfl)|rfl)|rfl)|rfl
 .exact St.ao k
 .exact St.Xm k
 .exact St.kit_tuple k
 .exact St.Yu k
 .exact W7 k
noncomputable def bQ:Op2:=λa t=>match t with
 | .val (.ty T)=>if QD T=true then(kdW a).map λk=>.val (.bl (k.isA T))else none
 |_=>none
theorem eY:Cj X (.builtin "isinstance") (rN X.K (o2 bQ)):=by
 intro pins s σ H xs us Q I r h
 obtain⟨M,ws,w,e,mo,sh,q⟩:=h
 obtain⟨v,w1,v',w2,rfl,rfl,s1,s2,e1⟩:=QY sh e
 unfold bQ at e1
 split at e1
 .rename_i T
  split at e1
  .rename_i hT
   cases e2:kdW w1 with
   |none=>rw[e2]at e1;cases e1
   |some k=>
    rw[e2]at e1
    cases e1
    obtain rfl:=Bi.iv s2
    obtain⟨u1,u2,rfl,r1,r2⟩:=r.two
    cases (show u2=wX T from r2)
    have fin:∀tk,EP X pins σ Q (.bool (k.isA T)) {s with toks:=tk}:=λtk=>⟨.bl _,H,I.tok tk,rfl,q _ _ (.same mo (.bl _))⟩
    have kk:=gA (K:=X.K) hT k
    cases w1 with
    |own ds=>
     cases e2
     obtain⟨a,ys,rfl,h1,_⟩:=s1
     exact Er I r1 (.lst h1) kk fin
    |val d=>
     have s1':Bi X.K M H v d:=s1
     cases s1' with
     |non=>cases e2;exact Er I r1 .non kk fin
     |bl b=>cases e2;exact Er I r1 (.bl b) kk fin
     |int b=>cases e2;exact Er I r1 (.int b) kk fin
     |str b=>cases e2;exact Er I r1 (.str b) kk fin
     |ty b=>cases e2
     |scr h=>cases e2
     |lst h n rr=>cases e2;exact Er I r1 (.lst h) kk fin
     |dct h n rr=>cases e2;exact Er I r1 (.dK h) kk fin
     |ref h=>cases e2
     |tup h rr=>
      cases e2
      rename_i a ys ds
      cases (show u1=rY a from r1)
      obtain⟨its,_,⟨o,h1,h2,_⟩,_⟩:=I.tuple h
      exact tQ AAO I.kIn ⟨o,h1,h2⟩ kk (λz=>nomatch z) fin
  .cases e1
 .cases e1
noncomputable def BH(fs:Wp Ev):Ev:=λE S=>(evs fs E S).bind λr=>if r.1.length<=sizeLine then Gc (.tup r.1,r.2)else none
noncomputable def XC(c:rR)(fs:Wp Ev):Ev:=λE S=>(evs fs E S).bind λr=>if r.1.length<=sizeLine then fin c (.own r.1) r.2 else none
abbrev FD:=XC false
abbrev Cg:=XC true
theorem G4{es:Wp rJ}{fs:Wp Ev}{k:Nat}{pos:Pos}(h:DEs X es fs):DE X (.Tuple es k pos) (BH fs):=⟨A7 (b9 h.pe) λσ H Q z=>by
 obtain⟨M,E,S,d,S',e,r,st,q⟩:=z
 obtain⟨⟨ds,S1⟩,e1,e⟩:=Ae e
 dsimp only at e
 split at e
 .cases e
  refine FV e1 r st λvs H1 M1 g1 st1 d1=>⟨by rw[d1.length];assumption,λp hp=>?_⟩
  have n:=Nw.tup st1.mo hp d1
  exact q _ _ M1 (g1.trans (.grow st1.mo n.grow)) (st1.grow n.grow) n.rel
 .cases e⟩
theorem HD{c:rR}{es:Wp rJ}{fs:Wp Ev}{pos:Pos}(h:DEs X es fs):DE X (.List es pos) (XC c fs):=⟨A7 (eU h.pe) λσ H Q z=>by
 obtain⟨M,E,S,d,S',e,r,st,q⟩:=z
 obtain⟨⟨ds,S1⟩,e1,e⟩:=Ae e
 dsimp only at e
 split at e
 .refine FV e1 r st λvs H1 M1 g1 st1 d1=>⟨by rw[d1.length];assumption,λp hp=>?_⟩
  obtain⟨M2,g2,st2,d2⟩:=(Nw.lst st1.mo hp d1).fin st1 e
  exact q _ _ M2 (g1.trans g2) st2 d2
 .cases e⟩
noncomputable def IM(f g:Ev):Ev:=λE S=>(f E S).bind λr=>match r.1 with
 | .bl true=>g E r.2
 | .bl false=>Gc (.bl false,r.2)
 |_=>none
noncomputable def eOr(f g:Ev):Ev:=λE S=>(f E S).bind λr=>match r.1 with
 | .bl false=>g E r.2
 | .bl true=>Gc (.bl true,r.2)
 |_=>none
noncomputable def Sv(f:Ev):Ev:=λE S=>(f E S).bind λr=>match r.1 with
 | .bl b=>Gc (.bl (!b),r.2)
 |_=>none
noncomputable def eIf(c f g:Ev):Ev:=λE S=>(c E S).bind λr=>match r.1 with
 | .bl true=>f E r.2
 | .bl false=>g E r.2
 |_=>none
theorem RU{K:qS}{M:Ms}{H:Hp}{v:V}{b:rR}(h:Bi K M H v (.bl b)):v=.bl b:=by cases h;rfl
variable{a b c:rJ}{rest:Wp rJ}{f g h:Ev}{pos:Pos}
theorem lq{op:BoolOp}(h:DE X a f):DE X (.BoolOp op [a] pos) f:=⟨cF h.pe⟩
theorem lu(ha:DE X a f)(hb:DE X (.BoolOp .And (b::rest) pos) g):DE X (.BoolOp .And (a::b::rest) pos) (IM f g):=⟨A7 (cG ha.pe hb.pe) λσ H Q z=>by
 obtain⟨M,E,S,d,S',e,r,st,q⟩:=z
 obtain⟨⟨d1,S1⟩,e1,e⟩:=Ae e
 dsimp only at e
 refine⟨M,E,S,d1,S1,e1,r,st,λv H1 M1 g1 st1 r1=>?_⟩
 split at e
 .cases RU r1
  refine⟨_,rfl,?_⟩
  refine aP ?_
  exact⟨M1,E,S1,d,S',e,r.step g1.st,st1,λv H2 M2 g2 st2 r2=>q _ _ M2 (g1.trans g2) st2 r2⟩
 .cases e
  cases RU r1
  refine⟨_,rfl,?_⟩
  refine Z0 ?_
  exact q _ _ M1 g1 st1 r1
 .cases e⟩
theorem mU(ha:DE X a f):DE X (.UnaryOp .Not a pos) (Sv f):=⟨A7 (ck ha.pe) λσ H Q z=>by
 obtain⟨M,E,S,d,S',e,r,st,q⟩:=z
 obtain⟨⟨d1,S1⟩,e1,e⟩:=Ae e
 dsimp only at e
 split at e
 .cases e
  refine⟨M,E,S,_,_,e1,r,st,λv H1 M1 g1 st1 r1=>?_⟩
  cases RU r1
  exact⟨_,rfl,q _ _ M1 g1 st1 (.bl _)⟩
 .cases e⟩
noncomputable def tDT(K:qS)(f:Ev):TT:=λσ H Q=>∃M E S b S',f E S=Gc (.bl b,S')/\EnR K M E σ H/\StR K M S H/\∀H' M',Gr M H M' H'->StR K M' S' H'->Q b H'
structure DT(X:Cx)(e:rJ)(f:Ev):Prop where
 pe:PT X e (tDT X.K f)
structure DW(X:Cx)(e:rJ)(f:Ev):Prop where
 pe:PW X e (tDT X.K f)
theorem DW.dt(h:DW X a f):DT X a f:=⟨PW.pt h.pe⟩
theorem Ua{t:TE}(h:PT X a (cU t))(m:∀σ H Q,tD X.K f σ H Q->t σ H Q):DT X a f:=⟨TC h λσ H Q z=>by
 obtain⟨M,E,S,b,S',e,r,st,q⟩:=z
 refine m _ _ _ ⟨M,E,S,_,S',e,r,st,λv H1 M1 g1 st1 r1=>?_⟩
 cases RU r1
 exact⟨_,rfl,q _ M1 g1 st1⟩⟩
theorem fD(h:DE X a f)(he:∀whole,isTrue a X.env whole=(do let v<-whole;standAt a.pos;holding [v] (truthy v)):=by intro _;rfl):DT X a f:=Ua (t:=tD X.K f) (dN h.pe he) λ_ _ _ z=>z
theorem HL{fa fb:Ev}{op:CmpOp}{f:Op2}(ho:OpR X (compareOp op) (rOp X.K f))(ha:DE X a fa)(hb:DE X b fb)(hm:behindInMarks op b=false:=by rfl):DT X (.Compare a [op] [b] pos) (eOp (o2 f) [fa,fb]):=
 Ua (bA ho ha.pe hb.pe hm) λ_ _ _ h=>RM h
theorem ez(ha:DT X a f):DT X (.UnaryOp .Not a pos) (Sv f):=⟨TC (cM ha.pe) λσ H Q z=>by
 obtain⟨M,E,S,b,S',e,r,st,q⟩:=z
 obtain⟨⟨w1,S1⟩,e1,e⟩:=Ae e
 dsimp only at e
 split at e
 .cases e
  exact⟨M,E,S,_,_,e1,r,st,q⟩
 .cases e⟩
theorem Yp(ha:DT X a f):DW X (.BoolOp .And [a] pos) f:=⟨ZJ ha.pe⟩
theorem mG(ha:DT X a f):DW X (.BoolOp .Or [a] pos) f:=⟨gL ha.pe⟩
theorem Vw{e:rJ}{t t':TT}(h:PW X e t)(m:∀σ H Q,t' σ H Q->t σ H Q):PW X e t':=λwh pins s σ H Q I q=>h wh pins s σ H Q I (m _ _ _ q)
theorem bu(ha:DT X a f)(hb:DW X (.BoolOp .And (b::rest) pos) g):DW X (.BoolOp .And (a::b::rest) pos) (IM f g):=⟨Vw (bz ha.pe hb.pe) λσ H Q z=>by
 obtain⟨M,E,S,k,S',e,r,st,q⟩:=z
 obtain⟨⟨w1,S1⟩,e1,e⟩:=Ae e
 dsimp only at e
 split at e
 .refine⟨M,E,S,_,S1,e1,r,st,λH1 M1 g1 st1=>?_⟩
  refine aP ?_
  exact⟨M1,E,S1,k,S',e,r.step g1.st,st1,λH2 M2 g2 st2=>q _ M2 (g1.trans g2) st2⟩
 .cases e
  refine⟨M,E,S,_,_,e1,r,st,λH1 M1 g1 st1=>?_⟩
  refine Z0 ?_
  exact q _ M1 g1 st1
 .cases e⟩
theorem pb(ha:DT X a f)(hb:DW X (.BoolOp .Or (b::rest) pos) g):DW X (.BoolOp .Or (a::b::rest) pos) (eOr f g):=⟨Vw (kD ha.pe hb.pe) λσ H Q z=>by
 obtain⟨M,E,S,k,S',e,r,st,q⟩:=z
 obtain⟨⟨w1,S1⟩,e1,e⟩:=Ae e
 dsimp only at e
 split at e
 .refine⟨M,E,S,_,S1,e1,r,st,λH1 M1 g1 st1=>?_⟩
  refine Z0 ?_
  exact⟨M1,E,S1,k,S',e,r.step g1.st,st1,λH2 M2 g2 st2=>q _ M2 (g1.trans g2) st2⟩
 .cases e
  refine⟨M,E,S,_,_,e1,r,st,λH1 M1 g1 st1=>?_⟩
  refine aP ?_
  exact q _ M1 g1 st1
 .cases e⟩
theorem nW(hc:DT X c f)(ha:DE X a g)(hb:DE X b h):DE X (.IfExp c a b pos) (eIf f g h):=⟨A7 (XH hc.pe ha.pe hb.pe) λσ H Q z=>by
 obtain⟨M,E,S,d,S',e,r,st,q⟩:=z
 obtain⟨⟨w1,S1⟩,e1,e⟩:=Ae e
 dsimp only at e
 split at e
 .refine⟨M,E,S,_,S1,e1,r,st,λH1 M1 g1 st1=>?_⟩
  refine aP ?_
  exact⟨M1,E,S1,d,S',e,r.step g1.st,st1,λv H2 M2 g2 st2 r2=>q _ _ M2 (g1.trans g2) st2 r2⟩
 .refine⟨M,E,S,_,S1,e1,r,st,λH1 M1 g1 st1=>?_⟩
  refine Z0 ?_
  exact⟨M1,E,S1,d,S',e,r.step g1.st,st1,λv H2 M2 g2 st2 r2=>q _ _ M2 (g1.trans g2) st2 r2⟩
 .cases e⟩
end
inductive Fl where
 |nx
 |ret (d:D)
abbrev Ex:=En->Sto->qY (Fl×En×Sto)
def End(K:qS)(M:Ms)(H:Hp)(Dn:Ends)(E':En)(S':Sto):Fl->Prop
 | .nx=>∀σ' H' M',Gr M H M' H'->EnR K M' E' σ' H'->StR K M' S' H'->Dn.nx σ' H'
 | .ret d=>∀v H' M',Gr M H M' H'->StR K M' S' H'->Bi K M' H' v d->Dn.rt v H'
noncomputable def tX(K:qS)(f:Ex):TS:=λDn σ H=>∃M E S fl E' S',f E S=Gc (fl,E',S')/\EnR K M E σ H/\StR K M S H/\End K M H Dn E' S' fl
structure DS(X:Cx)(st:sG)(f:Ex):Prop where
 pe:PS X st (tX X.K f)
structure DSs(X:Cx)(st:Wp sG)(f:Ex):Prop where
 pe:PSs X st (tX X.K f)
theorem Eu{X:Cx}{e:sG}{t t':TS}(h:PS X e t)(m:∀Dn σ H,t' Dn σ H->t Dn σ H):PS X e t':=λpins s σ H Dn I q=>h pins s σ H Dn I (m _ _ _ q)
theorem RL{X:Cx}{e:Wp sG}{t t':TS}(h:PSs X e t)(m:∀Dn σ H,t' Dn σ H->t Dn σ H):PSs X e t':=λpins s σ H Dn I q=>h pins s σ H Dn I (m _ _ _ q)
theorem End.later{K:qS}{M M1:Ms}{H H1:Hp}{Dn:Ends}{E':En}{S':Sto}{fl:Fl}(q:End K M H Dn E' S' fl)(g:Gr M H M1 H1):End K M1 H1 Dn E' S' fl:=by
 cases fl with
 |nx=>exact λσ' H' M' g' r st=>q σ' H' M' (g.trans g') r st
 |ret d=>exact λv H' M' g' st r=>q v H' M' (g.trans g') st r
noncomputable def AU(f g:Ex):Ex:=λE S=>(f E S).bind λr=>match r.1 with
 | .nx=>g r.2.1 r.2.2
 | .ret w=>Gc (.ret w,r.2)
noncomputable def DY:Ex:=λE S=>Gc (.nx,E,S)
section
variable{X:Cx}{st:sG}{rest a b:Wp sG}{f g h:Ex}{c e:rJ}{k:Ev}{pos:Pos}
theorem IA:DSs X [] DY:=⟨RL aH λDn σ H z=>by
 obtain⟨M,E,S,fl,E',S',e,r,st,q⟩:=z
 cases e
 exact q _ _ M (.refl st.mo) r st⟩
theorem Ay(h1:DS X st f)(h2:DSs X rest g):DSs X (st::rest) (AU f g):=⟨RL (Xd h1.pe h2.pe) λDn σ H z=>by
 obtain⟨M,E,S,fl,E',S',e,r,st,q⟩:=z
 obtain⟨⟨f1,E1,S1⟩,e1,e⟩:=Ae e
 dsimp only at e
 split at e
 .exact⟨M,E,S,.nx,E1,S1,e1,r,st,λσ1 H1 M1 g1 r1 st1=>⟨M1,E1,S1,fl,E',S',e,r1,st1,q.later g1⟩⟩
 .cases e
  exact⟨M,E,S,.ret _,_,_,e1,r,st,q⟩⟩
theorem A1(h1:DS X st f):DSs X [st] f:=⟨aF h1.pe⟩
noncomputable def xIf(c:Ev)(f g:Ex):Ex:=λE S=>(c E S).bind λr=>match r.1 with
 | .bl true=>f E r.2
 | .bl false=>g E r.2
 |_=>none
theorem K6(hc:DT X c k)(ha:DSs X a f)(hb:DSs X b g):DS X (.If c a b pos) (xIf k f g):=⟨Eu (jx hc.pe ha.pe hb.pe) λDn σ H z=>by
 obtain⟨M,E,S,fl,E',S',e,r,st,q⟩:=z
 obtain⟨⟨w1,S1⟩,e1,e⟩:=Ae e
 dsimp only at e
 split at e
 .refine⟨M,E,S,_,S1,e1,r,st,λH1 M1 g1 st1=>?_⟩
  refine aP ?_
  exact⟨M1,E,S1,fl,E',S',e,r.step g1.st,st1,q.later g1⟩
 .refine⟨M,E,S,_,S1,e1,r,st,λH1 M1 g1 st1=>?_⟩
  refine Z0 ?_
  exact⟨M1,E,S1,fl,E',S',e,r.step g1.st,st1,q.later g1⟩
 .cases e⟩
noncomputable def BG(k:Ev):Ex:=λE S=>(k E S).map λr=>(.ret r.1,E,r.2)
theorem G8(h:DE X e k):DS X (.Return (Gc e) pos) (BG k):=⟨Eu (gI h.pe) λDn σ H z=>by
 obtain⟨M,E,S,fl,E',S',e,r,st,q⟩:=z
 obtain⟨⟨d,S1⟩,e1,e⟩:=Hl e
 cases e
 exact⟨M,E,S,d,S1,e1,r,st,λv H1 M1 g1 st1 r1=>q _ _ M1 g1 st1 r1⟩⟩
end
section
variable{K:qS}{M:Ms}{E:En}{σ:Sg}{H:Hp}{i:Nat}{d:D}{v:V}
theorem EnR.put(r:EnR K M E σ H)(rd:Bi K M H v d):EnR K M (E.set i (Gc d)) (σ.set i (Gc v)) H:=by
 refine⟨by rw[uS,uS];exact r.len,λj e ej=>?_⟩
 by_cases h:i=j
 .subst h
  by_cases hi:i<E.length
  .rw[qo hi]at ej
   cases ej
   exact⟨v,qo (by rw[<-r.len];exact hi),rd⟩
  .rw[yM.mpr (by rw[uS];lia)]at ej;cases ej
 .rw[qc h]at ej
  obtain⟨v',h1,h2⟩:=r.val j e ej
  exact⟨v',by rw[qc h];exact h1,h2⟩
end
noncomputable def BC(i:Nat)(k:Ev):Ex:=λE S=>(k E S).map λr=>(.nx,E.set i (Gc r.1),r.2)
theorem Jf{X:Cx}{e:rJ}{k:Ev}{pos pos':Pos}(i:Nat){x:Str}(h:DE X e k)(hN:X.N.Nodup)(hi:X.N[i]?=Gc x:=by rfl)(hx:Loc X.env.scope x:=by first|exact Or.inl rfl|exact Or.inr rfl)(hs:swapsWith e (Gc (.Name x pos')) pos.line X.env=pure false:=by rfl)(hf:X.fn x=true\/X.env.scope.names.lookup x=Gc .local:=by first|exact .inl rfl|exact .inr rfl):DS X (.Assign [.Name x pos'] e pos) (BC i k):=⟨
 Eu (bx hN hi hx h.pe hs hf) λDn σ H z=>by
  obtain⟨M,E,S,fl,E',S',e,r,st,q⟩:=z
  obtain⟨⟨d,S1⟩,e1,e⟩:=Hl e
  cases e
  exact⟨M,E,S,d,S1,e1,r,st,λv H1 M1 g1 st1 r1=>q _ _ M1 g1 ((r.step g1.st).put r1) st1⟩⟩
noncomputable def Ao(k:Ev):Ex:=λE S=>(k E S).map λr=>(.nx,E,r.2)
theorem HR{X:Cx}{e:rJ}{k:Ev}{pos:Pos}(h:DE X e k)(hs:swapsWith e none pos.line X.env=pure false:=by rfl):DS X (.Expr e pos) (Ao k):=⟨Eu (ay h.pe hs) λDn σ H z=>by
 obtain⟨M,E,S,fl,E',S',e,r,st,q⟩:=z
 obtain⟨⟨d,S1⟩,e1,e⟩:=Hl e
 cases e
 exact⟨M,E,S,d,S1,e1,r,st,λv H1 M1 g1 st1 r1=>q _ _ M1 g1 (r.step g1.st) st1⟩⟩
noncomputable def DU(S:Sto)(n:Nat):qY (Wp D):=match S[n]? with
 |some (.lst ds)=>Gc ds
 |_=>none
theorem Ea{S:Sto}{n:Nat}{ds:Wp D}(h:DU S n=Gc ds):S[n]?=Gc (.lst ds):=by
 unfold DU at h
 split at h
 .rename_i e
  cases h
  exact e
 .cases h
abbrev Mo:=Sto->Wp D->Wp D->qY (D×Wp D)
noncomputable def EL(op:Mo)(f:Ev)(fs:Wp Ev):Ev:=λE S=>(f E S).bind λr=>match r.1 with
 | .ref n=>(DU r.2 n).bind λ_=>(evs fs E r.2).bind λp=>(DU p.2 n).bind λds=>(op p.2 ds p.1).map λq=>(q.1,p.2.set n (.lst q.2))
 |_=>none
def gm(K:qS)(op:Mo):V->Wp V->Hp->VK->Prop:=λx vs H Q=>∃M S n a ds args d ds',x=.ref a/\M.cel[n]?=Gc a/\S[n]?=Gc (.lst ds)/\op S ds args=Gc (d,ds')/\StR K M S H/\Af K M H vs args/\∀v H',StR K M (S.set n (.lst ds')) H'->Gr M H M H'->Bi K M H' v d->Q v H'
section
variable{X:Cx}
theorem eR{op:Mo}{f:Ev}{fs:Wp Ev}{σ:Sg}{H:Hp}{Q:VK}(h:tD X.K (EL op f fs) σ H Q):tBM X.K "list" (gm X.K op) (tD X.K f) (tDs X.K fs) σ H Q:=by
 obtain⟨M,E,S,d,S',e,r,st,q⟩:=h
 obtain⟨⟨d1,S1⟩,e1,e⟩:=Ae e
 dsimp only at e
 split at e
 .rename_i n
  obtain⟨ds0,e2,e⟩:=Ae e
  obtain⟨⟨args,S2⟩,e3,e⟩:=Ae e
  obtain⟨ds,e4,e⟩:=Ae e
  obtain⟨⟨dd,ds'⟩,e5,e⟩:=Hl e
  cases e
  refine⟨M,E,S,_,S1,e1,r,st,λv H1 M1 g1 st1 r1=>?_⟩
  cases r1 with
  |ref hc=>
   rename_i a
   obtain⟨xs,h1,h2⟩:=st1.cell n a _ hc (Ea e2)
   refine⟨.inl ⟨rfl,xs,.of h1⟩,?_⟩
   refine FV e3 (r.step g1.st) st1 λvs H2 M2 g2 st2 r2=>?_
   exact⟨M2,S2,n,a,ds,args,dd,ds',rfl,Ku g2.pre hc,Ea e4,e5,st2,r2,λv H3 st3 g3 r3=>q _ _ M2 ((g1.trans g2).trans g3) st3 r3⟩
 .cases e
theorem LA{id:uO}{name:Str}{o e:rJ}{es:Wp rJ}{op:Mo}{f:Ev}{fs:Wp Ev}{apos cpos:Pos}(slot:Slot "list" name id)(hty:typeOf (.builtin id)=pure (.type "method_descriptor"))(hm:MtR X id (gm X.K op))(ho:DE X o f)(ha:DEs X (e::es) fs)(hbase:attributeBase o name X.env (eval o X.env)=eval o X.env:=by rfl)(hfew:((backTo cpos (rB (e::es) X.env)).all (λx=> !x.1) && (backToKw cpos (keywordEach [] X.env)).all (λx=>x.1.isSome) && decide ((e::es).length+([]:Wp yS).length+(if([]:Wp yS).isEmpty then 0 else 1)<30))=true:=by rfl)(hline:(apos.endLine==cpos.line)=true:=by rfl)(hs:rB (e::es) X.env=(false,eval e X.env)::rB es X.env:=by rfl)(hplain:(backTo cpos (rB es X.env)).any (·.1)=false:=by rfl):DE X (.Call (.Attribute o name apos) (e::es) [] cpos) (EL op f fs):=⟨A7 (kU PySem.F.plainAttrs_list slot hty hm ho.pe ha.pe hbase hfew hline hs hplain) λσ H Q z=>eR z⟩
noncomputable def EN:Mo
 |_,ds,[x]=>if ds.length<sizeLine then Gc (.non,ds++[x])else none
 |_,_,_=>none
theorem Qy{K:qS}{M:Ms}{H:Hp}{vs:Wp V}{d:D}(h:Af K M H vs [d]):∃v,vs=[v]/\Bi K M H v d:=by
 cases h with
 |cons h t=>cases t;exact⟨_,rfl,h⟩
theorem ID:MtR X "list.append" (gm X.K EN):=by
 intro pins s σ H x vs v us Q I rx rv h
 obtain⟨M,S,n,a,ds,args,d,ds',rfl,hc,hn,e,st,ra,q⟩:=h
 unfold EN at e
 split at e
 .split at e
  .rename_i hz
   cases e
   obtain⟨xs,h1,h2⟩:=st.cell n a _ hc hn
   obtain⟨y,rfl,ry⟩:=Qy ra
   obtain⟨st2,g2⟩:=st.chg hc hn (h2.append (.cons ry .nil))
   exact OQ pins s σ H _ _ v us Q I rx rv ⟨a,xs,y,rfl,rfl,h1,by rw[h2.length];exact hz,q _ _ st2 g2 .non⟩
  .cases e
 .cases e
end
noncomputable def Ja(k f o:Ev):Ex:=λE S=>(k E S).bind λr=>(f E r.2).bind λb=>(o E b.2).bind λi=>match b.1,i.1 with
 | .ref n,.int j=>(DU i.2 n).bind λds=>(ixN ds.length j).map λm=>(.nx,E,i.2.set n (.lst (ds.set m r.1)))
 |_,_=>none
theorem gS {X : Cx} {e t bs : rJ} {k f o : Ev} {ps pos : Pos} (h : DE X e k) (hb : DE X bs f) (ht : DE X t o) (ha : ∀ v, assign (.Subscript bs t ps) X.env v = (do
      let ov ← holding [v] (eval bs X.env)
      let iv ← holding [v, ov] (eval t X.env)
      standAt ps
      holding [v, ov, iv] (setItem ov iv v)
      release [v, ov, iv] []) := by intro _; rfl)
    (hs : swapsWithSole [.Subscript bs t ps] e pos.line X.env = pure false := by rfl) (hw : swappedStores [.Subscript bs t ps] e X.env = pure none := by rfl)
    (h1 : (assignEach [.Subscript bs t ps] X.env).map (·.2) = [assign (.Subscript bs t ps) X.env] := by rfl) :
    DS X (.Assign [.Subscript bs t ps] e pos) (Ja k f o) := ⟨
  Eu (YT h.pe (dD hb.pe ht.pe set_list ha) hs hw h1) fun Dn σ H z => by
    obtain ⟨M, E, S, fl, E', S', e, r, st, q⟩ := z
    obtain ⟨⟨d, S1⟩, e1, e⟩ := Ae e
    obtain ⟨⟨b, S2⟩, e2, e⟩ := Ae e
    obtain ⟨⟨i, S3⟩, e3, e⟩ := Ae e
    dsimp only at e e1 e2 e3
    split at e
    · rename_i n j _
      obtain ⟨ds, e4, e⟩ := Ae e
      obtain ⟨m, e5, e⟩ := Hl e
      cases e
      refine ⟨M, E, S, d, S1, e1, r, st, fun v H1 M1 g1 st1 r1 => ?_⟩
      refine ⟨M1, E, S1, _, S2, e2, r.step g1.st, st1, fun bv H2 M2 g2 st2 r2 => ?_⟩
      refine ⟨M2, E, S2, _, S3, e3, (r.step g1.st).step g2.st, st2, fun iv H3 M3 g3 st3 r3 => ?_⟩
      cases r3
      cases r2 with
      | ref hc =>
        rename_i a
        have hc3 := Ku g3.pre hc
        obtain ⟨xs, h1, h2⟩ := st3.cell n a _ hc3 (Ea e4)
        obtain ⟨st4, g4⟩ := st3.chg hc3 (Ea e4) (h2.set ((r1.step g2.st).step g3.st) m)
        have g := ((g1.trans g2).trans g3).trans g4
        exact ⟨a, xs, j, m, rfl, rfl, h1, by rw [h2.length]; exact e5, q _ _ M3 g (r.step g.st) st4⟩
    · cases e⟩
abbrev Fn:=Wp D->Sto->qY (D×Sto)
noncomputable def flD:Fl->D
 | .nx=>.non
 | .ret d=>d
noncomputable def Av(N:Nat)(body:Ex):Fn:=λds S=>(body (ds.map Gc++qz (N-ds.length) none) S).map λr=>(flD r.1,r.2.2)
def Ap{α:Type}(a:α):α:=Classical.choose (⟨a,rfl⟩:∃x,x=a)
theorem Mz{α:Type}(a:α):Ap a=a:=Classical.choose_spec (⟨a,rfl⟩:∃x,x=a)
noncomputable def spD(K:qS)(np:Nat)(f:Fn):Sp:=λvs H Q _=>∃M ds S d S',ds.length=np/\f ds S=Gc (d,S')/\Af K M H vs ds/\StR K M S H/\∀v H' M',Gr M H M' H'->StR K M' S' H'->Bi K M' H' v d->Q v H'
theorem Ol{α:Type}{xs:Wp α}{i:Nat}{x:α}(h:(xs.map Gc)[i]?=Gc (Gc x)):xs[i]?=Gc x:=by
 rw[ql]at h
 cases e:xs[i]? with
 |none=>rw[e]at h;cases h
 |some y=>rw[e]at h;cases h;rfl
theorem Uk{α:Type}{xs:Wp (qY α)}{k i:Nat}{x:α}(h:(xs++qz k none)[i]?=Gc (Gc x)):xs[i]?=Gc (Gc x):=by
 by_cases hi:i<xs.length
 .rw[qZ hi]at h;exact h
 .rw[rL (by lia),wd]at h
  split at h<;>cases h
theorem bD{α:Type}{xs:Wp (qY α)}{k i:Nat}{x:qY α}(h:xs[i]?=Gc x):(xs++qz k none)[i]?=Gc x:=by
 rw[qZ (qe.mp h).1];exact h
theorem EnR.args{K:qS}{M:Ms}{H:Hp}{vs:Wp V}{ds:Wp D}(r:Af K M H vs ds)(k:Nat):EnR K M (ds.map Gc++qz k none) (vs.map Gc++qz k none) H:=by
 refine⟨by simp[r.length],λi d e=>?_⟩
 obtain⟨v,h1,h2⟩:=r.get (Ol (Uk e))
 exact⟨v,bD (by rw[ql,h1];rfl),h2⟩
section
variable{P:rF}{w:rX}{K:qS}{mg:Str->qY qT}{base:rT}
theorem cI{x:Str}{st:sG}{f:qb}{fd:uU}{N ps:Wp Str}{k np:Nat}{b:Ex}(Fu:Fun K x x st f fd)(S:AM N ps (AB st))(hp:ps.length=np)(hb:∀(cdv:qT) (A:rS) (outer:Wp xO) (s:qX) (H:Hp) (E:XK),JE k (A.deeper (tE x (AB st) s.heap.objs.size f cdv))->DSs (Qb CX0 P w K mg base N x (AB st) f cdv A outer s H E).nox (C0 st) b):Nd P w K mg base CX0 (k+1) f fd ps (spD K np (Ap (Av N.length b))):=by
 rw[Mz]
 refine Fu.ok S (λvs H Q E h=>?_) (λcdv A outer s H vs Q E hr h=>?_)
 .obtain⟨M,ds,S0,d,S',hl,_,r,_⟩:=h
  have:=r.length
  lia
 .obtain⟨M,ds,S0,d,S',hl,e,r,st,q⟩:=h
  have hlen:=r.length
  refine⟨_,(hb cdv A outer s H E hr).pe,?_⟩
  obtain⟨⟨fl,E',S1⟩,e1,e⟩:=Hl e
  cases e
  refine⟨M,_,S0,fl,E',S1,e1,?_,st,?_⟩
  .rw[show L2.start N vs=vs.map Gc++qz (N.length-ds.length) none from by unfold L2.start;rw[hlen]]
   exact .args r _
  .cases fl with
   |nx=>exact λσ' H' M' g _ st'=>q _ _ M' g st' .non
   |ret d=>exact λv H' M' g st' r'=>q _ _ M' g st' r'
theorem eT{x:Str}{st:sG}{N ps:Wp Str}{k np:Nat}{b:Ex}(S:St.Src K mg x st)(sc:AM N ps (AB st))(hp:ps.length=np)(hbi:∀f fd,Fun K x x st f fd->Binds K fd ps [])(hb:∀(f:qb) (cdv:qT) (A:rS) (outer:Wp xO) (s:qX) (H:Hp) (E:XK),JE k (A.deeper (tE x (AB st) s.heap.objs.size f cdv))->DSs (Qb CX0 P w K mg base N x (AB st) f cdv A outer s H E).nox (C0 st) b):St.Dfn P w K mg base x (k+1) ps (spD K np (Ap (Av N.length b))):=by
 obtain⟨f,fd,Fu,hm⟩:=S.ex
 exact⟨f,fd,hm,Fu.kp,hbi f fd Fu,cI Fu sc hp λcdv A outer s H E hr=>hb f cdv A outer s H E hr⟩
end
noncomputable def AE(f:Fn)(fs:Wp Ev):Ev:=λE S=>(evs fs E S).bind λr=>f r.1 r.2
theorem Yn{K:qS}{np:Nat}{f:Fn}{fs:Wp Ev}{σ:Sg}{H:Hp}{Q:VK}(hn:fs.length=np)(h:tD K (AE f fs) σ H Q):Zw (spD K np f) [] E0 (tDs K fs) σ H Q:=by
 obtain⟨M,E,S,d,S',e,r,st,q⟩:=h
 obtain⟨⟨ds,S1⟩,e1,e⟩:=Ae e
 refine FV e1 r st λvs H1 M1 g1 st1 r1=>?_
 rw[uL]
 exact⟨M1,ds,S1,d,S',by rw[K3 e1];exact hn,e,r1,st1,λv H2 M2 g2 st2 r2=>q _ _ M2 (g1.trans g2) st2 r2⟩
theorem ZR{X:Cx}{k np:Nat}{x:Str}{ps:Wp Str}{f:Fn}{e:rJ}{es:Wp rJ}{fs:Wp Ev}{p pos:Pos}(d:St.Dfn X.prog X.w X.K X.mg X.base x k ps (spD X.K np f))(hr:JE k X.A)(hg:Gl X x)(ha:DEs X (e::es) fs)(hn:fs.length=np:=by rfl)(hdb:(x==("__debug__":Str))=false:=by decide)(he:rB (e::es) X.env=(false,eval e X.env)::rB es X.env:=by rfl)(hpl:(backTo pos (rB es X.env)).any (·.1)=false:=by rfl):DE X (.Call (.Name x p) (e::es) [] pos) (AE f fs):=⟨A7 (St.jv d hr hg ha.pe hdb he hpl) λσ H Q z=>Yn hn z⟩
abbrev Tf:=D->En->Sto->qY En
noncomputable def tG(K:qS)(t:Tf):TG:=λv σ H Q=>∃M d E E' S,t d E S=Gc E'/\EnR K M E σ H/\StR K M S H/\Bi K M H v d/\∀σ',EnR K M E' σ' H->Q σ' H
structure DG(X:Cx)(tg:rJ)(t:Tf):Prop where
 pe:PG X tg (tG X.K t)
noncomputable def tNm(i:Nat):Tf:=λd E _=>Gc (E.set i (Gc d))
theorem Td{X:Cx}{e:rJ}{t t':TG}(h:PG X e t)(m:∀v σ H Q,t' v σ H Q->t v σ H Q):PG X e t':=λpins s σ H v u Q I r q=>h pins s σ H v u Q I r (m _ _ _ _ q)
theorem Hm{X:Cx}{pos:Pos}(i:Nat){x:Str}(hN:X.N.Nodup)(hi:X.N[i]?=Gc x:=by rfl)(hx:Loc X.env.scope x:=by first|exact Or.inl rfl|exact Or.inr rfl)(hf:X.fn x=true\/X.env.scope.names.lookup x=Gc .local:=by first|exact .inl rfl|exact .inr rfl):DG X (.Name x pos) (tNm i):=⟨Td (Zs hN hi hx hf) λv σ H Q z=>by
 obtain⟨M,d,E,E',S,e,r,st,rd,q⟩:=z
 cases e
 exact q _ (r.put rd)⟩
noncomputable def tMs:Wp Tf->Wp D->En->Sto->qY En
 | [],[],E,_=>Gc E
 |t::ts,d::ds,E,S=>(t d E S).bind λE1=>tMs ts ds E1 S
 |_,_,_,_=>none
noncomputable def tTp(ts:Wp Tf):Tf:=λd E S=>match d with
 | .tup ds=>tMs ts ds E S
 | .lst ds=>tMs ts ds E S
 | .ref n=>(DU S n).bind λds=>tMs ts ds E S
 |_=>none
noncomputable def tGs(K:qS):Wp Tf->TGs
 | []=>m8
 |t::ts=>eP (tG K t) (tGs K ts)
theorem RI{K:qS}{M:Ms}{H:Hp}{S:Sto}(st:StR K M S H):∀{ts:Wp Tf} {ds:Wp D} {vs:Wp V} {E E':En} {σ:Sg} {Q:Sg->Hp->Prop},tMs ts ds E S=Gc E'->EnR K M E σ H->Af K M H vs ds->(∀σ',EnR K M E' σ' H->Q σ' H)->tGs K ts vs σ H Q
 | [],[],_,E,E',σ,Q,e,r,rd,q=>by
   cases e
   cases rd
   exact⟨rfl,q _ r⟩
 |t::ts,d::ds,_,E,E',σ,Q,e,r,rd,q=>by
  obtain⟨E1,e1,e⟩:=Ae e
  cases rd with
  |cons h1 h2=>exact⟨_,_,rfl,M,d,E,E1,S,e1,r,st,h1,λσ1 r1=>RI st e r1 h2 q⟩
 | [],_::_,_,E,E',σ,Q,e,r,rd,q=>by cases e
 |_::_,[],_,E,E',σ,Q,e,r,rd,q=>by cases e
theorem Ml:∀{ts:Wp Tf} {ds:Wp D} {E E':En} {S:Sto},tMs ts ds E S=Gc E'->ds.length=ts.length
 | [],[],_,_,_,_=>rfl
 |t::ts,d::ds,E,E',S,e=>by
  obtain⟨E1,e1,e⟩:=Ae e
  simp[Ml e]
 | [],_::_,_,_,_,e=>by cases e
 |_::_,[],_,_,_,e=>by cases e
structure DGs(X:Cx)(es:Wp rJ)(ts:Wp Tf):Prop where
 pe:PGs X es (tGs X.K ts)
theorem QF{X:Cx}:DGs X [] []:=⟨ZS⟩
theorem He{X:Cx}{e:rJ}{es:Wp rJ}{t:Tf}{ts:Wp Tf}(h:DG X e t)(g:DGs X es ts)(hs:(assignEach (e::es) X.env).map (·.2)=assign e X.env::(assignEach es X.env).map (·.2):=by rfl):DGs X (e::es) (t::ts):=⟨Wb h.pe g.pe hs⟩
theorem ag{X:Cx}{k:Nat}{es:Wp rJ}{ts:Wp Tf}{pos:Pos}(hc:X.calm=true)(h:DGs X es ts)(hn:(assignEach es X.env).length=ts.length:=by rfl)(hst:(assignEach es X.env).findIdx? (·.1)=none:=by rfl):DG X (.Tuple es k pos) (tTp ts):=⟨
 Td (cy hc h.pe hn hst) λv σ H Q z=>by
  obtain⟨M,d,E,E',S,e,r,st,rd,q⟩:=z
  unfold tTp at e
  split at e
  .cases rd with
   |tup h1 h2=>exact⟨_,_,rfl,.inl h1,by rw[h2.length];exact Ml e,RI st e r h2 q⟩
  .cases rd with
   |lst h1 n h2=>exact⟨_,_,rfl,.inr h1,by rw[h2.length];exact Ml e,RI st e r h2 q⟩
  .obtain⟨ds,e1,e⟩:=Ae e
   cases rd with
   |ref hc=>
    obtain⟨xs,h1,h2⟩:=st.cell _ _ _ hc (Ea e1)
    exact⟨_,_,rfl,.inr h1,by rw[h2.length];exact Ml e,RI st e r h2 q⟩
  .cases e⟩
noncomputable def PR(t:Tf)(k:Ev):Ex:=λE S=>(k E S).bind λr=>(t r.1 E r.2).map λE'=>(.nx,E',r.2)
theorem br{X:Cx}{tg e:rJ}{t:Tf}{k:Ev}{pos:Pos}(h:DE X e k)(hg:DG X tg t)(hs:swapsWithSole [tg] e pos.line X.env=pure false:=by rfl)(hw:swappedStores [tg] e X.env=pure none:=by rfl)(h1:(assignEach [tg] X.env).map (·.2)=[assign tg X.env]:=by rfl):DS X (.Assign [tg] e pos) (PR t k):=⟨Eu (YT h.pe hg.pe hs hw h1) λDn σ H z=>by
 obtain⟨M,E,S,fl,E',S',e,r,st,q⟩:=z
 obtain⟨⟨d,S1⟩,e1,e⟩:=Ae e
 obtain⟨E2,e2,e⟩:=Hl e
 cases e
 exact⟨M,E,S,d,S1,e1,r,st,λv H1 M1 g1 st1 r1=>⟨M1,d,E,_,S1,e2,r.step g1.st,st1,r1,λσ' r2=>q _ _ M1 g1 r2 st1⟩⟩⟩
noncomputable def NO(i j:Nat)(f g:Ev):Ex:=λE S=>(evs [f,g] E S).bind λr=>match r.1 with
 | [d,d']=>Gc (.nx,(E.set i (Gc d)).set j (Gc d'),r.2)
 |_=>none
theorem UU{X:Cx}{i j:Nat}{x y:Str}{a b:rJ}{f g:Ev}{px py pt:Pos}{kt k2:Nat}{pt2 pos:Pos}(hc:X.calm=true)(hN:X.N.Nodup)(hi:X.N[i]?=Gc x)(hj:X.N[j]?=Gc y)(hij:i≠j)(hx:X.env.scope.names.lookup x=Gc .local)(hy:X.env.scope.names.lookup y=Gc .local)(ha:DE X a f)(hb:DE X b g)(hw:swappedStores [.Tuple [.Name x px,.Name y py] kt pt] (.Tuple [a,b] k2 pt2) X.env=pure (Gc [x,y]):=by rfl)(hsa:rB [a,b] X.env=(false,eval a X.env)::rB [b] X.env:=by rfl)(hsb:rB [b] X.env=(false,eval b X.env)::rB [] X.env:=by rfl)(hs:swapsWithSole [.Tuple [.Name x px,.Name y py] kt pt] (.Tuple [a,b] k2 pt2) pos.line X.env=pure false:=by rfl):DS X (.Assign [.Tuple [.Name x px,.Name y py] kt pt] (.Tuple [a,b] k2 pt2) pos) (NO i j f g):=⟨by
 refine Eu (fq hc hN hi hj hij hx hy (Mq ha.pe (Mq hb.pe VB hsb) hsa) hw hs) λDn σ H z=>?_
 obtain⟨M,E,S,fl,E',S',e,r,st,q⟩:=z
 obtain⟨⟨ds,S1⟩,e1,e⟩:=Ae e
 refine FV (K:=X.K) (fs:=[f,g]) e1 r st λvs H1 M1 g1 st1 r1=>?_
 dsimp only at e
 split at e
 .rename_i d d'
  cases e
  cases r1 with
  |cons h1 t=>
   cases t with
   |cons h2 t=>
    cases t
    exact⟨_,_,rfl,q _ _ M1 g1 (((r.step g1.st).put h1).put h2) st1⟩
 .cases e⟩
noncomputable def LH:Ex:=λ_ _=>none
theorem iD{X:Cx}{st:sG}:DS X st LH:=⟨λ_ _ _ _ _ _ z=>by
 obtain⟨M,E,S,fl,E',S',e,_⟩:=z
 cases e⟩
abbrev Gd:=Wp (Nat×Wp D)
def gOk(gs:Gd)(S:Sto):Prop:=∀g∈gs,DU S g.1=Gc g.2
abbrev Sr:=En->Sto->qY ((Wp D×Gd)×Sto)
structure cx(K:qS)(M:Ms)(H:Hp)(gs:Gd)(ds:Wp D)(J:It):Prop where
 go:∀(i:Nat) (H2:Hp) (M2:Ms) (S2:Sto),Sp1 M H M2 H2->StR K M2 S2 H2->gOk gs S2->i<ds.length->J.go i H2
 stop:∀(i:Nat) (H2:Hp) (M2:Ms) (S2:Sto),Sp1 M H M2 H2->StR K M2 S2 H2->gOk gs S2->ds.length<=i->J.stop i H2
 yld:∀(i:Nat) (H2:Hp) (M2:Ms) (S2:Sto) (x:V) (H3:Hp) (d:D),Sp1 M H M2 H2->StR K M2 S2 H2->gOk gs S2->ds[i]?=Gc d->J.yld i H2 x H3->(∀a o,H2 a=Gc o->H3 a=Gc o)/\Bi K M2 H3 x d
noncomputable def tI(K:qS)(s:Sr):TI:=λσ H R=>∃M E S ds gs S',s E S=Gc ((ds,gs),S')/\EnR K M E σ H/\StR K M S H/\∀J H' M',Gr M H M' H'->StR K M' S' H'->cx K M' H' gs ds J->R J H'
structure DI(X:Cx)(tg iter:rJ)(s:Sr):Prop where
 pe:PI X tg iter (tI X.K s)
theorem Mf{X:Cx}{tg e:rJ}{t t':TI}(h:PI X tg e t)(m:∀σ H R,t' σ H R->t σ H R):PI X tg e t':=λpins s σ H R I q=>h pins s σ H R I (m _ _ _ q)
noncomputable def pS(K:qS)(tl:TE):TI:=λσ H R=>tl σ H λx H1=>∃a,x=.ref a/\(((∃xs,SqL K H1 a xs)/\R (Itl K a) H1)\/((∃xs,SqT K H1 a xs)/\R (Itt K a) H1))
theorem fG{X:Cx}{tg l:rJ}{tl:TE}(hl:PE X l tl):PI X tg l (pS X.K tl):=by
 intro pins s σ H R I h
 refine thn (hl pins s σ H _ I h) λv s1 ⟨x,H1,I1,r1,q1⟩=>?_
 obtain⟨a,e,q1⟩:=q1
 subst e
 cases r1
 rcases q1 with⟨⟨xs,hq⟩,q⟩|⟨⟨xs,hq⟩,q⟩
 .obtain⟨its,rv,p,hz⟩:=I1.list hq
  refine tJ p.isList ?_
  refine⟨s1.heap.objs.size,[s1.heap.objs.size],_,_,H1,rfl,I1.kept (t':=s1.toks) λb o e=>qU _ e,T7 a _,⟨_,qk _ rfl,rfl,rfl⟩,λb hb=>?_,q⟩
  have e:b=s1.heap.objs.size:=by simpa using hb
  subst e
  exact I1.ZZ (qg _) (I1.hok.fresh (qg _))
 .obtain⟨its,rv,p,hz⟩:=I1.tuple hq
  refine uW (show s1.heap.IsTuple a its.toArray from p) ?_
  refine⟨s1.heap.objs.size,[s1.heap.objs.size],_,_,H1,rfl,I1.kept (t':=s1.toks) λb o e=>qU _ e,Sq a _,⟨_,qk _ rfl,rfl,rfl⟩,λb hb=>?_,q⟩
  have e:b=s1.heap.objs.size:=by simpa using hb
  subst e
  exact I1.ZZ (qg _) (I1.hok.fresh (qg _))
theorem Af.get'{K:qS}{M:Ms}{H:Hp}{vs:Wp V}{ds:Wp D}{i:Nat}(h:Af K M H vs ds)(hi:i<ds.length):∃x,vs[i]?=Gc x:=by
 have:=h.length
 exact⟨vs[i],qW (by lia)⟩
structure SqF(K:qS)(M:Ms)(H:Hp)(gs:Gd)(k:rR)(a:qb)(ds:Wp D):Prop where
 keep:∀(H2:Hp) (M2:Ms) (S2:Sto),Sp1 M H M2 H2->StR K M2 S2 H2->gOk gs S2->∃xs,(if k=true then SqT K H2 a xs else SqL K H2 a xs)/\Af K M2 H2 xs ds
noncomputable def sqD(S:Sto):D->qY (Wp D×Gd)
 | .tup ds=>Gc (ds,[])
 | .lst ds=>Gc (ds,[])
 | .ref n=>(DU S n).map λds=>(ds,[(n,ds)])
 | .scr ns=>Gc (ns.map .int,[])
 |_=>none
theorem Qf{K:qS}{M:Ms}{H:Hp}{S:Sto}{v:V}{d:D}{ds:Wp D}{gs:Gd}(st:StR K M S H)(h:Bi K M H v d)(e:sqD S d=Gc (ds,gs)):∃k a,v=.ref a/\SqF K M H gs k a ds:=by
 cases h with
 |tup h r=>cases e;exact⟨true,_,rfl,⟨λH2 M2 S2 g _ _=>⟨_,g.sqT h,r.step g⟩⟩⟩
 |lst h n r=>cases e;exact⟨false,_,rfl,⟨λH2 M2 S2 g _ _=>⟨_,SqL.of (g.keep _ _ h n),r.step g⟩⟩⟩
 |scr h=>
  cases e
  refine⟨false,_,rfl,⟨λH2 M2 S2 g _ _=>⟨_,?_,Gg⟩⟩⟩
  rcases h with⟨h,n⟩|h
  .rcases h with h|⟨o,h⟩
   .exact .inl (.inl (g.keep _ _ h n))
   .exact .inl (.inr ⟨o,g.keep _ _ h n⟩)
  .exact .inr h
 |ref h=>
  obtain⟨es,e1,e⟩:=Hl e
  cases e
  refine⟨false,_,rfl,⟨λH2 M2 S2 g st2 ok=>?_⟩⟩
  obtain⟨xs,h1,h2⟩:=st2.cell _ _ _ (Ku g.pre h) (Ea (ok _ (q8.mpr rfl)))
  exact⟨xs,SqL.of h1,h2⟩
 |non=>cases e
 |bl b=>cases e
 |int b=>cases e
 |str b=>cases e
 |ty b=>cases e
 |dct h n r=>cases e
theorem kJ{K:qS}{M:Ms}{H:Hp}{gs:Gd}{k:rR}{a:qb}{ds:Wp D}(h:SqF K M H gs k a ds):cx K M H gs ds (if k=true then Itt K a else Itl K a):=by
 cases k with
 |true=>
  exact{
   go:=λi H2 M2 S2 g st ok hi=>let⟨xs,h1,h2⟩:=h.keep H2 M2 S2 g st ok;let⟨x,hx⟩:=h2.get' hi;⟨xs,x,h1,hx⟩
   stop:=λi H2 M2 S2 g st ok hi=>let⟨xs,h1,h2⟩:=h.keep H2 M2 S2 g st ok;⟨xs,h1,by have:=h2.length;lia⟩
   yld:=λi H2 M2 S2 x H3 d g st ok hd hy=>by
    obtain⟨xs,h1,h2⟩:=h.keep H2 M2 S2 g st ok
    obtain⟨rfl,hy⟩:=hy
    refine⟨λ_ _ e=>e,?_⟩
    have hx:=hy xs h1
    obtain⟨x',h3,h4⟩:=h2.get hd
    rw[hx]at h3;cases h3
    exact h4}
 |false=>
  exact{
   go:=λi H2 M2 S2 g st ok hi=>let⟨xs,h1,h2⟩:=h.keep H2 M2 S2 g st ok;let⟨x,hx⟩:=h2.get' hi;⟨xs,x,h1,hx⟩
   stop:=λi H2 M2 S2 g st ok hi=>let⟨xs,h1,h2⟩:=h.keep H2 M2 S2 g st ok;⟨xs,h1,by have:=h2.length;lia⟩
   yld:=λi H2 M2 S2 x H3 d g st ok hd hy=>by
    obtain⟨xs,h1,h2⟩:=h.keep H2 M2 S2 g st ok
    obtain⟨rfl,hy⟩:=hy
    refine⟨λ_ _ e=>e,?_⟩
    have hx:=hy xs h1
    obtain⟨x',h3,h4⟩:=h2.get hd
    rw[hx]at h3;cases h3
    exact h4}
noncomputable def Fd(f:Ev):Sr:=λE S=>(f E S).bind λr=>(sqD r.2 r.1).map λp=>(p,r.2)
theorem Mm{S:Sto}{d:D}{ds:Wp D}{gs:Gd}(e:sqD S d=Gc (ds,gs)):gOk gs S:=by
 cases d<;>first|(cases e;done)|skip
 all_goals first
  |(cases e;intro g hg;cases hg;done)
  |(obtain⟨es,e1,e⟩:=Hl e
    cases e
    intro g hg
    rw[q8.mp hg]
    exact e1)
theorem Jw{X:Cx}{tg e:rJ}{f:Ev}(h:DE X e f):DI X tg e (Fd f):=⟨Mf (fG h.pe) λσ H R z=>by
 obtain⟨M,E,S,ds,gs,S',e,r,st,q⟩:=z
 obtain⟨⟨d,S1⟩,e1,e⟩:=Ae e
 obtain⟨⟨ds',gs'⟩,e2,e⟩:=Hl e
 cases e
 refine⟨M,E,S,d,S1,e1,r,st,λv H1 M1 g1 st1 r1=>?_⟩
 obtain⟨k,a,rfl,sq⟩:=Qf st1 r1 e2
 obtain⟨xs,hs,_⟩:=sq.keep H1 M1 S1 (Gr.refl st1.mo).st st1 (Mm e2)
 have it:=kJ sq
 refine⟨a,rfl,?_⟩
 cases k with
 |true=>exact .inr ⟨⟨xs,hs⟩,q _ _ M1 g1 st1 it⟩
 |false=>exact .inl ⟨⟨xs,hs⟩,q _ _ M1 g1 st1 it⟩⟩
noncomputable def Ka(lo:Int)(n:Nat):Wp D:=(rO n).map λ(i:Nat)=>.int (lo+(i:Int))
theorem gD{K:qS}{M:Ms}{H:Hp}{lo:Int}{n:Nat}:cx K M H [] (Ka lo n) (Itr lo n) where
 go:=λi H2 M2 S2 g st ok hi=>by
  have:i<n:=by unfold Ka at hi;simpa using hi
  exact this
 stop:=λi H2 M2 S2 g st ok hi=>by
  have:n<=i:=by unfold Ka at hi;simpa using hi
  exact this
 yld:=λi H2 M2 S2 x H3 d g st ok hd hy=>by
  obtain⟨rfl,rfl⟩:=hy
  refine⟨λ_ _ e=>e,?_⟩
  unfold Ka at hd
  rw[ql]at hd
  cases e:(rO n)[i]? with
  |none=>rw[e]at hd;cases hd
  |some j=>
   rw[e]at hd
   cases hd
   have:j=i:=by
    obtain⟨h1,h2⟩:=qe.mp e
    simpa using h2.symm
   subst this
   exact .int _
noncomputable def Mc(fs:Wp Ev):Sr:=λE S=>(evs fs E S).bind λr=>match r.1 with
 | [.int j]=>if(decide (-(2^62)<=j) && decide (j<2^62))=true then Gc ((Ka 0 j.toNat,[]),r.2)else none
 | [.int i,.int j]=>if(decide (-(2^62)<=i) && decide (i<2^62) && decide (-(2^62)<=j) && decide (j<2^62))=true then Gc ((Ka i (j-i).toNat,[]),r.2)else none
 |_=>none
theorem Xz{K:qS}{M:Ms}{H:Hp}{vs:Wp V}{j:Int}(h:Af K M H vs [.int j]):vs=[.int j]:=by
 cases h with
 |cons h t=>cases t;cases h;rfl
theorem Vy{X:Cx}{tg a:rJ}{o:Ev}{p pos:Pos}(hg:Gl X "range")(hm:X.mg "range"=none)(ha:DEs X [a] [o])(hs:rB [a] X.env=[(false,eval a X.env)]:=by rfl):DI X tg (.Call (.Name "range" p) [a] [] pos) (Mc [o]):=⟨
 Mf (Ud hg hm ha.pe hs) λσ H R z=>by
  obtain⟨M,E,S,ds,gs,S',e,r,st,q⟩:=z
  obtain⟨⟨ws,S1⟩,e1,e⟩:=Ae e
  have hl:=K3 e1
  refine FV e1 r st λvs H1 M1 g1 st1 r1=>?_
  dsimp only at e
  split at e
  .split at e
   .rename_i j hk
    rw[qt]at hk
    cases e
    exact⟨j,Xz r1,qu hk.1,qu hk.2,q _ _ M1 g1 st1 gD⟩
   .cases e
  .simp at hl
  .cases e⟩
open Classical in
def KJ(gs:Gd)(t:Tf)(body:Ex):Wp D->En->Sto->qY (Fl×En×Sto)
 | [],E,S=>if gOk gs S then Gc (.nx,E,S)else none
 |d::ds,E,S=>if gOk gs S then(t d E S).bind λE1=>(body E1 S).bind λr=>match r.1 with
  | .nx=>KJ gs t body ds r.2.1 r.2.2
  | .ret w=>Gc (.ret w,r.2)
  else none
def IL(s:Sr)(t:Tf)(body:Ex):Ex:=λE S=>(s E S).bind λr=>KJ r.1.2 t body r.1.1 E r.2
theorem OS{α:Type}{xs:Wp α}{i:Nat}{x:α}{r:Wp α}(h:xs.drop i=x::r):xs[i]?=Gc x/\xs.drop (i+1)=r/\i<xs.length:=by
 have hi:i<xs.length:=by
  by_cases hi:i<xs.length
  .exact hi
  .rw[uR (by lia)]at h;cases h
 rw[sW hi]at h
 cases h
 exact⟨qW hi,rfl,hi⟩
theorem LV{X:Cx}{tg iter:rJ}{body:Wp sG}{s:Sr}{t:Tf}{b:Ex}{pos:Pos}(hp:PassesOwn (model X.prog X.w) X.A X.env X.xe)(hc:X.calm=true)(hi:DI X tg iter s)(hg:DG X tg t)(hb:DSs X body b)(hs:∀x,foldedSetIterable iter X.env x=pure x:=by intro _;rfl):DS X (.For tg iter body [] pos) (IL s t b):=⟨Eu (eO hp hc hi.pe hg.pe hb.pe hs) λDn σ H z=>by
 obtain⟨M,E,S,fl,E',S',e,r,st,q⟩:=z
 obtain⟨⟨⟨ds,gs⟩,S1⟩,e1,e⟩:=Ae e
 dsimp only at e
 refine⟨M,E,S,ds,gs,S1,e1,r,st,λJ H1 M1 g1 st1 it=>?_⟩
 refine⟨λi m σ' H'=>m=ds.length-i/\∃E2 S2 M2,KJ gs t b (ds.drop i) E2 S2=Gc (fl,E',S')/\Gr M1 H1 M2 H'/\EnR X.K M2 E2 σ' H'/\StR X.K M2 S2 H',⟨_,rfl,E,S1,M1,e,.refl st1.mo,r.step g1.st,st1⟩,λi m σ2 H2 hW=>?_⟩
 obtain⟨rfl,E2,S2,M2,e2,g2,r2,st2⟩:=hW
 cases ed:ds.drop i with
 |nil=>
  rw[ed]at e2
  unfold KJ at e2
  split at e2
  .rename_i ok
   cases e2
   left
   exact⟨it.stop i H2 M2 _ g2.st st2 ok (zq.mp ed),q _ _ M2 (g1.trans g2) r2 st2⟩
  .cases e2
 |cons d rest=>
  obtain⟨d1,d2,d3⟩:=OS ed
  rw[ed]at e2
  unfold KJ at e2
  split at e2
  .rename_i ok
   obtain⟨E3,e3,e2⟩:=Ae e2
   obtain⟨⟨f4,E4,S4⟩,e4,e2⟩:=Ae e2
   dsimp only at e2
   right
   refine⟨it.go i H2 M2 S2 g2.st st2 ok d3,λσ' H'=>∃m',m'<ds.length-i/\(m'=ds.length-(i+1)/\∃E2 S2 M2,KJ gs t b (ds.drop (i+1)) E2 S2=Gc (fl,E',S')/\Gr M1 H1 M2 H'/\EnR X.K M2 E2 σ' H'/\StR X.K M2 S2 H'),λσ' H' z=>z,λx H3 hy=>?_⟩
   obtain⟨k3,rx⟩:=it.yld i H2 M2 S2 x H3 d g2.st st2 ok d1 hy
   have g3:Gr M2 H2 M2 H3:=.grow st2.mo k3
   refine⟨M2,d,E2,E3,S2,e3,r2.step g3.st,st2.grow k3,rx,λσ4 r4=>?_⟩
   refine⟨M2,E3,S2,f4,E4,S4,e4,r4,st2.grow k3,?_⟩
   split at e2
   .exact λσ6 H6 M6 g6 r6 st6=>⟨_,by lia,rfl,E4,S4,M6,by rw[d2];exact e2,(g2.trans g3).trans g6,r6,st6⟩
   .cases e2
    exact λv H6 M6 g6 st6 r6=>q _ _ M6 (((g1.trans g2).trans g3).trans g6) st6 r6
  .cases e2⟩
noncomputable def Gv(c:Ev)(b:Ex):Nat->En->Sto->qY (Fl×En×Sto)
 |0,_,_=>none
 |k+1,E,S=>(c E S).bind λr=>match r.1 with
  | .bl true=>(b E r.2).bind λp=>match p.1 with
    | .nx=>Gv c b k p.2.1 p.2.2
    | .ret w=>Gc (.ret w,p.2)
  | .bl false=>Gc (.nx,E,r.2)
  |_=>none
noncomputable def OP(fuel:En->Nat)(c:Ev)(b:Ex):Ex:=λE S=>Gv c b (fuel E) E S
theorem iJ{X:Cx}{c:rJ}{body:Wp sG}{k:Ev}{b:Ex}{pos:Pos}(fuel:En->Nat)(hp:PassesOwn (model X.prog X.w) X.A X.env X.xe)(hc:DT X c k)(hb:DSs X body b):DS X (.While c body [] pos) (OP fuel k b):=⟨
 Eu (Xh hp hc.pe hb.pe) λDn σ H z=>by
  obtain⟨M,E,S,fl,E',S',e,r,st,q⟩:=z
  refine⟨λm σ' H'=>∃E2 S2 M2,Gv k b m E2 S2=Gc (fl,E',S')/\Gr M H M2 H'/\EnR X.K M2 E2 σ' H'/\StR X.K M2 S2 H',⟨fuel E,E,S,M,e,.refl st.mo,r,st⟩,λm σ2 H2 hW=>?_⟩
  obtain⟨E2,S2,M2,e2,g2,r2,st2⟩:=hW
  cases m with
  |zero=>cases e2
  |succ m=>
   obtain⟨⟨w3,S3⟩,e3,e2⟩:=Ae e2
   dsimp only at e2
   split at e2
   .obtain⟨⟨f4,E4,S4⟩,e4,e2⟩:=Ae e2
    refine⟨M2,E2,S2,true,S3,e3,r2,st2,λH3 M3 g3 st3=>?_⟩
    refine aP ⟨λσ' H'=>∃m',m'<m+1/\∃E2 S2 M2,Gv k b m' E2 S2=Gc (fl,E',S')/\Gr M H M2 H'/\EnR X.K M2 E2 σ' H'/\StR X.K M2 S2 H',λσ' H' z=>z,?_⟩
    refine⟨M3,E2,S3,f4,E4,S4,e4,r2.step g3.st,st3,?_⟩
    dsimp only at e2
    split at e2
    .exact λσ5 H5 M5 g5 r5 st5=>⟨m,by lia,E4,S4,M5,e2,(g2.trans g3).trans g5,r5,st5⟩
    .cases e2
     exact λv H5 M5 g5 st5 r5=>q _ _ M5 ((g2.trans g3).trans g5) st5 r5
   .cases e2
    refine⟨M2,_,S2,false,_,e3,r2,st2,λH3 M3 g3 st3=>?_⟩
    refine Z0 ?_
    exact q _ _ M3 (g2.trans g3) (r2.step g3.st) st3
   .cases e2⟩
noncomputable def VG(i:Nat):En->Nat:=λE=>match at? E i with
 |some (.int j)=>j.natAbs+2
 |_=>0
section
variable{K:qS}{M M' M2:Ms}{H H' H2:Hp}{S:Sto}
structure GrX(M:Ms)(H:Hp)(M':Ms)(H':Hp):Prop where
 pre:M.cel <+: M'.cel
 fresh:∀a,a∈M'.cel->a∈M.cel\/H a=none
 keep:∀a o,H a=Gc o->a∉M.cel->H' a=Gc o
 some:∀a,H a≠none->H' a≠none
theorem GrX.none(g:GrX M H M' H'){a:qb}(h:H' a=none):H a=none:=by
 cases e:H a with
 |none=>rfl
 |some o=>exact absurd h (g.some a (by rw[e];intro z;cases z))
theorem Gr.x(g:Gr M H M' H'):GrX M H M' H':=⟨g.pre,g.fresh,g.keep,g.some⟩
theorem GrX.trans(h:GrX M H M' H')(g:GrX M' H' M2 H2):GrX M H M2 H2:=
 ⟨h.pre.trans g.pre,λa z=>(g.fresh a z).elim (h.fresh a) λz=>.inr (h.none z),λa o e n=>g.keep a o (h.keep a o e n) (λz=>by
   rcases h.fresh a z with z|z
   .exact n z
   .rw[e]at z;cases z),λa e=>g.some a (h.some a e)⟩
theorem StR.dR(r:StR K M S H){a:qb}(e:H a=none):StR K ⟨M.cel,a::M.tmp⟩ S (upd H a (.lst []))/\GrX M H ⟨M.cel,a::M.tmp⟩ (upd H a (.lst []))/\Sp1 M H ⟨M.cel,a::M.tmp⟩ (upd H a (.lst [])):=by
 have k:∀b o,H b=Gc o->upd H a (.lst []) b=Gc o:=GZ e
 have na:¬M.mem a:=λz=>r.mo.some z e
 have s1:Sp1 M H ⟨M.cel,a::M.tmp⟩ (upd H a (.lst [])):=⟨r.mo,tF,λb z=>by
  rcases z with z|z
  .exact .inl (.inl z)
  .rcases qj.mp z with z|z
   .subst z;exact .inr e
   .exact .inl (.inr z),λb o eb _=>k b o eb⟩
 refine⟨⟨λb z=>?_,r.nd,λb hb z=>?_,r.len,λn b c h1 h2=>?_⟩,⟨tF,λb z=>.inl z,λb o eb _=>k b o eb,λb eb z=>?_⟩,s1⟩
 .by_cases h:b=a
  .subst h;exact .inl ⟨[],Au⟩
  .rw[AX h]
   refine r.mo b ?_
   rcases z with z|z
   .exact .inl z
   .rcases qj.mp z with z|z
    .exact absurd z h
    .exact .inr z
 .rcases qj.mp hb with hb|hb
  .subst hb;exact na (.inl z)
  .exact r.nt b hb z
 .have q:=r.cell n b c h1 h2
  cases c with
  |lst ds=>obtain⟨xs,e,rr⟩:=q;exact⟨xs,k _ _ e,rr.step s1⟩
  |dct ds=>obtain⟨xs,e,rr⟩:=q;exact⟨xs,k _ _ e,rr.step s1⟩
  |tab ds=>obtain⟨xs,e,rr⟩:=q;exact⟨xs,k _ _ e,rr.step s1⟩
 .cases h:H b with
  |none=>exact eb h
  |some o=>rw[k b o h]at z;cases z
theorem StR.Zi(r:StR K M S H){a:qb}{ys:Wp V}(ha:a∈M.tmp):StR K M S (upd H a (.lst ys))/\Sp1 M H M (upd H a (.lst ys)):=by
 have s1:Sp1 M H M (upd H a (.lst ys)):=⟨r.mo,tF,λb z=>.inl z,λb o eb nb=>by rw[AX (λz=>nb (by rw[z];exact .inr ha))];exact eb⟩
 refine⟨⟨λb z=>?_,r.nd,r.nt,r.len,λn b c h1 h2=>?_⟩,s1⟩
 .by_cases h:b=a
  .subst h;exact .inl ⟨ys,Au⟩
  .rw[AX h];exact r.mo b z
 .have hb:b≠a:=λz=>r.nt a ha (by rw[<-z];exact qx h1)
  have q:=r.cell n b c h1 h2
  cases c with
  |lst ds=>obtain⟨xs,e,rr⟩:=q;exact⟨xs,by rw[AX hb];exact e,rr.step s1⟩
  |dct ds=>obtain⟨xs,e,rr⟩:=q;exact⟨xs,by rw[AX hb];exact e,rr.step s1⟩
  |tab ds=>obtain⟨xs,e,rr⟩:=q;exact⟨xs,by rw[AX hb];exact e,rr.step s1⟩
theorem StR.Zg{c:Wp qb}{t:Wp qb}{a:qb}{xs:Wp V}{ds:Wp D}{cf:rR}{d:D}{S':Sto}(r:StR K ⟨c,a::t⟩ S H)(nt:a∉t)(e:H a=Gc (.lst xs))(rr:Af K ⟨c,a::t⟩ H xs ds)(ef:fin cf (.own ds) S=Gc (d,S')):∃c',StR K ⟨c',t⟩ S' H/\Bi K ⟨c',t⟩ H (.ref a) d/\c <+: c'/\(∀b∈c',b∈c\/b=a):=by
 have nc:a∉c:=r.nt a qp
 cases cf with
 |false=>
  cases ef
  have s1:Sp1 ⟨c,a::t⟩ H ⟨c,t⟩ H:=⟨r.mo,tF,λb z=>.inl (z.imp id (qi _)),λ_ _ e _=>e⟩
  refine⟨c,⟨λb z=>r.mo b (z.imp id (qi _)),r.nd,λb hb=>r.nt b (qi _ hb),r.len,λn b cl h1 h2=>?_⟩,.lst e (λz=>z.elim nc nt) (rr.step s1),tF,λb z=>.inl z⟩
  have q:=r.cell n b cl h1 h2
  cases cl with
  |lst ds=>obtain⟨xs,e,rr⟩:=q;exact⟨xs,e,rr.step s1⟩
  |dct ds=>obtain⟨xs,e,rr⟩:=q;exact⟨xs,e,rr.step s1⟩
  |tab ds=>obtain⟨xs,e,rr⟩:=q;exact⟨xs,e,rr.step s1⟩
 |true=>
  cases ef
  have s1:Sp1 ⟨c,a::t⟩ H ⟨c++[a],t⟩ H:=⟨r.mo,vk _ _,λb z=>by
   rcases z with z|z
   .rcases rC.mp z with z|z
    .exact .inl (.inl z)
    .exact .inl (.inr (by rw[q8.mp z];exact qp))
   .exact .inl (.inr (qi _ z)),λ_ _ e _=>e⟩
  have hl:c.length=S.length:=r.len
  refine⟨c++[a],⟨λb z=>?_,?_,λb hb z=>?_,by simp[hl],λn b cl h1 h2=>?_⟩,.ref ?_,vk _ _,λb z=>?_⟩
  .refine r.mo b ?_
   rcases z with z|z
   .rcases rC.mp z with z|z
    .exact .inl z
    .exact .inr (by rw[q8.mp z];exact qp)
   .exact .inr (qi _ z)
  .rw[vQ]
   refine⟨r.nd,by simp,λx hx y hy z=>?_⟩
   simp at hy;subst hy
   exact nc (by rw[<-z];exact hx)
  .rcases rC.mp z with z|z
   .exact r.nt b (qi _ hb) z
   .rw[q8.mp z]at hb;exact nt hb
  .by_cases h:n<S.length
   .rw[qZ (by rw[hl];exact h)]at h1
    rw[qZ h]at h2
    have q:=r.cell n b cl h1 h2
    cases cl with
    |lst ds=>obtain⟨xs,e,rr⟩:=q;exact⟨xs,e,rr.step s1⟩
    |dct ds=>obtain⟨xs,e,rr⟩:=q;exact⟨xs,e,rr.step s1⟩
    |tab ds=>obtain⟨xs,e,rr⟩:=q;exact⟨xs,e,rr.step s1⟩
   .have hm:n=S.length:=by
     have:=(qe.mp h2).1
     simp at this;lia
    subst hm
    rw[rL (by rw[hl];exact qg _)]at h1
    rw[rL (qg _)]at h2
    rw[hl]at h1
    simp at h1 h2
    subst h1 h2
    exact⟨xs,e,rr.step s1⟩
  .rw[<-hl];exact qm
  .rcases rC.mp z with z|z
   .exact .inl z
   .exact .inr (q8.mp z)
end
open Classical in
def Bs(gs:Gd)(t:Tf)(c:Ev)(f:Ev):Wp D->Wp D->En->Sto->qY (Wp D×Sto)
 | [],acc,_,S=>if gOk gs S then Gc (acc,S)else none
 |d::ds,acc,E,S=>if gOk gs S then(if acc.length<sizeLine then(t d E S).bind λE1=>(c E1 S).bind λr=>match r.1 with
   | .bl true=>(f E1 r.2).bind λp=>Bs gs t c f ds (acc++[p.1]) E1 p.2
   | .bl false=>Bs gs t c f ds acc E1 r.2
   |_=>none
  else none)else none
noncomputable def By:Ev:=λ_ S=>Gc (.bl true,S)
noncomputable def QH(cap:Wp Nat)(m:Nat)(E:En):En:=cap.map (at? E)++qz m none
def L8(cf:rR)(cap:Wp Nat)(m:Nat)(s:Sr)(t:Tf)(c:Ev)(f:Ev):Ev:=λE S=>(s E S).bind λr=>(Bs r.1.2 t c f r.1.1 [] (QH cap m E) r.2).bind λq=>fin cf (.own q.1) q.2
noncomputable abbrev CF:=L8 false
noncomputable abbrev Jc:=L8 true
noncomputable def ixC(cap:Wp Nat)(m:Nat):Wp (qY Nat):=cap.map Gc++qz m none
theorem EnR.cap{K:qS}{M:Ms}{E:En}{σ:Sg}{H:Hp}(r:EnR K M E σ H)(cap:Wp Nat)(m:Nat):EnR K M (QH cap m E) (sig (ixC cap m) σ) H:=by
 unfold QH sig ixC
 refine⟨by simp,λi d e=>?_⟩
 have h1:=Uk e
 rw[ql]at h1
 cases e1:cap[i]? with
 |none=>rw[e1]at h1;cases h1
 |some j=>
  rw[e1]at h1
  have h2:at? E j=Gc d:=by simpa using h1
  obtain⟨v,hv,rd⟩:=r.val j d (at?_some h2)
  refine⟨v,?_,rd⟩
  have hi:i<cap.length:=(qe.mp e1).1
  rw[tU,qZ (by simpa using hi),ql,ql,e1]
  show Gc ((σ[j]?).join)=Gc (Gc v)
  rw[hv]
  rfl
theorem UO{K:qS}{cf:rR}{cap:Wp Nat}{m:Nat}{s:Sr}{t:Tf}{c f:Ev}{σ:Sg}{H:Hp}{Q:VK}(h:tD K (L8 cf cap m s t c f) σ H Q):Z7 (ixC cap m) (tI K s) (tG K t) (tDT K c) (tD K f) σ H Q:=by
 obtain⟨M,E,S,d,S',e,r,st,q⟩:=h
 obtain⟨⟨⟨ds,gs⟩,S1⟩,e1,e⟩:=Ae e
 obtain⟨⟨accf,Sf⟩,e3,e⟩:=Ae e
 dsimp only at e e3
 refine⟨M,E,S,ds,gs,S1,e1,r,st,λJ H1 M1 g1 st1 it A0 hD=>?_⟩
 obtain⟨st0,gx0,s0⟩:=st1.dR hD
 have nt:A0∉M1.tmp:=λz=>st1.mo.some (.inr z) hD
 refine⟨λi mm σ' H' ys=>mm=ds.length-i/\∃Ei Si Mi acc,Bs gs t c f (ds.drop i) acc Ei Si=Gc (accf,Sf)/\GrX M1 H1 Mi H'/\Mi.tmp=A0::M1.tmp/\EnR K Mi Ei σ' H'/\StR K Mi Si H'/\H' A0=Gc (.lst ys)/\Af K Mi H' ys acc,
  ⟨_,rfl,_,S1,_,[],e3,gx0,rfl,((r.step g1.st).step s0).cap cap m,st0,Au,.nil⟩,λi mm σ2 H2 ys hW=>?_⟩
 obtain⟨rfl,Ei,Si,Mi,acc,ec,gx,ht,r2,st2,hy,ry⟩:=hW
 have sp:Sp1 M1 H1 Mi H2:=⟨st1.mo,gx.pre,λa z=>by
  rcases z with z|z
  .exact(gx.fresh a z).imp .inl id
  .rw[ht]at z
   rcases qj.mp z with z|z
   .subst z;exact .inr hD
   .exact .inl (.inr z),λa o eo no=>gx.keep a o eo λz=>no (.inl z)⟩
 refine⟨hy,?_⟩
 cases ed:ds.drop i with
 |nil=>
  rw[ed]at ec
  unfold Bs at ec
  split at ec
  .rename_i ok
   cases ec
   left
   obtain⟨ci,ti⟩:=Mi
   have ht':ti=A0::M1.tmp:=ht
   subst ht'
   obtain⟨c',st',rd',pr',sub'⟩:=st2.Zg nt hy ry e
   refine⟨it.stop i H2 _ _ sp st2 ok (zq.mp ed),q _ _ ⟨c',M1.tmp⟩ (g1.trans ⟨st1.mo,gx.pre.trans pr',rfl,λa z=>?_,gx.keep,gx.some⟩) st' rd'⟩
   rcases sub' a z with z|z
   .exact gx.fresh a z
   .subst z;exact .inr hD
  .cases ec
 |cons d rest=>
  obtain⟨d1,d2,d3⟩:=OS ed
  rw[ed]at ec
  unfold Bs at ec
  split at ec
  .rename_i ok
   split at ec
   .rename_i hz
    obtain⟨E3,e4,ec⟩:=Ae ec
    obtain⟨⟨w5,S5⟩,e5,ec⟩:=Ae ec
    right
    refine⟨it.go i H2 Mi Si sp st2 ok d3,by rw[ry.length];exact hz,λx H3 hyl=>?_⟩
    obtain⟨k3,rx⟩:=it.yld i H2 Mi Si x H3 d sp st2 ok d1 hyl
    have g3:Gr Mi H2 Mi H3:=.grow st2.mo k3
    have st3:=st2.grow k3
    refine⟨Mi,d,Ei,E3,Si,e4,r2.step g3.st,st3,rx,λσ4 r4=>?_⟩
    have hA:A0∈Mi.tmp:=by rw[ht];exact qp
    have hy3:H3 A0=Gc (.lst ys):=k3 _ _ hy
    have ry3:Af K Mi H3 ys acc:=ry.step g3.st
    have fin:∀{E6:En} {S6:Sto} {M6:Ms} {H6:Hp} {zs:Wp V} {acc6:Wp D},Bs gs t c f rest acc6 E6 S6=Gc (accf,Sf)->GrX M1 H1 M6 H6->M6.tmp=A0::M1.tmp->EnR K M6 E6 σ4 H6->StR K M6 S6 H6->H6 A0=Gc (.lst zs)->Af K M6 H6 zs acc6->
      ∃m',m'<ds.length-i/\(m'=ds.length-(i+1)/\∃Ei Si Mi acc,Bs gs t c f (ds.drop (i+1)) acc Ei Si=Gc (accf,Sf)/\GrX M1 H1 Mi H6/\Mi.tmp=A0::M1.tmp/\EnR K Mi Ei σ4 H6/\StR K Mi Si H6/\H6 A0=Gc (.lst zs)/\Af K Mi H6 zs acc):=
     λ{E6 S6 M6 H6 zs acc6} ec g6 t6 r6 st6 h6 y6=>⟨_,by lia,rfl,E6,S6,M6,acc6,by rw[d2];exact ec,g6,t6,r6,st6,h6,y6⟩
    dsimp only at ec
    split at ec
    .obtain⟨⟨w7,S7⟩,e7,ec⟩:=Ae ec
     refine⟨Mi,E3,Si,true,S5,e5,r4,st3,λH5 M5 g5 st5=>?_⟩
     refine aP ?_
     refine⟨M5,E3,S5,w7,S7,e7,r4.step g5.st,st5,λy H7 M7 g7 st7 d7=>?_⟩
     have nA:∀{M6:Ms} {H6:Hp} {S6:Sto},StR K M6 S6 H6->A0∈M6.tmp->A0∉M6.cel:=λr6 h6=>r6.nt A0 h6
     have hA5:A0∈M5.tmp:=by rw[g5.tmp];exact hA
     have hA7:A0∈M7.tmp:=by rw[g7.tmp];exact hA5
     have hy5:H5 A0=Gc (.lst ys):=g5.keep _ _ hy3 (nA st3 hA)
     have hy7:H7 A0=Gc (.lst ys):=g7.keep _ _ hy5 (nA st5 hA5)
     have ry7:Af K M7 H7 ys acc:=(ry3.step g5.st).step g7.st
     refine⟨hy7,?_⟩
     obtain⟨st8,s8⟩:=st7.Zi (ys:=ys++[y]) hA7
     have gx7:GrX M1 H1 M7 H7:=((gx.trans g3.x).trans g5.x).trans g7.x
     have gx8:GrX M1 H1 M7 (upd H7 A0 (.lst (ys++[y]))):=⟨gx7.pre,gx7.fresh,λa o eo no=>by
      rw[AX (λz=>by subst z;rw[hD]at eo;cases eo)]
      exact gx7.keep a o eo no,λa ea=>by
      by_cases h:a=A0
      .subst h;rw[Au];intro z;cases z
      .rw[AX h];exact gx7.some a ea⟩
     exact fin ec gx8 (by rw[g7.tmp,g5.tmp];exact ht) (((r4.step g5.st).step g7.st).step s8) st8 Au ((ry7.append (.cons d7 .nil)).step s8)
    .refine⟨Mi,E3,Si,false,S5,e5,r4,st3,λH5 M5 g5 st5=>?_⟩
     refine Z0 ?_
     exact fin ec ((gx.trans g3.x).trans g5.x) (by rw[g5.tmp];exact ht) (r4.step g5.st) st5 (g5.keep _ _ hy3 (st3.nt A0 hA)) (ry3.step g5.st)
    .cases ec
   .cases ec
  .cases ec
structure DTs(X:Cx)(ifs:Wp rJ)(c:Ev):Prop where
 pe:PTs X ifs (tDT X.K c)
theorem WD{X:Cx}{e:Wp rJ}{t t':TT}(h:PTs X e t)(m:∀σ H Q,t' σ H Q->t σ H Q):PTs X e t':=λpins s σ H Q I q=>h pins s σ H Q I (m _ _ _ q)
theorem Mx{X:Cx}:DTs X [] By:=⟨WD Y4 λσ H Q z=>by
 obtain⟨M,E,S,b,S',e,r,st,q⟩:=z
 cases e
 exact q _ M (.refl st.mo) st⟩
theorem aC{X:Cx}{c:rJ}{f:Ev}(h:DT X c f):DTs X [c] f:=⟨ZQ h.pe⟩
section
variable{X:Cx}{N':Wp Str}{cf:rR}{cap:Wp Nat}{m:Nat}{scope:uz}{elt tg iter:rJ}{ifs:Wp rJ}{pos:Pos}{s:Sr}{t:Tf}{c f:Ev}
def Blk(X:Cx)(N':Wp Str)(scope:uz)(tg:rJ)(ifs:Wp rJ)(elt:rJ)(t:Tf)(c f:Ev):Prop:=
 ∀(s:qX) (H:Hp) (fp:Wp qb),DG (HU X N' scope s H fp) tg t/\DTs (HU X N' scope s H fp) ifs c/\DE (HU X N' scope s H fp) elt f
theorem Po(cap:Wp Nat)(m:Nat)(N':Wp Str)(hc:X.calm=true)(S:AS X.N X.env.scope N' (ixC cap m) scope)(hi:DI X tg iter s)(hb:Blk X N' scope tg ifs elt t c f)(hs:∀x,foldedSetIterable iter X.env x=pure x:=by intro _;rfl):DE X (.ListComp elt [⟨tg,iter,ifs,0⟩] scope pos) (L8 cf cap m s t c f):=⟨
 A7 (Y1 (g:=tG X.K t) (tc:=tDT X.K c) (te:=tD X.K f) hc S hi.pe (λs H fp=>⟨(hb s H fp).1.pe,(hb s H fp).2.1.pe,(hb s H fp).2.2.pe⟩) hs) λ_ _ _ h=>UO h⟩
theorem MG{i:Nat}{y:Str}{py spos:Pos}(cap:Wp Nat)(m:Nat)(N':Wp Str)(hc:X.calm=true)(hN:X.N.Nodup)(hi':X.N[i]?=Gc y)(hx:X.env.scope.names.lookup y=Gc .local)(S:AS X.N X.env.scope N' (ixC cap m) scope)(hi:DI X tg iter s)(hb:Blk X N' scope tg ifs elt t c f)(hsw:swapsWith (.ListComp elt [⟨tg,iter,ifs,0⟩] scope pos) (Gc (.Name y py)) spos.line X.env=pure true:=by rfl)(hs:∀x,foldedSetIterable iter X.env x=pure x:=by intro _;rfl):DS X (.Assign [.Name y py] (.ListComp elt [⟨tg,iter,ifs,0⟩] scope pos) spos) (BC i (L8 cf cap m s t c f)):=⟨
 Eu (SV (g:=tG X.K t) (tc:=tDT X.K c) (te:=tD X.K f) hc hN hi' hx S hi.pe (λs H fp=>⟨(hb s H fp).1.pe,(hb s H fp).2.1.pe,(hb s H fp).2.2.pe⟩) hsw hs) λDn σ H z=>by
  obtain⟨M,E,S,fl,E',S',e,r,st,q⟩:=z
  obtain⟨⟨d,S1⟩,e1,e⟩:=Hl e
  cases e
  exact UO ⟨M,E,S,d,S1,e1,r,st,λv H1 M1 g1 st1 r1=>q _ _ M1 g1 ((r.step g1.st).put r1) st1⟩⟩
end
noncomputable def Lc{α:Type}(xs:Wp α)(lo hi:qY Int):Wp α:=(xs.drop (HT.sIx xs.length 0 lo)).take (HT.sIx xs.length xs.length hi-HT.sIx xs.length 0 lo)
theorem V0{K:qS}{M:Ms}{H:Hp}{xs:Wp V}{ds:Wp D}(h:Af K M H xs ds)(lo hi:qY Int):Af K M H (YU xs lo hi) (Lc ds lo hi):=by
 unfold YU Lc
 rw[h.length]
 exact(h.drop _).take _
theorem VI{α:Type}{xs:Wp α}{lo hi:qY Int}(h1:HT.sIx xs.length 0 lo=0)(h2:HT.sIx xs.length xs.length hi=xs.length):Lc xs lo hi=xs:=by
 unfold Lc
 rw[h1,h2]
 simp
noncomputable def wSl(lo hi:qY Int):Op1:=λw=>match w with
 | .val (.tup ds)=>Gc (.val (.tup (Lc ds lo hi)))
 | .val (.str z)=>if z.length<=sizeLine then Gc (.val (.str (Txt.slice z lo hi)))else none
 |w=>(asL w).map λds=>.own (Lc ds lo hi)
def pH(K:qS):V->qY Int->qY Int->Hp->VK->Prop:=λx lo hi H Q=>∃M w r,wSl lo hi w=Gc r/\MOk M H/\Sh K M H x w/\∀v H',Nw K M H H' v r->Q v H'
theorem eS{X:Cx}:SlR X (λx lo hi H Q=>∃z,x=.str z/\z.length<=sizeLine/\Q (.str (Txt.slice z lo hi)) H):=by
 intro pins s σ H x v vl vu lo hi sl Q I rx hs pl pu h
 obtain⟨z,rfl,hz,q⟩:=h
 obtain⟨t,rfl⟩:=rx
 have fin:∀t' k,EP X pins σ Q (.str (Txt.slice z lo hi) t') {s with toks:=k}:=λt' k=>⟨.str _,H,I.tok k,⟨t',rfl⟩,q⟩
 cases pl with
 |none=>
  cases pu with
  |none=>exact⟨"str",_,vV.lookup,zB _ _ _,vZ (l:=none) (u:=none) (st:=none) hs rfl (xk ⟨qh (zE z _ _) hz,fin⟩)⟩
  |int j u=>exact⟨"str",_,vV.lookup,zB _ _ _,vZ (l:=none) (u:=Gc (j,u)) (st:=none) hs rfl (xk ⟨qh (zE z _ _) hz,fin⟩)⟩
 |int i u'=>
  cases pu with
  |none=>exact⟨"str",_,vV.lookup,zB _ _ _,vZ (l:=Gc (i,u')) (u:=none) (st:=none) hs rfl (xk ⟨qh (zE z _ _) hz,fin⟩)⟩
  |int j u=>exact⟨"str",_,vV.lookup,zB _ _ _,vZ (l:=Gc (i,u')) (u:=Gc (j,u)) (st:=none) hs rfl (xk ⟨qh (zE z _ _) hz,fin⟩)⟩
theorem kX{X:Cx}:SlR X (pH X.K):=by
 intro pins s σ H x v vl vu lo hi sl Q I rx hs pl pu h
 obtain⟨M,w,r,e,mo,sh,q⟩:=h
 unfold wSl at e
 split at e
 .rename_i ds
  cases e
  cases sh with
  |tup hx rr=>
   rename_i a xs
   have hl:=rr.length
   by_cases hw:HT.sIx xs.length 0 lo=0/\HT.sIx xs.length xs.length hi=xs.length
   .refine St.fX pins s σ H _ v vl vu lo hi sl Q I rx hs pl pu ⟨a,xs,rfl,hx,hw.1,hw.2,?_⟩
    have ew:Lc ds lo hi=ds:=VI (by rw[<-hl];exact hw.1) (by rw[<-hl];exact hw.2)
    rw[ew]at q
    exact q _ _ (.same mo (.tup hx rr))
   .exact cA pins s σ H _ v vl vu lo hi sl Q I rx hs pl pu ⟨a,xs,rfl,hx,hw,λp hp=>q _ _ (.tup mo hp (V0 rr lo hi))⟩
 .split at e
  .cases e
   cases sh
   exact eS pins s σ H _ v vl vu lo hi sl Q I rx hs pl pu ⟨_,rfl,by assumption,q _ _ (.same mo (.str _))⟩
  .cases e
 .cases e1:asL w with
  |none=>rw[e1]at e;cases e
  |some ds=>
   rw[e1]at e
   cases e
   obtain⟨a,xs,rfl,h1,rr⟩:=sh.l e1
   exact Zq pins s σ H _ v vl vu lo hi sl Q I rx hs pl pu ⟨a,xs,rfl,.of h1,λp hp=>q _ _ (.lst mo hp (V0 rr lo hi))⟩
noncomputable def bJ:Wv->qY Int
 | .val (.int i)=>Gc i
 |_=>none
noncomputable def Ln(l h:rR):OpN:=λws=>match l,h,ws with
 |false,false,[a]=>wSl none none a
 |true,false,[a,b]=>(bJ b).bind λi=>wSl (Gc i) none a
 |false,true,[a,b]=>(bJ b).bind λi=>wSl none (Gc i) a
 |true,true,[a,b,c]=>(bJ b).bind λi=>(bJ c).bind λj=>wSl (Gc i) (Gc j) a
 |_,_,_=>none
theorem Vr{K:qS}{M:Ms}{H:Hp}{v:V}{w:Wv}{i:Int}(s:Sh K M H v w)(e:bJ w=Gc i):v=.int i:=by
 cases w with
 |own ds=>cases e
 |val d=>
  cases d<;>first|(cases e;done)|skip
  cases e;cases s;rfl
section
variable{X:Cx}{e lo hi:rJ}{oe ol oh:Ev}{c:rR}{pos p2:Pos}
theorem aG(h:DE X e oe)(hl:DE X lo ol):DE X (.Subscript e (.Slice (Gc lo) none none p2) pos) (Nn c (Ln true false) [oe,ol]):=⟨A7 (Nm kX h.pe (Mv hl.pe) TM) λσ H Q z=>by
 obtain⟨M0,E,S0,w,S1,e,r,st,q⟩:=z
 have z:tD X.K oe σ H λx H1=>tD X.K ol σ H1 λy H2=>rN X.K (Ln true false) [x,y] H2 Q:=Kj (Q:=Q) e r st q
 refine Hx z λx H1 z1=>Hx z1 λy H2 z2=>?_
 obtain⟨M,ws,w',e1,mo,sh,q1⟩:=z2
 cases sh with
 |cons h1 t=>
  cases t with
  |cons h2 t=>
   cases t
   obtain⟨i,ei,e1⟩:=Ae e1
   exact⟨i,Vr h2 ei,M,_,w',e1,mo,h1,q1⟩⟩
theorem kE(h:DE X e oe)(hh:DE X hi oh):DE X (.Subscript e (.Slice none (Gc hi) none p2) pos) (Nn c (Ln false true) [oe,oh]):=⟨A7 (Nm kX h.pe TM (Mv hh.pe)) λσ H Q z=>by
 obtain⟨M0,E,S0,w,S1,e,r,st,q⟩:=z
 have z:tD X.K oe σ H λx H1=>tD X.K oh σ H1 λy H2=>rN X.K (Ln false true) [x,y] H2 Q:=Kj (Q:=Q) e r st q
 refine Hx z λx H1 z1=>Hx z1 λy H2 z2=>?_
 obtain⟨M,ws,w',e1,mo,sh,q1⟩:=z2
 cases sh with
 |cons h1 t=>
  cases t with
  |cons h2 t=>
   cases t
   obtain⟨i,ei,e1⟩:=Ae e1
   exact⟨i,Vr h2 ei,M,_,w',e1,mo,h1,q1⟩⟩
theorem Ue{K:qS}{M:Ms}{H:Hp}{S:Sto}{v:V}{d:D}{i:Int}(r:Bi K M H v d)(e:bJ (dr S d)=Gc i):v=.int i:=by
 cases r<;>first|(cases e;done)|skip
 .cases e;rfl
 .rename_i n h
  unfold dr at e
  dsimp only at e
  split at e<;>cases e
theorem ZF(h:DE X e oe)(hl:DE X lo ol)(hh:DE X hi oh):DE X (.Subscript e (.Slice (Gc lo) (Gc hi) none p2) pos) (Nn c (Ln true true) [oe,ol,oh]):=⟨A7 (Nm kX h.pe (Mv hl.pe) (Mv hh.pe)) λσ H Q z=>by
 obtain⟨M0,E,S0,w,S1,e,r,st,q⟩:=z
 obtain⟨⟨ds,S2⟩,e1,e⟩:=Ae e
 obtain⟨w2,e2,e⟩:=Ae e
 obtain⟨⟨d1,Sa⟩,ea,e1⟩:=Ae e1
 obtain⟨⟨ds1,Sb⟩,eb,e1⟩:=Hl e1
 cases e1
 obtain⟨⟨d2,Sc⟩,ec,eb⟩:=Ae eb
 obtain⟨⟨ds2,Sd⟩,ed,eb⟩:=Hl eb
 cases eb
 obtain⟨⟨d3,Se⟩,ee,ed⟩:=Ae ed
 obtain⟨⟨ds3,Sf⟩,ef,ed⟩:=Hl ed
 cases ed
 cases ef
 obtain⟨i,ei,e2⟩:=Ae e2
 obtain⟨j,ej,e2⟩:=Ae e2
 refine⟨M0,E,S0,d1,Sa,ea,r,st,λx H1 M1 g1 st1 r1=>?_⟩
 refine⟨M1,E,Sa,d2,Sc,ec,r.step g1.st,st1,λy H2 M2 g2 st2 r2=>⟨i,?_,?_⟩⟩
 .exact Ue r2 ei
 refine⟨M2,E,Sc,d3,Se,ee,(r.step g1.st).step g2.st,st2,λu H3 M3 g3 st3 r3=>⟨j,?_,?_⟩⟩
 .exact Ue r3 ej
 refine⟨M3,_,w2,e2,st3.mo,af st3 ((r1.step g2.st).step g3.st),λv H4 n=>?_⟩
 obtain⟨M4,g4,st4,d4⟩:=n.fin st3 e
 exact q v H4 M4 (((g1.trans g2).trans g3).trans g4) st4 d4⟩
structure SW(K:qS)(mg:Str->qY qT)(x:Str)(d:D):Prop where
 ex:∃v u,mg x=Gc u/\RelV v u/\∀M H,Bi K M H v d
theorem jT{x:Str}{d:D}(c:SW X.K X.mg x d)(hg:Gl X x)(hd:(x==("__debug__":Str))=false:=by decide):DE X (.Name x pos) (eC d):=⟨by
 obtain⟨v,u,h1,h2,h3⟩:=c.ex
 exact A7 (ZN hg h1 h2 hd) λσ H Q z=>by
  obtain⟨M0,E,S0,w,S1,e,rr,st,q⟩:=z
  cases e
  exact q _ _ M0 (.refl st.mo) st (h3 _ _)⟩
theorem oN{x:Str}{T:uO}(hg:Gl X x)(hm:X.mg x=none)(hv:bootBuiltins x=Gc (.type T))(hn:x≠ "__name__":=by decide)(hd:(x==("__debug__":Str))=false:=by decide):DE X (.Name x pos) (eC (.ty T)):=
 Oo (aL (v:=.ty T) hg hm hv rfl hn hd) λ_ _ _=>.ty T
structure pq(K:qS)(w:rX)(mg:Str->qY qT)(x:Str)(tbl:Wp (Str×D)):Prop where
 ex:∃a kvs,mg x=Gc (.ref a)/\TopD K w a kvs/\∀k,(tbl.lookup k=none->kvs.lookup k=none)/\∀d,tbl.lookup k=Gc d->∃v,kvs.lookup k=Gc v/\∀M H,Bi K M H v d
end
noncomputable def JD:Nat->Wp D->Wp D
 |_,[]=>[]
 |k,d::ds=>.tup [.int k,d]::JD (k+1) ds
theorem KZ:∀{ds:Wp D} {k i:Nat},(JD k ds)[i]?=(ds[i]?).map λd=>.tup [.int ((k+i:Nat):Int),d]
 | [],k,i=>by simp[JD]
 |d::ds,k,0=>by simp[JD]
 |d::ds,k,i+1=>by
  simp only[JD,List.getElem?_cons_succ]
  rw[KZ,show k+1+i=k+(i+1) by lia]
theorem Ng:∀{ds:Wp D} {k:Nat},(JD k ds).length=ds.length
 | [],k=>rfl
 |d::ds,k=>by simp[JD,Ng (ds:=ds)]
theorem SqF.sqB{K:qS}{M:Ms}{H:Hp}{gs:Gd}{k:rR}{a:qb}{ds:Wp D}(h:SqF K M H gs k a ds){H2:Hp}{M2:Ms}{S2:Sto}(g:Sp1 M H M2 H2)(st:StR K M2 S2 H2)(ok:gOk gs S2):∃xs,SqB K H2 k a xs/\Af K M2 H2 xs ds:=by
 obtain⟨xs,h1,h2⟩:=h.keep H2 M2 S2 g st ok
 refine⟨xs,?_,h2⟩
 cases k with
 |true=>exact h1
 |false=>exact h1
theorem fY{K:qS}{M:Ms}{H:Hp}{gs:Gd}{k:rR}{a:qb}{ds:Wp D}(h:SqF K M H gs k a ds):cx K M H gs (JD 0 ds) (ItE K k a) where
 go:=λi H2 M2 S2 g st ok hi=>by
  rw[Ng]at hi
  obtain⟨xs,h1,h2⟩:=h.sqB g st ok
  obtain⟨x,hx⟩:=h2.get' hi
  exact⟨xs,x,h1,hx⟩
 stop:=λi H2 M2 S2 g st ok hi=>by
  rw[Ng]at hi
  obtain⟨xs,h1,h2⟩:=h.sqB g st ok
  exact⟨xs,h1,by have:=h2.length;lia⟩
 yld:=λi H2 M2 S2 x H3 d g st ok hd hy=>by
  obtain⟨xs,h1,h2⟩:=h.sqB g st ok
  obtain⟨p,y,hp,rfl,hy,rfl⟩:=hy
  have hx:=hy xs h1
  rw[KZ]at hd
  obtain⟨d0,e,hd⟩:=Hl hd
  subst hd
  obtain⟨x',h3,h4⟩:=h2.get e
  rw[hx]at h3;cases h3
  have k3:=GZ (o:=.tup [.int i,y]) hp
  refine⟨k3,.tup (.of Au) (.cons ?_ (.cons (h4.step (Gr.grow st.mo k3).st) .nil))⟩
  rw[w9]
  exact .int _
noncomputable def Qd(f:Ev):Sr:=λE S=>(f E S).bind λr=>(sqD r.2 r.1).map λp=>((JD 0 p.1,p.2),r.2)
theorem YQ{X:Cx}{a:rJ}{f:Ev}{p pos tp:Pos}{elts:Wp rJ}{k:Nat}(hg:Gl X "enumerate")(hm:X.mg "enumerate"=none)(ha:DE X a f)(hs:rB [a] X.env=[(false,eval a X.env)]:=by rfl):DI X (.Tuple elts k tp) (.Call (.Name "enumerate" p) [a] [] pos) (Qd f):=⟨
 Mf (Wj hg hm (Mq ha.pe VB (by rw[hs];rfl)) hs) λσ H R z=>by
  obtain⟨M,E,S,ds,gs,S',e,r,st,q⟩:=z
  obtain⟨⟨d,S1⟩,e1,e⟩:=Ae e
  obtain⟨⟨ds',gs'⟩,e2,e⟩:=Hl e
  cases e
  refine⟨M,E,S,d,S1,e1,r,st,λv H1 M1 g1 st1 r1=>?_⟩
  obtain⟨k,a,rfl,sq⟩:=Qf st1 r1 e2
  obtain⟨xs,hs,_⟩:=sq.sqB (Gr.refl st1.mo).st st1 (Mm e2)
  exact⟨k,a,rfl,⟨xs,hs⟩,q _ _ M1 g1 st1 (fY sq)⟩⟩
noncomputable def Lh(ds es:Wp D):Wp D:=(ds.zip es).map λp=>.tup [p.1,p.2]
theorem X4{ds es:Wp D}{i:Nat}{d:D}(h:(Lh ds es)[i]?=Gc d):∃x y,ds[i]?=Gc x/\es[i]?=Gc y/\d=.tup [x,y]:=by
 unfold Lh at h
 simp only[ql,Option.map_eq_some_iff]at h
 obtain⟨⟨x,y⟩,h1,h2⟩:=h
 rw[yN]at h1
 exact⟨x,y,h1.1,h1.2,h2.symm⟩
theorem KQ{ds es:Wp D}:(Lh ds es).length=min ds.length es.length:=by simp[Lh]
theorem SqF.more{K:qS}{M:Ms}{H:Hp}{gs gs':Gd}{k:rR}{a:qb}{ds:Wp D}(h:SqF K M H gs k a ds)(s:∀g∈gs,g∈gs'):SqF K M H gs' k a ds:=⟨λH2 M2 S2 g st ok=>h.keep H2 M2 S2 g st λx hx=>ok x (s x hx)⟩
theorem cB{K:qS}{M:Ms}{H:Hp}{gs:Gd}{k m:rR}{a b:qb}{ds es:Wp D}(h:SqF K M H gs k a ds)(h':SqF K M H gs m b es):cx K M H gs (Lh ds es) (Itz K k a m b) where
 go:=λi H2 M2 S2 g st ok hi=>by
  rw[KQ]at hi
  obtain⟨xs,h1,r⟩:=h.sqB g st ok
  obtain⟨ys,h2,r'⟩:=h'.sqB g st ok
  obtain⟨x,hx⟩:=r.get' (show i<ds.length by lia)
  obtain⟨y,hy⟩:=r'.get' (show i<es.length by lia)
  exact⟨xs,ys,x,y,h1,h2,hx,hy⟩
 stop:=λi H2 M2 S2 g st ok hi=>by
  rw[KQ]at hi
  obtain⟨xs,h1,r⟩:=h.sqB g st ok
  obtain⟨ys,h2,r'⟩:=h'.sqB g st ok
  have:=r.length
  have:=r'.length
  exact⟨xs,ys,h1,h2,by lia⟩
 yld:=λi H2 M2 S2 x H3 d g st ok hd hy=>by
  obtain⟨xs,h1,r⟩:=h.sqB g st ok
  obtain⟨ys,h2,r'⟩:=h'.sqB g st ok
  obtain⟨p,x1,y1,hp,rfl,q1,q2,rfl⟩:=hy
  obtain⟨d1,d2,e1,e2,rfl⟩:=X4 hd
  have hx:=q1 xs h1
  have hy:=q2 ys h2
  obtain⟨x',h3,h4⟩:=r.get e1
  obtain⟨y',h5,h6⟩:=r'.get e2
  rw[hx]at h3;cases h3
  rw[hy]at h5;cases h5
  have k3:=GZ (o:=.tup [x1,y1]) hp
  exact⟨k3,.tup (.of Au) (.cons (h4.step (Gr.grow st.mo k3).st) (.cons (h6.step (Gr.grow st.mo k3).st) .nil))⟩
noncomputable def Z2(f g:Ev):Sr:=λE S=>(evs [f,g] E S).bind λr=>match r.1 with
 | [d,e]=>(sqD r.2 d).bind λp=>(sqD r.2 e).map λq=>((Lh p.1 q.1,p.2++q.2),r.2)
 |_=>none
theorem mC{X:Cx}{a b:rJ}{f g:Ev}{p pos tp:Pos}{elts:Wp rJ}{k:Nat}(hg:Gl X "zip")(hm:X.mg "zip"=none)(ha:DE X a f)(hb:DE X b g)(hs:rB [a,b] X.env=[(false,eval a X.env),(false,eval b X.env)]:=by rfl)(hs2:rB [b] X.env=[(false,eval b X.env)]:=by rfl):DI X (.Tuple elts k tp) (.Call (.Name "zip" p) [a,b] [] pos) (Z2 f g):=⟨
 Mf (c8 hg hm (AF ha (AF hb AN hs2) (by rw[hs,hs2])).pe hs hs2) λσ H R z=>by
  obtain⟨M,E,S,ds,gs,S',e,r,st,q⟩:=z
  obtain⟨⟨ws,S1⟩,e1,e⟩:=Ae e
  refine FV (fs:=[f,g]) e1 r st λvs H1 M1 g1 st1 r1=>?_
  dsimp only at e
  split at e
  .obtain⟨⟨ds1,gs1⟩,eu,e⟩:=Ae e
   obtain⟨⟨ds2,gs2⟩,ee,e⟩:=Hl e
   cases e
   cases r1 with
   |cons h1 t=>
    cases t with
    |cons h2 t=>
     cases t
     obtain⟨k1,a1,rfl,s1⟩:=Qf st1 h1 eu
     obtain⟨k2,a2,rfl,s2⟩:=Qf st1 h2 ee
     obtain⟨xs,hxs,_⟩:=s1.sqB (Gr.refl st1.mo).st st1 (Mm eu)
     obtain⟨ys,hys,_⟩:=s2.sqB (Gr.refl st1.mo).st st1 (Mm ee)
     exact⟨_,_,_,_,rfl,⟨_,hxs⟩,⟨_,hys⟩,q _ _ M1 g1 st1 (cB (s1.more λx hx=>xU _ hx) (s2.more λx hx=>sJ _ hx))⟩
  .cases e⟩
noncomputable def intD:D->qY Int
 | .int i=>Gc i
 |_=>none
noncomputable def Gw(ds:Wp D):qY (Wp Int):=ds.mapM intD
theorem F0{K:qS}{M:Ms}{H:Hp}:∀{vs:Wp V} {ds:Wp D} {ns:Wp Int},Af K M H vs ds->Gw ds=Gc ns->vs=ns.map V.int
 |_,_,ns,.nil,e=>by cases e;rfl
 |_,_,ns,.cons (d:=d) (ds:=ds) h t,e=>by
  unfold Gw at e
  rw[yG]at e
  cases e1:intD d with
  |none=>rw[e1]at e;cases e
  |some b=>
   rw[e1]at e
   cases e2:ds.mapM intD with
   |none=>rw[e2]at e;cases e
   |some cs=>
    rw[e2]at e
    cases e
    have hd:d=.int b:=by
     cases d<;>first|(cases e1;done)|skip
     cases e1;rfl
    subst hd
    cases h
    rw[rD,<-F0 t e2]
theorem VR{X:Cx}(hc:X.calm=true):Cj X (.builtin "sum") (λxs H Q=>∃(p:qb) (ns:Wp Int),xs=[.ref p]/\SqL X.K H p (ns.map V.int)/\Q (.int ns.sum) H):=by
 intro pins s σ H xs us Q I r h
 obtain⟨p,ns,rfl,hp,q⟩:=h
 obtain⟨u,rfl,ru⟩:=r.one
 cases (show u=rY p from ru)
 obtain⟨its,rv,pl,hz⟩:=I.list hp
 have hd:X.A.in1.handled=none:=I.ok.hd hc
 refine call_sum_walkG (tJ pl.isList ?_)
 have hlen:ns.length=its.length:=by have:=rv.length;simpa using this
 have hpl:=pl.isList
 have hlt:p<s.heap.objs.size:=by
  obtain⟨o,ho,_⟩:=hpl
  exact qq ho
 refine⟨s.heap.objs.size,_,_,its.length,_,_,λi=>ns.getD i 0,rfl,St.MT (vs:=its) hd (qv hlt),⟨⟨_,qk _ rfl,rfl,rfl⟩,?_⟩,?_,?_,?_⟩
 .obtain⟨o,ho,r⟩:=hpl
  exact⟨o,qU _ ho,r⟩
 .intro b hb
  rw[rQ]
  simp at hb
  rcases hb with h|h
  .rw[h];exact uD _
  .rw[h];exact sQ hlt
 .intro i v hv
  have hi:i<its.length:=(qe.mp hv).1
  have hb:(ns.map V.int)[i]?=Gc (.int (ns.getD i 0)):=by
   rw[ql,qW (by lia)]
   simp[qV,qW (show i<ns.length by lia)]
  obtain⟨u,hu,ru⟩:=rv.get hb
  rw[hv]at hu
  cases hu
  exact ru
 .intro h' tk t' hk
  have e:preSum (λi=>ns.getD i 0) its.length=ns.sum:=by
   rw[<-hlen,St.LF (qg _),vh (qg _)]
  rw[e]
  exact⟨.int _,H,I.kept (t':=tk) λb o eb=>hk b o (by simp;exact qv (qq eb)) (qU _ eb),⟨_,rfl⟩,q⟩
noncomputable def Sw:Op1:=λw=>(asL w).bind λds=>(Gw ds).map λns=>.val (.int ns.sum)
theorem Tv{X:Cx}(hc:X.calm=true):Cj X (.builtin "sum") (rN X.K (o1 Sw)):=by
 intro pins s σ H xs us Q I r h
 obtain⟨M,ws,w,e,mo,sh,q⟩:=h
 obtain⟨v,w1,rfl,rfl,s1,e1⟩:=Fg sh e
 obtain⟨ds,e2,e1⟩:=Ae e1
 obtain⟨ns,e3,e1⟩:=Hl e1
 cases e1
 obtain⟨a,ys,rfl,h3,h4⟩:=s1.l e2
 exact VR hc pins s σ H _ us Q I r ⟨a,ns,rfl,by rw[<-F0 h4 e3];exact .of h3,q _ _ (.same mo (.int _))⟩
noncomputable def Fp(ns:Wp Int):Wp Int:=ns.mergeSort (λa b=>decide (a<=b))
theorem EW(ns:Wp Int):(Fp ns).Perm ns:=List.mergeSort_perm _ _
theorem MF(ns:Wp Int):(Fp ns).Pairwise (· <= ·):=by
 have:=List.pairwise_mergeSort (le:=λ(a b:Int)=>decide (a<=b)) (λa b c h1 h2=>by simp at *; lia) (λa b=>by simp;lia) ns
 unfold Fp
 exact this.imp λh=>qu h
theorem JZ{ns ms:Wp Int}(p:ms.Perm ns)(s:ms.Pairwise (· <= ·)):ms=Fp ns:=PySem.W.ksm_same (p.trans (EW ns).symm) s (MF ns)
theorem intsAre_of:∀{ns:Wp Int} {its:Wp qT},Vals (ns.map V.int) its->sX its ns
 | [],_,.nil=>.nil
 |n::ns,_,.cons h t=>by
  obtain⟨tk,rfl⟩:=h
  exact .cons n tk (intsAre_of t)
theorem D4:∀{ns:Wp Int} {its:Wp qT},sX its ns->Vals (ns.map V.int) its
 |_,_,.nil=>.nil
 |_,_,.cons n tk t=>.cons ⟨tk,rfl⟩ (D4 t)
theorem Oy{X:Cx}:Cj X (.builtin "sorted") (λxs H Q=>∃(p:qb) (ns:Wp Int),xs=[.ref p]/\SqL X.K H p (ns.map V.int)/\ns.length<64/\∀q,H q=none->Q (.ref q) (upd H q (.lst ((Fp ns).map V.int)))):=by
 intro pins s σ H xs us Q I r h
 obtain⟨p,ns,rfl,hp,h64,q⟩:=h
 obtain⟨u,rfl,ru⟩:=r.one
 cases (show u=rY p from ru)
 obtain⟨its,rv,pl,hz⟩:=I.list hp
 have hlen:ns.length=its.length:=by have:=rv.length;simpa using this
 refine PyProof.Rows.sorted_ints pl.isList (intsAre_of rv) (by lia) λout ns' a1 a2 a3=>?_
 obtain⟨e,he⟩:=yO s.heap its out
 have hn:H (s.heap.objs.size+1)=none:=I.hok.fresh (wk _)
 have hs:=JZ a2 a3
 subst hs
 refine⟨.ref _,_,I.laid (a:=s.heap.objs.size+1) (o:=.lst ((Fp ns).map V.int)) (t':=s.toks) (λ_ _=>yH) (wk _) ?_,rfl,q _ hn⟩
 refine⟨?_,out.toList,e,D4 a1,?_⟩
 .rw[qy,(EW ns).length_eq]
  have:(64:Nat)<=sizeLine:=by decide
  lia
 .rw[wC];exact he
noncomputable def Me:Op1:=λw=>(asL w).bind λds=>(Gw ds).bind λns=>if ns.length<64 then Gc (.own ((Fp ns).map D.int))else none
theorem Ye{X:Cx}:Cj X (.builtin "sorted") (rN X.K (o1 Me)):=by
 intro pins s σ H xs us Q I r h
 obtain⟨M,ws,w,e,mo,sh,q⟩:=h
 obtain⟨v,w1,rfl,rfl,s1,e1⟩:=Fg sh e
 obtain⟨ds,e2,e1⟩:=Ae e1
 obtain⟨ns,e3,e1⟩:=Ae e1
 split at e1
 .cases e1
  obtain⟨a,ys,rfl,h3,h4⟩:=s1.l e2
  exact Oy pins s σ H _ us Q I r ⟨a,ns,rfl,by rw[<-F0 h4 e3];exact .of h3,by assumption,λp hp=>q _ _ (.lst mo hp Gg)⟩
 .cases e1
theorem NV(l:qb)(items:rP qT)(n:Nat)(b:qb)(items2:rP qT)(n2:Nat)(dd:qY qb)(sl:rP (qY qT))(hs0:¬(!items.isEmpty && uI (items.size+items2.size))=true)(hs1:items.size<=sizeLine)(hs2:items.size+items2.size<=sizeLine+1):Meets (uQ.«list.extend» ⟨[.ref l,.ref b],[]⟩) (λ_ R s=>s.heap.get? l=Gc {cls:=.type "list",dict:=none,data:=.seq items n,slots:= #[]}/\s.heap.get? b=Gc {cls:=.type "tuple",dict:=dd,data:=.seq items2 n2,slots:=sl}/\R (.ok (.ret rf)) {s with heap:=s.heap.update l (tY λx=>x++items2),toks:=s.toks}):=
 .of_wp λprog w A R s h=>by
  obtain⟨hp,g,d,tk,os⟩:=s;obtain⟨hl,hb,h⟩:=h;have f1:=AutoSeq1.idx_int;have f2:=yc;have f3:=AutoSeq1.sub_list_list;have f4:=AutoSeq1.sub_tuple_list;have f5:=AutoSeq1.sub_list_tuple
  have hz':(items++items2).size<=sizeLine+1:=by rw[Array.size_append];exact hs2
  wp_walk using(uT hl rfl (hz:=hs1) (_hz':=hz')),rG hl,rG hb;exact⟨_,rfl,h⟩
def Xy(K:qS):V->Wp V->Hp->VK->Prop:=λx vs H Q=>∃l b xs zs,x=.ref l/\vs=[.ref b]/\H l=Gc (.lst xs)/\SqT K H b zs/\xs.length+zs.length<=sizeLine/\Q .non (upd H l (.lst (xs++zs)))
theorem SA{X:Cx}:MtM X "list.extend" (Xy X.K):=by
 intro pins s σ H x vs v us Q I rx rv h
 obtain⟨l,b,xs,zs,rfl,rfl,hH,hB,hz,q⟩:=h
 cases rx
 obtain⟨u,rfl,ru⟩:=rv.one
 cases ru
 obtain⟨z,its,n,r,hl,e⟩:=I.Yk hH
 obtain⟨its2,r2,⟨⟨c,dd,dt,sl⟩,e2,hc,n2,hd⟩,z2⟩:=I.tuple hB
 simp only at hc hd
 subst hc hd
 have hl2:=r2.length
 have hsz:its.toArray.size+its2.toArray.size<=sizeLine:=by rw[qr,qr];lia
 have hlong:¬(!its.toArray.isEmpty && uI (its.toArray.size+its2.toArray.size))=true:=by
  rw[Na hsz,Bool.and_false]
  exact sC
 refine xM AAU ⟨_,e,rfl⟩ AAB (zh _ _)
  (NV l its.toArray n b its2.toArray n2 dd sl hlong (by rw[qr];lia) (by lia)) ⟨e,e2,?_⟩
 refine⟨.non,_,I.k6 (its':=its++its2) hH e (by simp) (r.append r2) ?_,rfl,q⟩
 rw[rZ]
 lia
noncomputable def gW:Mo
 |S,ds,[x]=>match dr S x with
  | .val (.tup zs)=>if ds.length+zs.length<=sizeLine then Gc (.non,ds++zs)else none
  |w=>(asL w).bind λzs=>if ds.length+zs.length<=sizeLine then Gc (.non,ds++zs)else none
 |_,_,_=>none
theorem kO{X:Cx}:MtR X "list.extend" (gm X.K gW):=by
 intro pins s σ H x vs v us Q I rx rv h
 obtain⟨M,S,n,a,ds,args,d,ds',rfl,hc,hn,e,st,ra,q⟩:=h
 unfold gW at e
 split at e
 .obtain⟨xs,h1,h2⟩:=st.cell n a _ hc hn
  obtain⟨y,rfl,ry⟩:=Qy ra
  have sy:=af st ry
  split at e
  .rename_i ed
   rw[ed]at sy
   split at e
   .rename_i hz
    cases e
    cases sy with
    |tup hx rr=>
     obtain⟨st2,g2⟩:=st.chg hc hn (h2.append rr)
     exact SA pins s σ H _ _ v us Q I rx rv ⟨a,_,xs,_,rfl,rfl,h1,hx,by rw[h2.length,rr.length];exact hz,q _ _ st2 g2 .non⟩
   .cases e
  .obtain⟨zs,e1,e⟩:=Ae e
   split at e
   .rename_i hz
    cases e
    obtain⟨b,ys,rfl,h3,h4⟩:=sy.l e1
    obtain⟨st2,g2⟩:=st.chg hc hn (h2.append h4)
    exact Vp pins s σ H _ _ v us Q I rx rv ⟨a,b,xs,ys,rfl,rfl,h1,h3,by rw[h2.length,h4.length];exact hz,q _ _ st2 g2 .non⟩
   .cases e
 .cases e
theorem Xa{X:Cx}:OpR X (binaryOp .Mult) (λx y H Q=>∃a xs k,x=.ref a/\y=.int k/\SqT X.K H a xs/\xs≠[]/\k<=0/\ -(2^63)<=k/\∀p,H p=none->Q (.ref p) (upd H p (.tup []))):=by
 intro pins s σ H x y v u Q I rx ry h
 obtain⟨a,xs,k,rfl,rfl,hx,hne,hk,hk2,q2⟩:=h
 cases rx
 obtain⟨t,rfl⟩:=ry
 obtain⟨its,r,⟨⟨c,dd,data,sl⟩,ho,hc,n,hd⟩,hzz⟩:=I.tuple hx
 simp only at hc hd
 subst hc hd
 have hl:=r.length
 have hpos:0<xs.length:=uo.mpr hne
 refine wJ (T:="tuple") (U:="int") (by decide) ⟨_,ho,rfl⟩ (λs'=>xK s' k t) Gn zQ vp Jv yt.lookup
  (xM vp (xK s k t) yu (yU _ _) (Hq k t a its.toArray n dd sl) ⟨ho,rfl,⟨_,ho,rfl⟩,?_⟩)
 refine sD xN ⟨_,ho,rfl⟩ F.entry_tuple_mul ?_ (AAW _ _)
 unfold uQ.«tuple.__mul__»
 wp_walk using rG ho
 rw[rA (show¬(decide (k< -2^63)||decide (k≥2^63))=true by
  rw[tS]
  rintro (z|z)
  .have:=qu z;lia
  .have:=qu z;lia)]
 wp_walk using rG ho
 have hemp:its.toArray.isEmpty=false:=by
  cases its with
  |nil=>rw[uA]at hl;lia
  |cons b bs=>rfl
 rw[rA (show¬(its.toArray.isEmpty||k==1)=true by
  rw[hemp,Bool.false_or]
  intro z
  have:=eq_of_beq z
  lia)]
 wp_walk using rG ho
 all_goals first
  |exact⟨_,rfl,.ref _,_,I.laid (o:=.tup []) (t':=s.toks) (λb ob q=>qU _ q) (qg _) ⟨sf _,[],.nil,wL _ _⟩,rfl,q2 _ (I.hok.fresh (qg _))⟩
  |(exfalso
    rename_i hh
    exact hh (by rw[tS];exact .inl (sZ hk)))
noncomputable def EC:Op2:=λa b=>match asT a with
 |some xs=>match asI b with
  |some k=>if(!xs.isEmpty && decide (k<=0) && decide (-(2^63)<=k))=true then Gc (.val (.tup []))else dP (.val (.tup xs)) (.val (.int k))
  |none=>dP a b
 |none=>dP a b
theorem gT{X:Cx}:OpR X (binaryOp .Mult) (rOp X.K EC):=by
 intro pins s σ H x y v u Q I rx ry h
 obtain⟨M,w1,w2,r,e,mo,s1,s2,q⟩:=h
 have no:dP w1 w2=Gc r->wpAny (model X.prog X.w) X.A (binaryOp .Mult v u) (EP X pins σ Q) X.xe s:=λe=>Yt pins s σ H x y v u Q I rx ry ⟨M,_,_,r,e,mo,s1,s2,q⟩
 unfold EC at e
 cases e1:asT w1 with
 |none=>rw[e1]at e;exact no e
 |some xs=>
  rw[e1]at e
  dsimp only at e
  cases e2:asI w2 with
  |none=>rw[e2]at e;exact no e
  |some k=>
   rw[e2]at e
   obtain rfl:=Qp e1
   obtain rfl:=PJ e2
   by_cases hk:(!xs.isEmpty && decide (k<=0) && decide (-(2^63)<=k))=true
   .dsimp only at e
    rw[q9 hk]at e
    rw[qt,qt]at hk
    cases e
    obtain rfl:=Bi.iv s2
    obtain⟨a,ys,rfl,h1,r1⟩:=Bi.iv s1
    have hne:ys≠[]:=λzz=>by
     subst zz
     cases r1
     exact absurd hk.1.1 (by decide)
    exact Xa pins s σ H _ _ v u Q I rx ry ⟨a,ys,k,rfl,rfl,h1,hne,qu hk.1.2,qu hk.2,λp hp=>q _ _ (.tup mo hp .nil)⟩
   .dsimp only at e
    rw[rA hk]at e
    exact no e
theorem Pb{A:rS}{k:Nat}(hr:JE k A):A.units+100<cLine:=by have:=hr.un;lia
section
variable{P:rF}{w:rX}{K:qS}{mg:Str->qY qT}{base:rT}
theorem Xs{x:Str}{st:sG}{k np:Nat}{ps:Wp Str}(S:St.Src K mg x st)(hbi:∀f fd,Fun K x x st f fd->Binds K fd ps []):St.Dfn P w K mg base x k ps (spD K np λ_ _=>none):=by
 obtain⟨f,fd,Fu,hm⟩:=S.ex
 refine⟨f,fd,hm,Fu.kp,hbi f fd Fu,⟨λvs H Q E h=>?_,λA outer s H args us vs Q E hr h0 hb hv h=>?_⟩⟩
 .obtain⟨_,_,_,_,_,_,e,_⟩:=h;cases e
 .obtain⟨_,_,_,_,_,_,e,_⟩:=h;cases e
end
noncomputable def scE:Nat->rJ->Wp uz
 |0,_=>[]
 |n+1,.ListComp e gs s _=>s::(gs.flatMap λg=>scE n g.iter)++scE n e++(gs.flatMap λg=>g.ifs.flatMap (scE n))
 |n+1,.BoolOp _ vs _=>vs.flatMap (scE n)
 |n+1,.Call f as _ _=>scE n f++as.flatMap (scE n)
 |n+1,.BinOp a _ b _=>scE n a++scE n b
 |n+1,.UnaryOp _ a _=>scE n a
 |n+1,.Compare a _ cs _=>scE n a++cs.flatMap (scE n)
 |n+1,.Subscript a b _=>scE n a++scE n b
 |n+1,.Tuple es _ _=>es.flatMap (scE n)
 |n+1,.List es _=>es.flatMap (scE n)
 |n+1,.IfExp c a b _=>scE n c++scE n a++scE n b
 |n+1,.Dict _ vs _=>vs.flatMap (scE n)
 |n+1,.Slice a b c _=>(a.toList++b.toList++c.toList).flatMap (scE n)
 |n+1,.Attribute v _ _=>scE n v
 |_,_=>[]
noncomputable def scS:Nat->sG->Wp uz
 |0,_=>[]
 |n+1,.Return (Gc e) _=>scE 30 e
 |n+1,.Assign ts e _=>ts.flatMap (scE 30)++scE 30 e
 |n+1,.AugAssign t _ e _=>scE 30 t++scE 30 e
 |n+1,.Expr e _=>scE 30 e
 |n+1,.If t a b _=>scE 30 t++a.flatMap (scS n)++b.flatMap (scS n)
 |n+1,.For _ it a b _=>scE 30 it++a.flatMap (scS n)++b.flatMap (scS n)
 |n+1,.While t a b _=>scE 30 t++a.flatMap (scS n)++b.flatMap (scS n)
 |_,_=>[]
noncomputable def IK(st:sG)(k:Nat):uz:=((C0 st).flatMap (scS 20)).getD k (AB st)
structure qM(P:rF)(w:rX)(K:qS)(mg:Str->qY qT)(base:rT)(x:Str)(k np:Nat)(tbl:Wp (Str×Fn)):Prop where
 ex:∃a kvs,mg x=Gc (.ref a)/\TopD K w a kvs/\∀p G,tbl.lookup p=Gc G->∃f fd ps,kvs.lookup p=Gc (.ref f)/\Nd P w K mg base CX0 k f fd ps (spD K np G)/\ue K (.ref f)=true/\Binds K fd ps []
section
variable{P:rF}{w:rX}{K:qS}{mg:Str->qY qT}{base h:rT}
theorem eK{x:Str}{st:sG}{f:qb}{oc:qT}{od an:qY qb}{osl:rP (qY qT)}{kV doc pm cdv ct:qT}(X:K.In h)(G:h.Ns mainGlobals mg)(a:ub K mainGlobals x=Gc (Gc (.ref f)))(l:K.lookup f=Gc ⟨oc,od,.func (vc x x (JG st) (C0 st) (AB st) .none kV doc pm an cdv ct),osl⟩)(c:xy K cdv x=true)(k:ue K (.ref f)=true):St.Src K mg x st:=
 ⟨f,_,fL l c k,xS X G a⟩
def IsD(K:qS)(u:qT)(d:D):Prop:=∃v,RelV v u/\∀M H,Bi K M H v d
theorem NZ{i:Int}{t:Tok}:IsD K (.int i t) (.int i):=⟨.int i,⟨t,rfl⟩,λ_ _=>.int i⟩
theorem NW{x:Str}{t:Tok}:IsD K (.str x t) (.str x):=⟨.str x,⟨t,rfl⟩,λ_ _=>.str x⟩
theorem RW:∀{us:Wp qT} {ds:Wp D},Paired (λd u=>IsD K u d) ds us->∃xs,Vals xs us/\∀M H,Af K M H xs ds
 |_,_,.nil=>⟨[],.nil,λ_ _=>.nil⟩
 |_,_,.cons h t=>by
  obtain⟨v,h1,h2⟩:=h
  obtain⟨xs,h3,h4⟩:=RW t
  exact⟨v::xs,.cons h1 h3,λM H=>.cons (h2 M H) (h4 M H)⟩
theorem Pk{a:qb}{od:qY qb}{osl:rP (qY qT)}{its:Wp qT}{n:Nat}{ds:Wp D}(l:K.lookup a=Gc ⟨.type "tuple",od,.seq its.toArray n,osl⟩)(hz:its.length<=sizeLine)(r:Paired (λd u=>IsD K u d) ds its):IsD K (.ref a) (.tup ds):=by
 obtain⟨xs,h1,h2⟩:=RW r
 exact⟨.ref a,rfl,λM H=>.tup (.inr ⟨_,its.toArray,n,l,rfl,rfl,by simpa using hz,by simpa using h1⟩) (h2 M H)⟩
theorem Tu{x:Str}{u:qT}{d:D}(X:K.In h)(G:h.Ns mainGlobals mg)(e:ub K mainGlobals x=Gc (Gc u))(r:IsD K u d):SW K mg x d:=by
 obtain⟨v,h1,h2⟩:=r
 exact⟨v,u,xS X G e,h1,h2⟩
structure qJ(w:rX)(K:qS)(mg:Str->qY qT)(x:Str)(ns:Wp (Str×Str)):Prop where
 ex:∃a kvs,mg x=Gc (.ref a)/\TopD K w a kvs/\Paired (λ(n:Str×Str) (q:Str×V)=>n.1=q.1/\∃f,q.2=.ref f/\mg n.2=Gc (.ref f)) ns kvs
noncomputable def Y8(K:qS):Sp:=λvs H Q _=>∃(a:qb) (ns:Wp Int),vs=[.ref a]/\SqL K H a (ns.map V.int)/\ns.length<=63/\∀H',Q (.bl true) H'
theorem ff{k:Nat}{f:qb}{fd:uU}{x:Str}{F:Fn}(Fk:Nd P w K mg base CX0 k f fd [x] (spD K 1 F))(h:∀ns:Wp Int,ns.length<=63->∃S,F [.scr ns] []=Gc (.bl true,S)):Nd P w K mg base CX0 k f fd [x] (Y8 K):=by
 refine Fk.imp λvs H Q E z=>?_
 obtain⟨a,ns,rfl,hs,hl,q⟩:=z
 obtain⟨S,e⟩:=h ns hl
 refine⟨Ms.no,[.scr ns],[],_,S,rfl,e,.cons (.scr ?_) .nil,⟨λa z=>absurd z Ms.YS,List.nodup_nil,λa z=>(nomatch z),rfl,λn a c z=>by simp[Ms.no]at z⟩,λv H' M' g st r=>?_⟩
 .rcases hs with hs|hs
  .exact .inl ⟨hs,Ms.YS⟩
  .exact .inr hs
 .cases r
  exact q H'
end
noncomputable def putD(kvs:Wp (Key×D))(k:Key)(v:D):Wp (Key×D):=
 if(kvs.any λkv=>decide (kv.1=k))=true then kvs.map (λkv=>if kv.1=k then(kv.1,v)else kv)else kvs++[(k,v)]
noncomputable def Jx(kvs more:Wp (Key×D)):Wp (Key×D):=more.foldl (λacc kv=>putD acc kv.1 kv.2) kvs
noncomputable def PQ:Wp (Key×D)->Key->qY D
 | [],_=>none
 |(j,d)::r,k=>if j=k then Gc d else PQ r k
noncomputable def Su:D->qY Key
 | .int i=>Gc (.inl i)
 | .str x=>Gc (.inr x)
 |_=>none
noncomputable def OH(S:Sto):D->qY (Wp (Key×D))
 | .dct es=>Gc es
 | .ref n=>match S[n]? with
   |some (.dct es)=>Gc es
   |_=>none
 |_=>none
noncomputable def RN:rR->Wp (Key×D)->Sto->D×Sto
 |false,es,S=>(.dct es,S)
 |true,es,S=>(.ref S.length,S++[.dct es])
section
variable{K:qS}{M M':Ms}{H:Hp}{S:Sto}{E:En}{σ:Sg}
theorem Bd.any(k:Key):∀{kvs:Wp (Key×V)} {es:Wp (Key×D)},Bd K M H kvs es->(kvs.any λkv=>decide (kv.1=k))=es.any λkv=>decide (kv.1=k)
 |_,_,.nil=>rfl
 |_,_,.cons h t=>by rw[uy,uy,Bd.any k t]
theorem Bd.app:∀{kvs kvs':Wp (Key×V)} {es es':Wp (Key×D)},Bd K M H kvs es->Bd K M H kvs' es'->Bd K M H (kvs++kvs') (es++es')
 |_,_,_,_,.nil,s=>s
 |_,_,_,_,.cons h t,s=>.cons h (Bd.app t s)
theorem Bd.Z1{k:Key}{v:V}{d:D}(r:Bi K M H v d):∀{kvs:Wp (Key×V)} {es:Wp (Key×D)},Bd K M H kvs es->Bd K M H (kvs.map λkv=>if kv.1=k then(kv.1,v)else kv) (es.map λkv=>if kv.1=k then(kv.1,d)else kv)
 |_,_,.nil=>.nil
 |_,_,.cons (k:=k') h t=>by
  rw[rD,rD]
  by_cases e:k'=k
  .rw[q9 e,q9 e];exact .cons r (Bd.Z1 r t)
  .rw[rA e,rA e];exact .cons h (Bd.Z1 r t)
theorem Bd.put{k:Key}{v:V}{d:D}{kvs:Wp (Key×V)}{es:Wp (Key×D)}(r:Bi K M H v d)(h:Bd K M H kvs es):Bd K M H (putK kvs k v) (putD es k d):=by
 unfold putK putD
 rw[h.any k]
 split
 .exact h.Z1 r
 .exact h.app (.cons r .nil)
theorem Bd.merge:∀{more:Wp (Key×V)} {more':Wp (Key×D)} {kvs:Wp (Key×V)} {es:Wp (Key×D)},Bd K M H more more'->Bd K M H kvs es->Bd K M H (Kl kvs more) (Jx es more')
 |_,_,_,_,.nil,h=>h
 |_,_,kvs,es,.cons (k:=k) (v:=v) (d:=d) (vs:=vs) (ds:=ds) r t,h=>show Bd K M H (Kl (putK kvs k v) vs) (Jx (putD es k d) ds)from Bd.merge t (h.put r)
theorem Bd.val(k:Key):∀{kvs:Wp (Key×V)} {es:Wp (Key×D)},Bd K M H kvs es->(QZ kvs k=none/\PQ es k=none)\/∃v d,QZ kvs k=Gc v/\PQ es k=Gc d/\Bi K M H v d
 |_,_,.nil=>.inl ⟨rfl,rfl⟩
 |_,_,.cons (k:=k') (d:=d) (v:=v) (ds:=ds) h t=>by
  by_cases e:k'=k
  .exact .inr ⟨v,d,KH e,by simp[PQ,e],h⟩
  .rw[KR e]
   have:PQ ((k',d)::ds) k=PQ ds k:=by simp[PQ,e]
   rw[this]
   exact Bd.val k t
theorem Bd.length:∀{v:Wp (Key×V)} {d:Wp (Key×D)},Bd K M H v d->v.length=d.length
 |_,_,.nil=>rfl
 |_,_,.cons _ t=>by simp[Bd.length t]
theorem Rg{v:V}{d:D}{k:Key}(r:Bi K M H v d)(e:Su d=Gc k):v=kV k:=by
 cases r<;>cases e<;>rfl
theorem N5{v:V}{d:D}{es:Wp (Key×D)}(st:StR K M S H)(r:Bi K M H v d)(e:OH S d=Gc es):∃a kvs,v=.ref a/\H a=Gc (.dK kvs)/\Bd K M H kvs es:=by
 cases r with
 |dct h n r=>cases e;exact⟨_,_,rfl,h,r⟩
 |ref h=>
  rename_i a n
  unfold OH at e
  dsimp only at e
  split at e
  .rename_i es' e'
   cases e
   obtain⟨kvs,h1,h2⟩:=st.cell n a _ h e'
   exact⟨a,kvs,rfl,h1,h2⟩
  .cases e
 |_=>cases e
theorem StR.oo(r:StR K M S H){n:Nat}{a:qb}{ds es:Wp (Key×D)}{ys:Wp (Key×V)}(h1:M.cel[n]?=Gc a)(h2:S[n]?=Gc (.dct ds))(hy:Bd K M H ys es):StR K M (S.set n (.dct es)) (upd H a (.dK ys))/\Gr M H M (upd H a (.dK ys)):=by
 have ha:a∈M.cel:=qx h1
 have hl:n<S.length:=(qe.mp h2).1
 have g:Gr M H M (upd H a (.dK ys)):=⟨r.mo,tF,rfl,λ_ z=>.inl z,λb o eb nb=>by rw[AX (λz=>nb (by rw[z];exact ha))];exact eb,λb eb=>by
  by_cases h:b=a
  .subst h;rw[Au];intro z;cases z
  .rw[AX h];exact eb⟩
 refine⟨⟨λb z=>?_,r.nd,r.nt,by rw[uS];exact r.len,λm b c e1 e2=>?_⟩,g⟩
 .by_cases h:b=a
  .subst h;exact .inr (.inl ⟨ys,Au⟩)
  .rw[AX h];exact r.mo b z
 .by_cases h:n=m
  .subst h
   rw[h1]at e1;cases e1
   rw[qo hl]at e2;cases e2
   exact⟨ys,Au,hy.step g.st⟩
  .rw[qc h]at e2
   have hb:b≠a:=λz=>by
    subst z
    exact h ((wy (qe.mp h1).1 r.nd).mp (h1.trans e1.symm))
   have q:=r.cell m b c e1 e2
   cases c with
   |lst fs=>obtain⟨xs,e,rr⟩:=q;exact⟨xs,by rw[AX hb];exact e,rr.step g.st⟩
   |dct fs=>obtain⟨xs,e,rr⟩:=q;exact⟨xs,by rw[AX hb];exact e,rr.step g.st⟩
   |tab fs=>obtain⟨xs,e,rr⟩:=q;exact⟨xs,by rw[AX hb];exact e,rr.step g.st⟩
theorem StR.dn(r:StR K M S H){a:qb}(e:H a=none):StR K ⟨M.cel,a::M.tmp⟩ S (upd H a (.dK []))/\Sp1 M H ⟨M.cel,a::M.tmp⟩ (upd H a (.dK [])):=by
 have k:∀b o,H b=Gc o->upd H a (.dK []) b=Gc o:=GZ e
 have na:¬M.mem a:=λz=>r.mo.some z e
 have s1:Sp1 M H ⟨M.cel,a::M.tmp⟩ (upd H a (.dK [])):=⟨r.mo,tF,λb z=>by
  rcases z with z|z
  .exact .inl (.inl z)
  .rcases qj.mp z with z|z
   .subst z;exact .inr e
   .exact .inl (.inr z),λb o eb _=>k b o eb⟩
 refine⟨⟨λb z=>?_,r.nd,λb hb z=>?_,r.len,λn b c h1 h2=>?_⟩,s1⟩
 .by_cases h:b=a
  .subst h;exact .inr (.inl ⟨[],Au⟩)
  .rw[AX h]
   refine r.mo b ?_
   rcases z with z|z
   .exact .inl z
   .rcases qj.mp z with z|z
    .exact absurd z h
    .exact .inr z
 .rcases qj.mp hb with hb|hb
  .subst hb;exact na (.inl z)
  .exact r.nt b hb z
 .have q:=r.cell n b c h1 h2
  cases c with
  |lst ds=>obtain⟨xs,e,rr⟩:=q;exact⟨xs,k _ _ e,rr.step s1⟩
  |dct ds=>obtain⟨xs,e,rr⟩:=q;exact⟨xs,k _ _ e,rr.step s1⟩
  |tab ds=>obtain⟨xs,e,rr⟩:=q;exact⟨xs,k _ _ e,rr.step s1⟩
theorem StR.nS{c t:Wp qb}{a:qb}{kvs:Wp (Key×V)}{es:Wp (Key×D)}(cf:rR)(r:StR K ⟨c,a::t⟩ S H)(nt:a∉t)(rr:Bd K ⟨c,a::t⟩ H kvs es):∃c',StR K ⟨c',t⟩ (RN cf es S).2 (upd H a (.dK kvs))/\Bi K ⟨c',t⟩ (upd H a (.dK kvs)) (.ref a) (RN cf es S).1/\c <+: c'/\(∀b∈c',b∈c\/b=a):=by
 have nc:a∉c:=r.nt a qp
 have hl:c.length=S.length:=r.len
 have ne:∀b∈c,b≠a:=λb hb z=>nc (by rw[<-z];exact hb)
 have kp:∀b o,H b=Gc o->¬Ms.mem ⟨c,a::t⟩ b->upd H a (.dK kvs) b=Gc o:=λb o eb nb=>by rw[AX (λz=>nb (.inr (by rw[z];exact qp)))];exact eb
 have old:∀{c':Wp qb},Sp1 ⟨c,a::t⟩ H ⟨c',t⟩ (upd H a (.dK kvs))->∀(n:Nat) (b:qb) (cl:Cl),c[n]?=Gc b->S[n]?=Gc cl->bY K ⟨c',t⟩ (upd H a (.dK kvs)) b cl:=λs1 n b cl h1 h2=>by
  have hb:=ne b (qx h1)
  have q:=r.cell n b cl h1 h2
  cases cl with
  |lst ds=>obtain⟨xs,e,rr⟩:=q;exact⟨xs,by rw[AX hb];exact e,rr.step s1⟩
  |dct ds=>obtain⟨xs,e,rr⟩:=q;exact⟨xs,by rw[AX hb];exact e,rr.step s1⟩
  |tab ds=>obtain⟨xs,e,rr⟩:=q;exact⟨xs,by rw[AX hb];exact e,rr.step s1⟩
 have mo:∀b,Ms.mem ⟨c,t⟩ b\/b=a->(∃xs,upd H a (.dK kvs) b=Gc (.lst xs))\/(∃ks,upd H a (.dK kvs) b=Gc (.dK ks))\/∃ps,upd H a (.dK kvs) b=Gc (.tbl ps):=λb z=>by
  by_cases h:b=a
  .subst h;exact .inr (.inl ⟨kvs,Au⟩)
  .rw[AX h]
   rcases z with z|z
   .exact r.mo b (z.imp id (qi _))
   .exact absurd z h
 cases cf with
 |false=>
  have s1:Sp1 ⟨c,a::t⟩ H ⟨c,t⟩ (upd H a (.dK kvs)):=⟨r.mo,tF,λb z=>.inl (z.imp id (qi _)),kp⟩
  exact⟨c,⟨λb z=>mo b (.inl z),r.nd,λb hb=>r.nt b (qi _ hb),r.len,old s1⟩,.dct Au (λz=>z.elim nc nt) (rr.step s1),tF,λb z=>.inl z⟩
 |true=>
  have s1:Sp1 ⟨c,a::t⟩ H ⟨c++[a],t⟩ (upd H a (.dK kvs)):=⟨r.mo,vk _ _,λb z=>by
   rcases z with z|z
   .rcases rC.mp z with z|z
    .exact .inl (.inl z)
    .exact .inl (.inr (by rw[q8.mp z];exact qp))
   .exact .inl (.inr (qi _ z)),kp⟩
  refine⟨c++[a],⟨λb z=>mo b ?_,?_,λb hb z=>?_,by simp[RN,hl],λn b cl h1 h2=>?_⟩,.ref (by rw[<-hl];exact qm),vk _ _,λb z=>?_⟩
  .rcases z with z|z
   .rcases rC.mp z with z|z
    .exact .inl (.inl z)
    .exact .inr (q8.mp z)
   .exact .inl (.inr z)
  .rw[vQ]
   refine⟨r.nd,by simp,λx hx y hy z=>?_⟩
   simp at hy;subst hy
   exact nc (by rw[<-z];exact hx)
  .rcases rC.mp z with z|z
   .exact r.nt b (qi _ hb) z
   .rw[q8.mp z]at hb;exact nt hb
  .have h2:(S++[Cl.dct es])[n]?=Gc cl:=h2
   by_cases h:n<S.length
   .rw[qZ (by rw[hl];exact h)]at h1
    rw[qZ h]at h2
    exact old s1 n b cl h1 h2
   .have hm:n=S.length:=by
     have:=(qe.mp h2).1
     simp at this;lia
    subst hm
    rw[rL (by rw[hl];exact qg _)]at h1
    rw[rL (qg _)]at h2
    rw[hl]at h1
    simp at h1 h2
    subst h1 h2
    exact⟨kvs,Au,rr.step s1⟩
  .rcases rC.mp z with z|z
   .exact .inl z
   .exact .inr (q8.mp z)
noncomputable def evP:Wp (Ev×Ev)->En->Sto->qY (Wp (Key×D)×Sto)
 | [],_,S=>Gc ([],S)
 |(k,v)::r,E,S=>(k E S).bind λa=>(Su a.1).bind λkk=>(v E a.2).bind λb=>(evP r E b.2).map λq=>((kk,b.1)::q.1,q.2)
theorem Yj:∀{fs:Wp (Ev×Ev)} {M:Ms} {S:Sto} {es:Wp (Key×D)} {S':Sto} {H:Hp} {Q:Wp (V×V)->Hp->Prop},evP fs E S=Gc (es,S')->EnR K M E σ H->StR K M S H->(∀kvs H' M',Gr M H M' H'->StR K M' S' H'->Bd K M' H' kvs es->kvs.length=fs.length->Q (kvs.map λkv=>(kV kv.1,kv.2)) H')->Qq (fs.map λx=>(tD K x.1,tD K x.2)) σ H Q
 | [],M,S,es,S',H,Q,e,r,st,q=>by
   cases e
   exact q [] H M (.refl st.mo) st .nil rfl
 |(fk,fv)::fs,M,S,es,S',H,Q,e,r,st,q=>by
  obtain⟨⟨dk,S1⟩,e1,e⟩:=Ae e
  obtain⟨kk,ek,e⟩:=Ae e
  obtain⟨⟨dv,S2⟩,e2,e⟩:=Ae e
  obtain⟨⟨es',S3⟩,e3,e⟩:=Hl e
  cases e
  refine⟨M,E,S,dk,S1,e1,r,st,λv H1 M1 g1 st1 d1=>?_⟩
  refine⟨M1,E,S1,dv,S2,e2,r.step g1.st,st1,λv2 H2 M2 g2 st2 d2=>?_⟩
  refine Yj e3 ((r.step g1.st).step g2.st) st2 λkvs H3 M3 g3 st3 rk hl=>?_
  rw[Rg d1 ek]
  exact q ((kk,v2)::kvs) H3 M3 ((g1.trans g2).trans g3) st3 (.cons (d2.step g3.st) rk) (by simp[hl])
end
noncomputable def OZ(cf:rR)(fs:Wp (Ev×Ev)):Ev:=λE S=>(evP fs E S).map λr=>RN cf (Jx [] r.1) r.2
abbrev UX:=OZ false
abbrev Yb:=OZ true
section
variable{X:Cx}{pos:Pos}
structure DPs(X:Cx)(pos:Pos)(ks:Wp (qY rJ))(vs:Wp rJ)(fs:Wp (Ev×Ev)):Prop where
 pe:PPs X pos ks vs (fs.map λx=>(tD X.K x.1,tD X.K x.2))
 all:ks.all (·.isSome)=true
 len:ks.length=vs.length
 num:fs.length=vs.length
theorem Va:DPs X pos [] [] []:=⟨Y6,rfl,rfl,rfl⟩
theorem RG{k v:rJ}{ks:Wp (qY rJ)}{vs:Wp rJ}{fk fv:Ev}{fs:Wp (Ev×Ev)}(hk:DE X k fk)(hv:DE X v fv)(h:DPs X pos ks vs fs):DPs X pos (Gc k::ks) (v::vs) ((fk,fv)::fs):=
 ⟨WC hk.pe hv.pe h.pe,by rw[vt,h.all];rfl,by rw[rV,rV,h.len],by rw[rV,rV,h.num]⟩
theorem QV{K:qS}{M:Ms}{H:Hp}{S S':Sto}{Q:VK}{cf:rR}{p:qb}{M2:Ms}{H2:Hp}{S2:Sto}{kvs:Wp (Key×V)}{es:Wp (Key×D)}(st:StR K M S H)(hp:H p=none)(g:Gr ⟨M.cel,p::M.tmp⟩ (upd H p (.dK [])) M2 H2)(st2:StR K M2 S2 H2)(rk:Bd K M2 H2 kvs es)(q:∀v H' M',Gr M H M' H'->StR K M' (RN cf es S2).2 H'->Bi K M' H' v (RN cf es S2).1->Q v H'):Q (.ref p) (upd H2 p (.dK kvs)):=by
 obtain⟨c2,t2⟩:=M2
 have ht:t2=p::M.tmp:=g.tmp
 subst ht
 have np:p∉M.tmp:=λz=>st.mo.some (.inr z) hp
 obtain⟨c',st',rd,pr,sub⟩:=st2.nS cf np rk
 refine q _ _ ⟨c',M.tmp⟩ ⟨st.mo,(show M.cel <+: c2 from g.pre).trans pr,rfl,λb z=>?_,λb o eb nb=>?_,λb eb=>?_⟩ st' rd
 .rcases sub b z with z|z
  .rcases g.fresh b z with z|z
   .exact .inl z
   .right
    by_cases h:b=p
    .rw[h];exact hp
    .rw[AX h]at z;exact z
  .right;rw[z];exact hp
 .have h:b≠p:=λz=>by rw[z,hp]at eb;cases eb
  rw[AX h]
  exact g.keep b o (by rw[AX h];exact eb) nb
 .by_cases h:b=p
  .subst h;rw[Au];intro z;cases z
  .rw[AX h]
   exact g.some b (by rw[AX h];exact eb)
theorem YV{cf:rR}{ks:Wp (qY rJ)}{vs:Wp rJ}{fs:Wp (Ev×Ev)}(h:DPs X pos ks vs fs)(h0:ks≠[])(h15:ks.length<=15):DE X (.Dict ks vs pos) (OZ cf fs):=⟨
 A7 (Zl h.pe h.all h.len h0 h15) λσ H Q z=>by
  obtain⟨M,E,S,d,S',e,r,st,q⟩:=z
  obtain⟨⟨es,S2⟩,e1,e⟩:=Hl e
  intro p hp
  obtain⟨st0,s0⟩:=st.dn hp
  refine Yj e1 (r.step s0) st0 λkvs H2 M2 g st2 rk hl=>⟨g.keep p _ Au (st0.nt p qp),kvs,rfl,by rw[hl,h.num,<-h.len];exact h15,?_⟩
  refine QV (cf:=cf) (S':=S') st hp g st2 (rk.merge .nil) ?_
  have e':RN cf (Jx [] es) S2=(d,S'):=e
  rw[e']
  exact q⟩
theorem lA{cf:rR}:DE X (.Dict [] [] pos) (OZ cf []):=⟨
 A7 X1 λσ H Q z=>by
  obtain⟨M,E,S,d,S',e,r,st,q⟩:=z
  obtain⟨⟨es,S2⟩,e1,e⟩:=Hl e
  cases e1
  intro p hp
  obtain⟨st0,s0⟩:=st.dn hp
  have:=QV (cf:=cf) (S':=S') (Q:=Q) (kvs:=[]) (es:=[]) st hp (.refl st0.mo) st0 .nil (by
   have e':RN cf [] S=(d,S'):=e
   rw[e'];exact q)
  rw[To]at this
  exact this⟩
noncomputable def bR(fd fk fx:Ev):Ev:=λE S=>(fd E S).bind λa=>(OH a.2 a.1).bind λ_=>(fk E a.2).bind λb=>(fx E b.2).bind λc=>(OH c.2 a.1).bind λes=>(Su b.1).map λk=>((PQ es k).getD c.1,c.2)
theorem Yc{o e f:rJ}{fd fk fx:Ev}{apos cpos:Pos}(hu:X.A.units+100<cLine)(ho:DE X o fd)(hk:DE X e fk)(hx:DE X f fx)(m:M2 X o "get" apos e f cpos):DE X (.Call (.Attribute o "get" apos) [e,f] [] cpos) (bR fd fk fx):=⟨
 A7 (Xi (by lia) ho.pe hk.pe hx.pe m) λσ H Q z=>by
  obtain⟨M,E,S,d,S',e,r,st,q⟩:=z
  obtain⟨⟨a,S1⟩,e1,e⟩:=Ae e
  obtain⟨es1,ed,e⟩:=Ae e
  obtain⟨⟨b,S2⟩,e2,e⟩:=Ae e
  obtain⟨⟨c,S3⟩,e3,e⟩:=Ae e
  obtain⟨es,ed3,e⟩:=Ae e
  obtain⟨k,ek,e⟩:=Hl e
  cases e
  refine⟨M,E,S,a,S1,e1,r,st,λv H1 M1 g1 st1 d1=>?_⟩
  obtain⟨p,kvs,rfl,hp,_⟩:=N5 st1 d1 ed
  refine⟨p,rfl,.inl ⟨kvs,.inl hp⟩,M1,E,S1,b,S2,e2,r.step g1.st,st1,λv2 H2 M2 g2 st2 d2=>?_⟩
  refine⟨M2,E,S2,c,S3,e3,(r.step g1.st).step g2.st,st2,λv3 H3 M3 g3 st3 d3=>?_⟩
  obtain⟨p',kvs3,e4,hp3,rk⟩:=N5 st3 ((d1.step g2.st).step g3.st) ed3
  cases e4
  rw[Rg d2 ek]
  refine⟨_,.k hp3,?_⟩
  rcases rk.val k with⟨h1,h2⟩|⟨v,d,h1,h2,h3⟩
  .rw[h1];rw[h2]at q;exact q _ _ M3 ((g1.trans g2).trans g3) st3 d3
  .rw[h1];rw[h2]at q;exact q _ _ M3 ((g1.trans g2).trans g3) st3 h3⟩
noncomputable def Xb(k f o:Ev):Ex:=λE S=>(k E S).bind λr=>(f E r.2).bind λb=>(o E b.2).bind λi=>(Su i.1).bind λkk=>match b.1 with
 | .ref n=>match i.2[n]? with
   |some (.dct es)=>if es.length<1000 then Gc (.nx,E,i.2.set n (.dct (putD es kk r.1)))else none
   |_=>none
 |_=>none
theorem Zz{e t bs:rJ}{k f o:Ev}{ps pos:Pos}(hu:X.A.units+100<cLine)(h:DE X e k)(hb:DE X bs f)(ht:DE X t o)(hs:swapsWith e (Gc (.Subscript bs t ps)) pos.line X.env=pure false:=by rfl):DS X (.Assign [.Subscript bs t ps] e pos) (Xb k f o):=⟨
 Eu (Yw (by lia) hb.pe ht.pe h.pe hs) λDn σ H z=>by
  obtain⟨M,E,S,fl,E',S',e,r,st,q⟩:=z
  obtain⟨⟨d,S1⟩,e1,e⟩:=Ae e
  obtain⟨⟨b,S2⟩,e2,e⟩:=Ae e
  obtain⟨⟨i,S3⟩,e3,e⟩:=Ae e
  obtain⟨kk,ek,e⟩:=Ae e
  dsimp only at e e1 e2 e3 ek
  split at e
  . 
   split at e
   .rename_i es e4
    split at e
    .rename_i hl
     cases e
     refine⟨M,E,S,d,S1,e1,r,st,λv H1 M1 g1 st1 r1=>?_⟩
     refine⟨M1,E,S1,_,S2,e2,r.step g1.st,st1,λbv H2 M2 g2 st2 r2=>?_⟩
     refine⟨M2,E,S2,_,S3,e3,(r.step g1.st).step g2.st,st2,λiv H3 M3 g3 st3 r3=>?_⟩
     rw[Rg r3 ek]
     cases r2 with
     |ref hc=>
      rename_i a
      have hc3:=Ku g3.pre hc
      obtain⟨kvs,h1,h2⟩:=st3.cell _ a _ hc3 e4
      obtain⟨st4,g4⟩:=st3.oo hc3 e4 (Bd.put (k:=kk) ((r1.step g2.st).step g3.st) h2)
      have g:=((g1.trans g2).trans g3).trans g4
      exact⟨a,_,rfl,.k h1 (by rw[h2.length,sizeLine_eq];lia),q _ _ M3 g (r.step g.st) st4⟩
    .cases e
   .cases e
  .cases e⟩
end
def Tb(old:qb->Prop)(H:Hp)(h:rT)(e:qb)(v:qT):Prop:=
 v=.none\/∃T oT ts,v=.ref T/\T≠e/\h.get? T=Gc oT/\oT.data=.fields ts/\ts[3]?=Gc .none/\H T=none/\¬old T
structure Fly(old:qb->Prop)(H:Hp)(h:rT)(e C:qb)(od:qY qb):Prop where
 free:H e=none
 new:¬old e
 ex:∃oe vs a0 v,h.get? e=Gc oe/\oe.cls=.ref C/\oe.data=.fields vs/\vs[0]?=Gc a0/\vs[1]?=Gc v/\Tb old H h e v/\∀dx,od=Gc dx->oe.dict=Gc dx
theorem Fly.imp{old old':qb->Prop}{H:Hp}{h:rT}{e C:qb}{od:qY qb}(f:Fly old H h e C od)(m:∀b,old' b->old b):Fly old' H h e C od:=by
 obtain⟨oe,vs,a0,v,h1,h2,h3,h4,h5,t,hd⟩:=f.ex
 refine⟨f.free,λz=>f.new (m _ z),oe,vs,a0,v,h1,h2,h3,h4,h5,?_,hd⟩
 rcases t with t|⟨T,oT,ts,t1,t2,t3,t4,t5,t6,t7⟩
 .exact .inl t
 .exact .inr ⟨T,oT,ts,t1,t2,t3,t4,t5,t6,λz=>t7 (m _ z)⟩
structure bZ(old:qb->Prop)(H:Hp)(h:rT)(e C:qb)(od:qY qb):Prop where
 free:H e=none
 new:¬old e
 ex:∃oe vs a0 T oT ts,h.get? e=Gc oe/\oe.cls=.ref C/\oe.data=.fields vs/\vs[0]?=Gc a0/\vs[1]?=Gc (.ref T)/\(T≠e/\h.get? T=Gc oT/\oT.data=.fields ts/\ts[3]?=Gc .none/\H T=none/\¬old T)/\∀dx,od=Gc dx->oe.dict=Gc dx
theorem bZ.fly{old:qb->Prop}{H:Hp}{h:rT}{e C:qb}{od:qY qb}(f:bZ old H h e C od):Fly old H h e C od:=by
 obtain⟨oe,vs,a0,T,oT,ts,h1,h2,h3,h4,h5,r,hd⟩:=f.ex
 exact⟨f.free,f.new,oe,vs,a0,.ref T,h1,h2,h3,h4,h5,.inr ⟨T,oT,ts,rfl,r⟩,hd⟩
structure Trn(X:Cx)(old:qb->Prop)(H:Hp)(h h':rT)(e C:qb)(od:qY qb):Prop where
 keep:∀b o,h.get? b=Gc o->b∉frs X.stack->(H b≠none\/old b\/∀vs,o.data≠.fields vs)->h'.get? b=Gc o
 slot:∀b o,h.get? b=Gc o->(∀vs,o.data≠.fields vs)->∃sl,h'.get? b=Gc {o with slots:=sl}
 fly:bZ old H h' e C od
theorem Cv.there{P:rF}{w:rX}{H:Hp}{h:rT}{a:qb}{o:HO}(x:Cv P w H h a o):∃ob,h.get? a=Gc ob:=by
 cases o with
 |lst xs=>obtain⟨_,_,_,_,e⟩:=x;exact⟨_,e⟩
 |tup xs=>obtain⟨_,_,_,ob,e,_⟩:=x;exact⟨_,e⟩
 |dK kvs=>obtain⟨_,_,_,_,o,_,_,e,_⟩:=x;exact⟨_,e⟩
 |dT kvs=>obtain⟨_,_,_,_,o,_,_,e,_⟩:=x;exact⟨_,e⟩
 |set S n=>obtain⟨o,_,_,_,e,_⟩:=x;exact⟨_,e⟩
 |ins C dx fs=>obtain⟨_,_,_,e,_⟩:=x;exact⟨_,e⟩
 |own y=>obtain⟨_,e⟩:=x;exact⟨_,e⟩
 |xd fs=>obtain⟨_,⟨_,_,_,e,_⟩,_⟩:=x;exact⟨_,e⟩
 |rng lo hi=>obtain⟨_,_,_,e⟩:=x;exact⟨_,e⟩
 |frz ob u=>obtain⟨e,_⟩:=x;exact⟨_,e⟩
 |tbl ps=>exact⟨_,(show h.get? a=Gc _ from x)⟩
 |met f y=>exact⟨_,(show h.get? a=Gc _ from x)⟩
 |ext φ=>obtain⟨_,⟨_,e⟩,_⟩:=x;exact⟨_,e⟩
section
variable{X:Cx}{pins:Wp (qb×Obj)}{σ:St}{H:Hp}{s:qX}{old:qb->Prop}{e C:qb}{od:qY qb}{Q:Unit->qX->Prop}{E:qT->qX->Prop}{A:rS}
theorem Tx{h:rT}{a b:qb}{oa o:Obj}{vs:rP qT}(ha:h.get? a=Gc oa)(hd:oa.data=.fields vs)(hb:h.get? b=Gc o)(n:∀vs,o.data≠.fields vs):b≠a:=λz=>by
 rw[z,ha]at hb
 cases hb
 exact n _ hd
theorem Zk{H:Hp}{h:rT}{a b:qb}{oa o:Obj}{vs:rP qT}(ha:h.get? a=Gc oa)(hd:oa.data=.fields vs)(fr:H a=none)(nw:¬old a)(hb:h.get? b=Gc o)(k:H b≠none\/old b\/∀vs,o.data≠.fields vs):b≠a:=λz=>by
 subst z
 rcases k with k|k|k
 .exact k fr
 .exact nw k
 .exact Tx ha hd hb k rfl
theorem Q7{ts:rP qT}{i:Nat}{v:qT}(h:ts[i]?=Gc v):ts.setIfInBounds i v=ts:=by
 apply Array.ext (by simp)
 intro j h1 h2
 rw[Array.getElem_setIfInBounds]
 split
 .rename_i z
  subst z
  obtain⟨_,q⟩:=vE.mp h
  exact q.symm
 .rfl
theorem Ob{M:AAH}(I:Inv X pins σ H s)(hA:A.frames=Gc X.stack)(hst:X.stack=X.env::X.outer)(hf:X.env.frame=Gc X.env.locals)(free:H e=none)(new:¬old e)(ho:∀b,old b->s.heap.get? b≠none){oe:Obj}{vs:rP qT}{a0 head:qT}{hadNext:rR}(he:s.heap.get? e=Gc oe)(hc:oe.cls=.ref C)(hd:oe.data=.fields vs)(h0:vs[0]?=Gc a0)(hz:1<vs.size)(hdx:∀dx,od=Gc dx->oe.dict=Gc dx)(hQ:∀h',Trn X old H s.heap h' e C od->Q () {s with heap:=h'}):wpAny M A (do let a<-frameOf X.env;let pl<-entryPlaceOf X.env.locals hadNext;let b<-AAC head a .none (rawInt X.env.locals) .none pl;setField (.ref e) 1 b) (λ_ s2=>wpAny M A (setFlight (.ref e) none) Q E s2) E s:=by
 have st:=I.stack
 have ef:e∉frs X.stack:=λm=>by
  obtain⟨_,o,q,n⟩:=st.mem m
  exact Tx he hd q n rfl
 have hfr:A.frames=Gc (X.env::X.outer):=by rw[hA,hst]
 rw[hst]at st
 refine qR (wpAny_frameOf_fun hfr st hf λh1 hs=>?_)
 obtain⟨sz,out,sl⟩:=hs
 refine qR (wpAny_entryPlaceOf λpl hpl=>?_)
 unfold AAC newFields
 refine qR (rm ?_ (hpl.sizeOk5 _ _ _ _ _))
 generalize hob:({cls:=.type "traceback",data:=.fields ([head,.ref X.env.locals,.none,rawInt X.env.locals,.none]++(if pl.isEmpty then qz 6 rf else pl)).toArray}:Obj)=tb
 have ef':e∉(X.env::X.outer).filterMap (·.frame):=by rw[<-hst];exact ef
 have e1:h1.get? e=Gc oe:=(out e ef').trans he
 have e2:(h1.push tb).get? e=Gc oe:=qU _ e1
 refine tZ e2 hd hz ?_
 have Te:h1.objs.size≠e:=ur (qq e1)
 have d3:=sE hd (·.setIfInBounds 1 (rY h1.objs.size))
 have e3:=rK (se (·.setIfInBounds 1 (rY h1.objs.size))) e2 (sU d3)
 have tbd:∃ts:rP qT,tb.data=.fields ts/\3<ts.size:=⟨_,by rw[<-hob],by simp only[qr,rZ,rV,uA]<;>lia⟩
 obtain⟨ts,td,tz⟩:=tbd
 have T3:((h1.push tb).update e (se (·.setIfInBounds 1 (rY h1.objs.size)))).get? h1.objs.size=Gc tb:=(rE _ _ Te.symm).trans (qk h1 (sU td))
 unfold setFlight
 refine qR (uH e3 d3 (x:=.ref h1.objs.size) (by simp[hz]) ?_)
 rw[q9 (show(rY h1.objs.size !=rf)=true from by simp)]
 refine tZ T3 td tz (hQ _ ?_)
 have T4:=rK (se (·.setIfInBounds 3 ((none:qY qb).elim rf λf=>rawInt f))) T3 (sU (sE td _))
 have all:∀b o,b≠e->h1.get? b=Gc o->(((h1.push tb).update e (se (·.setIfInBounds 1 (rY h1.objs.size)))).update h1.objs.size (se (·.setIfInBounds 3 ((none:qY qb).elim rf λf=>rawInt f)))).get? b=Gc o:=λb o n q=>by
  rw[rE _ _ (ur (qq q)),rE _ _ (rh n)]
  exact qU _ q
 have Tn:s.heap.get? h1.objs.size=none:=by
  cases q:s.heap.get? h1.objs.size with
  |none=>rfl
  |some o=>
   obtain⟨sl',z⟩:=sl _ o q
   exact absurd (qq z) (sV _)
 refine⟨λb o q nf k=>all b o (Zk he hd free new q k) ((out b (by rw[<-hst];exact nf)).trans q),λb o q n=>?_,free,new,_,_,a0,h1.objs.size,_,_,(rE _ _ Te).trans e3,(v5 _ _).trans hc,d3,by rw[Array.getElem?_setIfInBounds_ne (by decide)];exact h0,by simp[hz],⟨Te,T4,sE td _,by simp[tz],?_,λz=>ho _ z Tn⟩,λdx z=>?_⟩
 .obtain⟨sl',z⟩:=sl b o q
  exact⟨sl',all b _ (Tx he hd q n) z⟩
 .cases q:H h1.objs.size with
  |none=>rfl
  |some o=>
   obtain⟨ob,z⟩:=Cv.there (I.hok _ o q)
   rw[Tn]at z;cases z
 .rw[<-hdx dx z]
  obtain⟨c,dd,da,sl⟩:=oe
  cases da<;>first|rfl|(simp[se];done)
theorem RV{M:AAH}(I:Inv X pins σ H s)(hA:A.frames=Gc X.stack)(hst:X.stack=X.env::X.outer)(hf:X.env.frame=Gc X.env.locals)(f:Fly old H s.heap e C od)(ho:∀b,old b->s.heap.get? b≠none)(hQ:∀h',Trn X old H s.heap h' e C od->Q () {s with heap:=h'}):wpAny M A (noteFrame (.ref e) X.env) (λ_ s2=>wpAny M A (setFlight (.ref e) none) Q E s2) E s:=by
 obtain⟨oe,vs,a0,v,h1,h2,h3,h4,h5,t,hd⟩:=f.ex
 have hz:=(vE.mp h5).1
 unfold noteFrame
 simp only[hf]
 refine qR (uH h1 h3 h5 ?_)
 rcases t with t|⟨T,oT,ts,t1,t2,t3,t4,t5,t6,t7⟩
 .subst t
  rw[rA (by decide)]
  exact Ob I hA hst hf f.free f.new ho h1 h2 h3 h4 hz hd hQ
 .subst t1
  rw[q9 (show(rY T !=rf)=true from by simp)]
  refine qR (uH t3 t4 t5 ?_)
  rw[rA (show¬((rf==rawInt X.env.locals)=true)from by simp[rawInt])]
  refine qR (tZ t3 t4 (vE.mp t5).1 ?_)
  have oth:∀b,b≠T->(s.heap.update T (se (·.setIfInBounds 3 rf))).get? b=s.heap.get? b:=λb n=>rE _ _ (rh n)
  have sm:=Q7 t5
  have up:(s.heap.update T (se (·.setIfInBounds 3 rf))).get? T=Gc oT:=by
   rw[rK _ t3 (sU (sE t4 _))]
   obtain⟨c,dd,da,sl⟩:=oT
   cases t4
   show Gc ({cls:=c,dict:=dd,data:=.fields (ts.setIfInBounds 3 .none),slots:=sl}:Obj)=_
   rw[sm]
  have same:∀b,(s.heap.update T (se (·.setIfInBounds 3 rf))).get? b=s.heap.get? b:=λb=>by
   by_cases z:b=T
   .rw[z,up,t3]
   .exact oth b z
  have I':Inv X pins σ H {s with heap:=s.heap.update T (se (·.setIfInBounds 3 rf))}:=I.kept (t':=s.toks) λb u q=>(same b).trans q
  refine Ob (s:={s with heap:=s.heap.update T (se (·.setIfInBounds 3 rf))}) I' hA hst hf f.free f.new (λb z q=>ho b z ((same b).symm.trans q)) ((same e).trans h1) h2 h3 h4 hz hd λh' t=>hQ h' ⟨λb o q=>t.keep b o ((same b).trans q),λb o q=>t.slot b o ((same b).trans q),t.fly⟩
theorem UG{M:AAH}(I:Inv X pins σ H s)(f:bZ old H s.heap e C od)(hQ:∀h',Trn X old H s.heap h' e C od->Q () {s with heap:=h'}):wpAny M A (setFlight (.ref e) none) Q E s:=by
 obtain⟨oe,vs,a0,T,oT,ts,h1,h2,h3,h4,h5,⟨t2,t3,t4,t5,t6,t7⟩,hd⟩:=f.ex
 unfold setFlight
 refine qR (uH h1 h3 h5 ?_)
 rw[q9 (show(rY T !=rf)=true from by simp)]
 refine tZ t3 t4 (vE.mp t5).1 (hQ _ ?_)
 have up:(s.heap.update T (se (·.setIfInBounds 3 ((none:qY qb).elim rf λf=>rawInt f)))).get? T=Gc oT:=by
  rw[rK _ t3 (sU (sE t4 _))]
  obtain⟨c,dd,da,sl⟩:=oT
  cases t4
  show Gc ({cls:=c,dict:=dd,data:=.fields (ts.setIfInBounds 3 .none),slots:=sl}:Obj)=_
  rw[Q7 t5]
 have same:∀b,(s.heap.update T (se (·.setIfInBounds 3 ((none:qY qb).elim rf λf=>rawInt f)))).get? b=s.heap.get? b:=λb=>by
  by_cases z:b=T
  .rw[z,up,t3]
  .exact rE _ _ (rh z)
 exact⟨λb o q _ _=>(same b).trans q,λb o q _=>⟨o.slots,(same b).trans q⟩,f.free,f.new,oe,vs,a0,T,oT,ts,(same e).trans h1,h2,h3,h4,h5,⟨t2,up,t4,t5,t6,t7⟩,hd⟩
end
def bH(X:Cx)(pins:Wp (qb×Obj))(b:qb):Prop:=X.s₀.heap.get? b≠none\/∃p∈X.pn++pins,p.1=b
section
variable{X:Cx}{pins:Wp (qb×Obj)}{σ:St}{H:Hp}{s:qX}{old:qb->Prop}{e C:qb}{od:qY qb}{h':rT}
theorem Vg(hst:X.stack=X.env::X.outer)(hf:X.env.frame=Gc X.env.locals):frs X.stack=X.env.locals::X.fs:=by
 rw[hst];unfold frs Cx.fs frs;rw[sM,hf]
theorem IZ(I:Inv X pins σ H s)(hx:X.ex=[]):∀b,bH X pins b->s.heap.get? b≠none:=λb z=>by
 rcases z with z|⟨p,m,rfl⟩
 .cases q:X.s₀.heap.get? b with
  |none=>exact absurd q z
  |some o=>
   obtain⟨o',e'⟩:=I.base.there b o q (by rw[hx];exact λz=>nomatch z)
   rw[e'];exact λz=>nomatch z
 .rw[(I.pin p m).1];exact λz=>nomatch z
theorem Ts(I:Inv X pins σ H s)(t:Trn X old H s.heap h' e C od):HOk X.prog X.w H h':=λa o q=>by
 refine(I.hok a o q).Wq (λb u hb e1=>?_) (λ_ z=>z) λ_ _ z=>z
 have hn:H b≠none:=by
  rcases hb with z|z
  .subst z;rw[q];exact λz=>nomatch z
  .rw[z];exact λz=>nomatch z
 exact t.keep b u e1 (λz=>hn (I.PZ b z)) (.inl hn)
theorem Yi(I:Inv X pins σ H s)(hst:X.stack=X.env::X.outer)(hf:X.env.frame=Gc X.env.locals)(hx:X.ex=[])(t:Trn X (bH X pins) H s.heap h' e C od):Un X.fs X.ex X.H₀ H X.s₀.heap h':=by
 have hs:=Vg hst hf
 have nL:∀b o,X.s₀.heap.get? b=Gc o->b≠X.env.locals:=λb o e1=>qv (qf (qq e1) I.ok.above)
 have od:∀b o,X.s₀.heap.get? b=Gc o->bH X pins b:=λb o e1=>.inl (by rw[e1];exact λz=>nomatch z)
 have fd:∀b o,b∈X.fs->X.s₀.heap.get? b=Gc o->∀vs,o.data≠.fields vs:=λb o hb e1 vs=>by
  obtain⟨_,o',e2,q⟩:=I.ok.SF.mem hb
  rw[e1]at e2;cases e2
  exact q vs
 refine⟨λb o e1 n hb hx'=>?_,λb o e1 n hb hx'=>?_,I.base.free,λb o e1 hx'=>?_,I.base.WO,I.base.V5,I.base.WY⟩
 .refine t.keep b o (I.base.keep b o e1 n hb hx') (λz=>?_) (.inr (.inl (od b o e1)))
  rw[hs]at z
  exact(qj.mp z).elim (nL b o e1) hb
 .obtain⟨sl,q⟩:=I.base.slot b o e1 n hb hx'
  obtain⟨sl',q'⟩:=t.slot b _ q (fd b o hb e1)
  exact⟨sl',q'⟩
 .obtain⟨o',q⟩:=I.base.there b o e1 hx'
  by_cases hb:b∈frs X.stack
  .obtain⟨_,o2,q2,d⟩:=I.stack.mem hb
   obtain⟨sl,z⟩:=t.slot b o2 q2 d
   exact⟨_,z⟩
  .exact⟨o',t.keep b o' q hb (.inr (.inl (od b o e1)))⟩
theorem TX(I:Inv X pins σ H s)(hst:X.stack=X.env::X.outer)(hf:X.env.frame=Gc X.env.locals)(hx:X.ex=[])(t:Trn X (bH X pins) H s.heap h' e C od):Inv X pins σ H {s with heap:=h'}:=by
 have hs:=Vg hst hf
 have cl:∀c v,s.heap.IsCell c v->h'.IsCell c v:=λc v ⟨o,ho,hd⟩=>by
  obtain⟨sl,q⟩:=t.slot c o ho λvs z=>by rw[hd]at z;cases z
  exact⟨_,q,hd⟩
 refine⟨I.ok,I.os,I.bare,Yi I hst hf hx t,?_,λx c e1=>?_,I.free,I.JP,λp m=>?_,Ts I t,I.len⟩
 .obtain⟨m,hn,hl⟩:=I.loc
  refine⟨m,Heap.UpToSlots.ns (λb o e1 e2=>t.slot b o e1 e2) hn,λi x v e1 e2 e3=>?_⟩
  obtain⟨u,r,l⟩:=hl i x v e1 e2 e3
  refine⟨u,r,?_⟩
  rcases l with l|⟨k,c,e4,z⟩
  .exact .inl l
  .exact .inr ⟨k,c,e4,cl c _ z⟩
 .obtain⟨v,z⟩:=I.cell x c e1
  exact⟨v,cl c v z⟩
 .obtain⟨p1,p2,p3,p4,p5⟩:=I.pin p m
  refine⟨t.keep _ _ p1 (λz=>?_) (.inr (.inl (.inr ⟨p,m,rfl⟩))),p2,p3,p4,p5⟩
  rw[hs]at z
  exact(qj.mp z).elim p3 p4
end
abbrev Rk:=qb->qY qb->St->Hp->Prop
abbrev TR:=St->Hp->Rk->Prop
def XP(X:Cx)(pins:Wp (qb×Obj))(Z:Rk)(ev:qT)(s':qX):Prop:=∃e C od σ' H',ev=.ref e/\Inv X pins σ' H' s'/\Z C od σ' H'/\Fly (bH X pins) H' s'.heap e C od
def PX(X:Cx)(st:sG)(t:TR):Prop:=∀(pins:Wp (qb×Obj)) (s:qX) (σ:St) (H:Hp) (Z:Rk),Inv X pins σ H s->t σ H Z->wpAny (model X.prog X.w) X.A (exec st X.env) (λ_ _=>uP) (XP X pins Z) s
def PXs(X:Cx)(sts:Wp sG)(t:TR):Prop:=∀(pins:Wp (qb×Obj)) (s:qX) (σ:St) (H:Hp) (Z:Rk),Inv X pins σ H s->t σ H Z->wpAny (model X.prog X.w) X.A (execs sts X.env) (λ_ _=>uP) (XP X pins Z) s
def PXe(X:Cx)(e:rJ)(t:TR):Prop:=∀(pins:Wp (qb×Obj)) (s:qX) (σ:St) (H:Hp) (Z:Rk),Inv X pins σ H s->t σ H Z->wpAny (model X.prog X.w) X.A (eval e X.env) (λ_ _=>uP) (XP X pins Z) s
noncomputable def CXr(P:rF)(w:rX):CXT:=λouter H s E ev s'=>∃e C od H',ev=.ref e/\s'.os=s.os/\wc s'.gens/\Un (frs outer) [] H H' s.heap s'.heap/\HOk P w H' s'.heap/\Fly (λb=>s.heap.get? b≠none) H' s'.heap e C od/\E (.ref C) od H'
theorem W9{P:rF}{w:rX}{K:qS}{mg:Str->qY qT}{base:rT}{N:Wp Str}{qual:Str}{scope:uz}{f:qb}{cd:qT}{A:rS}{outer:Wp xO}{s:qX}{H:Hp}{E:XK}{pins:Wp (qb×Obj)}{Z:Rk}{ev:qT}{s':qX}(h:XP (Qb (CXr P w) P w K mg base N qual scope f cd A outer s H E).nox pins Z ev s')(hZ:∀C od σ' H',Z C od σ' H'->E (.ref C) od H'):(Qb (CXr P w) P w K mg base N qual scope f cd A outer s H E).xe ev s':=by
 obtain⟨e,C,od,σ',H',rfl,I,z,fl⟩:=h
 show wpAny _ _ (leaving _ (.ref e)) _ _ s'
 unfold leaving
 refine qR (RV I I.ok.frames rfl rfl fl (IZ I rfl) λh' t=>?_)
 exact⟨e,C,od,H',rfl,I.os,I.bare,Yi I rfl rfl rfl t,Ts I t,t.fly.fly.imp λb z=>.inl z,hZ _ _ _ _ z⟩
structure Tg where
 nm:Str
 pay:qY Int
instance:Coe Str Tg:=⟨λx=>⟨x,none⟩⟩
def gX(mg:Str->qY qT)(x:Tg)(C:qb)(od:qY qb)(H:Hp):Prop:=mg x.nm=Gc (.ref C)/\∀n,x.pay=Gc n->∃dx,od=Gc dx/\H dx=Gc (.xd [("at",.int n)])
abbrev Rx:=En->Sto->qY (Tg×En×Sto)
abbrev Rf:=Wp D->Sto->qY (Tg×Sto)
noncomputable def tR(K:qS)(mg:Str->qY qT)(r:Rx):TR:=λσ H Z=>∃M E S x E' S',r E S=Gc (x,E',S')/\EnR K M E σ H/\StR K M S H/\∀C od σ' H' M',gX mg x C od H'->Gr M H M' H'->EnR K M' E' σ' H'->StR K M' S' H'->Z C od σ' H'
structure RS(X:Cx)(st:sG)(r:Rx):Prop where
 pe:PX X st (tR X.K X.mg r)
structure RSs(X:Cx)(st:Wp sG)(r:Rx):Prop where
 pe:PXs X st (tR X.K X.mg r)
structure RE(X:Cx)(e:rJ)(r:Rx):Prop where
 pe:PXe X e (tR X.K X.mg r)
noncomputable def spR(K:qS)(mg:Str->qY qT)(np:Nat)(R:Rf):Sp:=λvs H _ E=>∃M ds S x S',ds.length=np/\R ds S=Gc (x,S')/\Af K M H vs ds/\StR K M S H/\∀C od H' M',gX mg x C od H'->Gr M H M' H'->StR K M' S' H'->E (.ref C) od H'
noncomputable def SH(N:Nat)(r:Rx):Rf:=λds S=>(r (ds.map Gc++qz (N-ds.length) none) S).map λq=>(q.1,q.2.2)
structure d6(P:rF)(w:rX)(K:qS)(mg:Str->qY qT)(base:rT)(x:Str)(k:Nat)(ps:Wp Str)(sp:Sp):Prop where
 ex:∃f fd,mg x=Gc (.ref f)/\ue K (.ref f)=true/\Binds K fd ps []/\Nd P w K mg base (CXr P w) k f fd ps sp
section
variable{P:rF}{w:rX}{K:qS}{mg:Str->qY qT}{base:rT}
theorem bc{x:Str}{st:sG}{f:qb}{fd:uU}{N ps:Wp Str}{k np:Nat}{r:Rx}(Fu:Fun K x x st f fd)(S:AM N ps (AB st))(hp:ps.length=np)(hb:∀(cdv:qT) (A:rS) (outer:Wp xO) (s:qX) (H:Hp) (E:XK),JE k (A.deeper (tE x (AB st) s.heap.objs.size f cdv))->RSs (Qb CX0 P w K mg base N x (AB st) f cdv A outer s H E).nox (C0 st) r):Nd P w K mg base (CXr P w) (k+1) f fd ps (spR K mg np (Ap (SH N.length r))):=by
 rw[Mz]
 obtain⟨oc,od,kV,doc,pm,an,cdv,ct,osl,rfl,lk,hcd⟩:=Fu.ex
 refine cS lk hcd S (λvs H Q E h=>?_) λA outer s H vs Q E hr h=>?_
 .obtain⟨M,ds,S0,d,S',hl,_,r,_⟩:=h
  have:=r.length
  lia
 .obtain⟨M,ds,S0,y,S',hl,e,rr,st,q⟩:=h
  have hlen:=rr.length
  refine⟨λ_ σ H=>tR K mg r σ H λC od _ H'=>E (.ref C) od H',λpins s1 σ1 H1 D I h=>?_,?_⟩
  .exact ui ((hb cdv A outer s H E hr).pe pins s1 σ1 H1 _ (I.V2 _) h) (λ_ _ z=>z.elim) λev s' z=>W9 z λ_ _ _ _ z=>z
  .obtain⟨⟨y',E',S1⟩,e1,e⟩:=Hl e
   cases e
   refine⟨M,_,S0,y',E',S1,e1,?_,st,λC od σ' H' M' hm g _ st'=>q C od H' M' hm g st'⟩
   rw[show L2.start N vs=vs.map Gc++qz (N.length-ds.length) none from by unfold L2.start;rw[hlen]]
   exact .args rr _
theorem ZP{x:Str}{st:sG}{N ps:Wp Str}{k np:Nat}{r:Rx}(S:St.Src K mg x st)(sc:AM N ps (AB st))(hp:ps.length=np)(hbi:∀f fd,Fun K x x st f fd->Binds K fd ps [])(hb:∀(f:qb) (cdv:qT) (A:rS) (outer:Wp xO) (s:qX) (H:Hp) (E:XK),JE k (A.deeper (tE x (AB st) s.heap.objs.size f cdv))->RSs (Qb CX0 P w K mg base N x (AB st) f cdv A outer s H E).nox (C0 st) r):d6 P w K mg base x (k+1) ps (spR K mg np (Ap (SH N.length r))):=by
 obtain⟨f,fd,Fu,hm⟩:=S.ex
 exact⟨f,fd,hm,Fu.kp,hbi f fd Fu,bc Fu sc hp λcdv A outer s H E hr=>hb f cdv A outer s H E hr⟩
end
theorem IG{X:Cx}{α:Type}{M:AAH}{A:rS}{t:Sem α}{Q Q':α->qX->Prop}{E:qT->qX->Prop}{s:qX}(hn:X.xe=λ_ _=>uP)(h:wpAny M A t Q X.xe s)(hQ:∀a s,Q a s->Q' a s):wpAny M A t Q' E s:=
 ui h hQ λ_ _ z=>by rw[hn]at z;exact z.elim
noncomputable def TV(R:Rf)(fs:Wp Ev):Rx:=λE S=>(evs fs E S).bind λq=>(R q.1 q.2).map λz=>(z.1,E,z.2)
theorem bF{X:Cx}{k np:Nat}{x:Str}{ps:Wp Str}{R:Rf}{e:rJ}{es:Wp rJ}{fs:Wp Ev}{p pos:Pos}(d:d6 X.prog X.w X.K X.mg X.base x k ps (spR X.K X.mg np R))(hr:JE k X.A)(hg:Gl X x)(ha:DEs X (e::es) fs)(hn:fs.length=np:=by rfl)(hxe:X.xe=λ_ _=>uP:=by rfl)(hx:X.ex=[]:=by rfl)(hdb:(x==("__debug__":Str))=false:=by decide)(he:rB (e::es) X.env=(false,eval e X.env)::rB es X.env:=by rfl)(hpl:(backTo pos (rB es X.env)).any (·.1)=false:=by rfl):RE X (.Call (.Name x p) (e::es) [] pos) (TV R fs):=⟨by
 intro pins s σ H Z I h
 obtain⟨f,fd,hm,hk,hb,F⟩:=d.ex
 obtain⟨M,E,S,y,E',S',e0,r,st,q⟩:=h
 obtain⟨⟨ds,S1⟩,e1,e2⟩:=Ae e0
 obtain⟨⟨y',S2⟩,e3,e4⟩:=Hl e2
 cases e4
 refine uV (NA I hg hm ?_ hdb)
 have ha':=ha.pe pos pins s σ H (λvs H1=>∃M1,Gr M H M1 H1/\StR X.K M1 S1 H1/\Af X.K M1 H1 vs ds) I (FV e1 r st λvs H1 M1 g1 st1 r1=>⟨M1,g1,st1,r1⟩)
 refine AAQ (h₀:=X.base) I.ok.mod.kin hk (IG hxe ha' λus s1 ⟨vs,H1,I1,rv,M1,g1,st1,r1⟩=>⟨I1.kIn,?_⟩) he hpl
 have sp:spR X.K X.mg np R vs H1 (λ_ _=>uP) (λv od H'=>∃C,v=.ref C/\Z C od σ H'):=
  ⟨M1,ds,S1,y',S2,by rw[K3 e1];exact hn,e3,r1,st1,λC od H' M' hc g2 st2=>⟨C,rfl,q C od σ H' M' hc (g1.trans g2) ((r.step g1.st).step g2.st) st2⟩⟩
 have hl:(us++[]).length=ps.length:=by rw[uL,<-rv.length];exact F.len _ _ _ _ sp
 have hbs:=hb s1 us I1.kIn hl
 rw[uL]at hbs
 refine AAP (wt (F.run X.A X.stack s1 H1 ⟨us,[]⟩ us vs _ _ hr I1.mz hbs rv sp) λrs s' hq=>?_)
 cases rs with
 |error ev=>
  obtain⟨e,C,od,H',rfl,os,bare,un,hok,fly,C',hC,z⟩:=hq
  cases hC
  exact⟨e,C,od,σ,H',rfl,I1.fc os un hok bare (λb z=>nomatch z),z,fly.imp λb z=>IZ I1 hx b z⟩
 |ok fl=>
  cases fl with
  |ret u=>
   obtain⟨v,H',_,_,_,_,_,q⟩:=hq
   exact q.elim
  |next=>exact uj hq
  |brk=>exact uj hq
  |cont=>exact uj hq⟩
section
variable{X:Cx}{st:sG}{rest a b:Wp sG}{f g:Ex}{r r1 r2:Rx}{c e:rJ}{k:Ev}{pos:Pos}
theorem j7(h:RE X e r)(hs:swapsWith e none pos.line X.env=pure false:=by rfl):RS X (.Expr e pos) r:=⟨λpins s σ H Z I q=>wpAny_Expr_any (ui (h.pe pins s σ H Z I q) (λ_ _ z=>z) λ_ _ z=>z) I.quiet hs⟩
theorem cL(h:RE X e r):RS X (.Return (Gc e) pos) r:=⟨λpins s σ H Z I q=>wpAny_Return_some (ui (h.pe pins s σ H Z I q) (λ_ _ z=>z) λ_ _ z=>z)⟩
noncomputable def rNo:Rx:=λ_ _=>none
theorem pK:RS X st rNo:=⟨λ_ _ _ _ _ _ z=>by
 obtain⟨M,E,S,x,E',S',e,_⟩:=z
 cases e⟩
theorem mD:RSs X rest rNo:=⟨λ_ _ _ _ _ _ z=>by
 obtain⟨M,E,S,x,E',S',e,_⟩:=z
 cases e⟩
noncomputable def Y7(r:Rx)(f:Ex)(r2:Rx):Rx:=λE S=>match r E S with
 |some z=>Gc z
 |none=>(f E S).bind λq=>match q.1 with
  | .nx=>r2 q.2.1 q.2.2
  | .ret _=>none
theorem jB(h1:RS X st r)(hb:DS X st f)(h2:RSs X rest r2)(hxe:X.xe=λ_ _=>uP:=by rfl):RSs X (st::rest) (Y7 r f r2):=⟨λpins s σ H Z I z=>by
 obtain⟨M,E,S,x,E',S',e,rr,ss,q⟩:=z
 unfold Y7 at e
 split at e
 .rename_i z' e1
  cases e
  refine wF (ui (h1.pe pins s σ H Z I ⟨M,E,S,x,E',S',e1,rr,ss,q⟩) (λ_ _ z=>z.elim) λ_ _ z=>z)
 .obtain⟨⟨fl,E1,S1⟩,e1,e⟩:=Ae e
  dsimp only at e
  split at e
  .refine wF (IG hxe (hb.pe pins s σ H {nx:=λσ' H'=>tR X.K X.mg r2 σ' H' Z,rt:=λ_ _=>uP} I ⟨M,E,S,.nx,E1,S1,e1,rr,ss,λσ' H' M' g' r' st'=>⟨M',E1,S1,x,E',S',e,r',st',λC od σ2 H2 M2 hm g2=>q C od σ2 H2 M2 hm (g'.trans g2)⟩⟩) λfl s1 w=>?_)
   cases fl with
   |next=>
    obtain⟨σ',H',I',q'⟩:=w
    exact h2.pe pins s1 σ' H' Z I' q'
   |ret v=>obtain⟨_,_,_,_,_,q'⟩:=w;exact q'.elim
   |brk=>obtain⟨_,_,_,q'⟩:=w;exact q'.elim
   |cont=>obtain⟨_,_,_,q'⟩:=w;exact q'.elim
  .cases e⟩
theorem ZX(h1:RS X st r):RSs X [st] r:=⟨λpins s σ H Z I z=>wF (ui (h1.pe pins s σ H Z I z) (λ_ _ z=>z.elim) λ_ _ z=>z)⟩
noncomputable def rIf(k:Ev)(r1 r2:Rx):Rx:=λE S=>(k E S).bind λq=>match q.1 with
 | .bl true=>r1 E q.2
 | .bl false=>r2 E q.2
 |_=>none
theorem pQ(hc:DT X c k)(ha:RSs X a r1)(hb:RSs X b r2)(hxe:X.xe=λ_ _=>uP:=by rfl):RS X (.If c a b pos) (rIf k r1 r2):=⟨λpins s σ H Z I z=>by
 obtain⟨M,E,S,x,E',S',e,rr,ss,q⟩:=z
 obtain⟨⟨w1,S1⟩,e1,e⟩:=Ae e
 dsimp only at e
 split at e
 .refine wpAny_If (IG hxe (hc.pe pins s σ H (λd H1=>d=true/\tR X.K X.mg r1 σ H1 Z) I ⟨M,E,S,_,S1,e1,rr,ss,λH1 M1 g1 st1=>⟨rfl,M1,E,S1,x,E',S',e,rr.step g1.st,st1,λC od σ2 H2 M2 hm g2=>q C od σ2 H2 M2 hm (g1.trans g2)⟩⟩) λd s1 w=>?_)
  obtain⟨H1,I1,rfl,q1⟩:=w
  exact ha.pe pins s1 σ H1 Z I1 q1
 .refine wpAny_If (IG hxe (hc.pe pins s σ H (λd H1=>d=false/\tR X.K X.mg r2 σ H1 Z) I ⟨M,E,S,_,S1,e1,rr,ss,λH1 M1 g1 st1=>⟨rfl,M1,E,S1,x,E',S',e,rr.step g1.st,st1,λC od σ2 H2 M2 hm g2=>q C od σ2 H2 M2 hm (g1.trans g2)⟩⟩) λd s1 w=>?_)
  obtain⟨H1,I1,rfl,q1⟩:=w
  exact hb.pe pins s1 σ H1 Z I1 q1
 .cases e⟩
end
abbrev VEm:Wp qT:=[.type "ValueError",.type "Exception",.type "BaseException",.type "object"]
structure XcD(K:qS)(mg:Str->qY qT)(x:Str):Prop where
 ex:∃C,mg x=Gc (.ref C)/\yg K C VEm "ValueError.__new__"=true
theorem lI{K:qS}{h:rT}{mg:Str->qY qT}{x:Str}{C:qb}(X:K.In h)(G:h.Ns mainGlobals mg)(e:ub K mainGlobals x=Gc (Gc (.ref C)))(q:yg K C VEm "ValueError.__new__"=true):XcD K mg x:=⟨C,xS X G e,q⟩
theorem Zp{K:qS}{h:rT}{C:qb}{bmB:Wp qT}{newId:uO}(X:K.In h)(q:yg K C bmB newId=true):∃bm N nm q bs hdct sn sub ab col dd k0 k1 k2 k3 k5 mN,h.get? C=Gc (excClassObj nm q C N bs bm hdct sn sub ab col dd k0 k1 k2 k3 k5 newId)/\h.Ns N mN/\mN "__init__"=none/\OwnTail h bmB bm:=by
 unfold yg at q
 split at q
 case h_2=>cases q
 rename_i dd cd sl ho
 split at q
 case h_2=>cases q
 rename_i C' bm k0 k1 k2 k3 n k5 hm hs
 simp only[qt,vf,Bool.not_eq_true']at q
 obtain⟨⟨⟨⟨⟨rfl,rfl⟩,hdel⟩,ht⟩,hok⟩,hni⟩:=q
 have hsl:sl= #[k0,k1,k2,k3,Gc (.builtin n),k5]:=Array.toList_inj.mp hs
 obtain⟨nm,bs,mro,ns,qn,hd,sn,sub,ab,col,del⟩:=cd
 dsimp only at hm hdel hok hni
 subst hm hdel hsl
 exact⟨bm,ns,nm,qn,bs,hd,sn,sub,ab,col,dd,k0,k1,k2,k3,k5,_,X _ _ ho,.of_isNs (PySem.W.isNs_of_in X hok),PySem.W.nsMap_none_of_in X hok hni,PySem.W.tail_of_in X ht⟩
noncomputable def RH(x:Str)(fs:Wp Ev):Rx:=λE S=>(evs fs E S).map λq=>(⟨x,none⟩,E,q.2)
theorem gP{X:Cx}{x:Str}{e:rJ}{es:Wp rJ}{fs:Wp Ev}{np cpos pos:Pos}(hc:X.calm=true)(xc:XcD X.K X.mg x)(hg:Gl X x)(ha:DEs X (e::es) fs)(hl:fs.length<=sizeLine:=by decide)(hxe:X.xe=λ_ _=>uP:=by rfl)(hx:X.ex=[]:=by rfl)(hdb:(x==("__debug__":Str))=false:=by decide)(he:rB (e::es) X.env=(false,eval e X.env)::rB es X.env:=by rfl)(hpl:(backTo cpos (rB es X.env)).any (·.1)=false:=by rfl):RS X (.Raise (Gc (.Call (.Name x np) (e::es) [] cpos)) none pos) (RH x fs):=⟨by
 intro pins s σ H Z I h
 obtain⟨C,hm,hex⟩:=xc.ex
 obtain⟨M,E,S,y,E',S',e0,r,st,q⟩:=h
 obtain⟨⟨ds,S1⟩,e1,e2⟩:=Hl e0
 cases e2
 obtain⟨tl,N,nm,qn,bs,hdct,sn,sub,ab,col,dd,k0,k1,k2,k3,k5,mN,hC,hN,hni,T⟩:=Zp I.ok.mod.kin hex
 refine wpAny_Raise_call_subT (C:=C) (nm:=nm) (q:=qn) (N:=N) (bs:=bs) (bm:=tl) (hdct:=hdct) (sn:=sn) (sub:=sub) (ab:=ab) (col:=col) (dd:=dd) (k0:=k0) (k1:=k1) (k2:=k2) (k3:=k3) (k5:=k5)
  zr (mN:=mN) (T.hasType zr.hasBase) (I.ok.hd hc) (by rw[he];show(false||(backTo cpos (rB es X.env)).any (·.1))=false;rw[hpl];rfl) hni (NA I hg hm ⟨rfl,?_⟩ hdb)
 have ha':=ha.pe cpos pins s σ H (λvs H1=>∃M1,Gr M H M1 H1/\StR X.K M1 S1 H1/\Af X.K M1 H1 vs ds) I (FV e1 r st λvs H1 M1 g1 st1 r1=>⟨M1,g1,st1,r1⟩)
 rw[he]at ha'⊢
 refine xV (IG hxe ha' λus s1 ⟨vs,H1,I1,rv,M1,g1,st1,r1⟩=>?_)
 refine⟨rfl,by rw[<-rv.length,r1.length,K3 e1];exact hl,I1.bk _ _ hC,hN.keeps I1.bk,T.keeps I1.bk,λh' ea hmd=>?_⟩
 obtain⟨t,w1,w2,w3⟩:=hmd.there
 refine⟨ea,C,none,σ,H1,rfl,I1.kept (t':=s1.toks) hmd.keeps,q C none σ H1 M1 ⟨hm,λ_ z=>nomatch z⟩ g1 (r.step g1.st) st1,?_,λz=>IZ I1 hx _ z hmd.new,_,_,.ref t,.none,w1,rfl,rfl,rfl,rfl,.inl rfl,λ_ z=>nomatch z⟩
 cases o:H1 ea with
 |none=>rfl
 |some ho=>
  obtain⟨ob,z⟩:=Cv.there (I1.hok ea ho o)
  rw[hmd.new]at z;cases z⟩
abbrev Cx.mrk(X:Cx)(e:qb):Cx:={X with A:=X.A.mark (Gc (.ref e)),calm:=false}
section
variable{X:Cx}{pins:Wp (qb×Obj)}{σ:St}{H:Hp}{s:qX}{e:qb}
theorem fW(ok:X.Ok):(Cx.mrk X e).Ok:=⟨ok.mod,ok.kind,ok.glob,ok.blt,ok.above,ok.inj,ok.has,ok.cab,(λz=>nomatch z),ok.frames,ok.stk,ok.exf,ok.bs,ok.bsz,ok.YY,ok.Zj,ok.SF,ok.frf⟩
theorem ZA(I:Inv X pins σ H s):Inv (Cx.mrk X e) pins σ H s:=⟨fW I.ok,I.os,I.bare,I.base,I.loc,I.cell,I.free,I.JP,I.pin,I.hok,I.len⟩
theorem Ig(ok:X.Ok)(I:Inv (Cx.mrk X e) pins σ H s):Inv X pins σ H s:=⟨ok,I.os,I.bare,I.base,I.loc,I.cell,I.free,I.JP,I.pin,I.hok,I.len⟩
theorem Wh{D:Ends}{f:Flow}(ok:X.Ok)(h:SP (Cx.mrk X e) pins D f s):SP X pins D f s:=by
 cases f with
 |next=>obtain⟨σ',H',I,q⟩:=h;exact⟨σ',H',Ig ok I,q⟩
 |brk=>obtain⟨σ',H',I,q⟩:=h;exact⟨σ',H',Ig ok I,q⟩
 |cont=>obtain⟨σ',H',I,q⟩:=h;exact⟨σ',H',Ig ok I,q⟩
 |ret u=>obtain⟨v,σ',H',I,r,q⟩:=h;exact⟨v,σ',H',Ig ok I,r,q⟩
end
structure HS(X:Cx)(hs:Wp yh)(g:Tg->Ex):Prop where
 pe:∀(x:Tg) (C:qb) (od:qY qb) (pins:Wp (qb×Obj)) (s:qX) (σ:St) (H:Hp) (D:Ends) (e:qb),gX X.mg x C od H->Inv X pins σ H s->bZ (bH X pins) H s.heap e C od->tX X.K (g x) D σ H->
  wpAny (model X.prog X.w) X.A (handleBy (.ref e) X.env hs) (SP X pins D) (λ_ _=>uP) s
noncomputable def gNo:Tg->Ex:=λ_ _ _=>none
theorem dA{X:Cx}:HS X [] gNo:=⟨λ_ _ _ _ _ _ _ _ _ _ _ _ z=>by
 obtain⟨M,E,S,fl,E',S',e,_⟩:=z
 cases e⟩
structure XmD(K:qS)(mg:Str->qY qT)(xs:Wp Str)(y:Str):Prop where
 ex:∃C',mg y=Gc (.ref C')/\∀x∈xs,∀C,mg x=Gc (.ref C)->wD K (.ref C) (.ref C')=Gc (x==y)
noncomputable def gOr(xs:Wp Str)(y:Str)(f:Ex)(g:Tg->Ex):Tg->Ex:=λx=>if x.nm∈xs then(if(x.nm==y)=true then f else g x)else LH
theorem ZY{X:Cx}{xs:Wp Str}{y:Str}{b₀:sG}{suite:Wp sG}{f:Ex}{g:Tg->Ex}{np pos:Pos}{rest:Wp yh}(xm:XmD X.K X.mg xs y)(hg:Gl X y)(hf:∀e,DSs (Cx.mrk X e) (b₀::suite) f)(hr:HS X rest g)(hxe:X.xe=λ_ _=>uP:=by rfl)(hx:X.ex=[]:=by rfl)(hst:X.stack=X.env::X.outer:=by rfl)(hfr:X.env.frame=Gc X.env.locals:=by rfl)(hdb:(y==("__debug__":Str))=false:=by decide):HS X (.ExceptHandler (Gc (.Name y np)) none (b₀::suite) pos::rest) (gOr xs y f g):=⟨by
 intro x C od pins s σ H D e tg I fl z
 have hm:=tg.1
 obtain⟨C',hm',hex⟩:=xm.ex
 have hin:x.nm∈xs:=by
  by_cases h:x.nm∈xs
  .exact h
  .obtain⟨M,E,S,fl,E',S',e,_⟩:=z
   unfold gOr at e
   rw[rA h]at e
   cases e
 have z':tX X.K (if(x.nm==y)=true then f else g x) D σ H:=by
  unfold gOr at z
  rw[q9 hin]at z
  exact z
 have ex:=hex x.nm hin C hm
 obtain⟨oe,vs,a0,T,oT,ts,h1,h2,_⟩:=id fl.ex
 have LT:PySem.W.Looks (model X.prog X.w) s.heap (typeOf (.ref e)) (.ref C):=by
  rw[<-h2];exact(PySem.W.Looks.ld h1).andThen .now
 refine wpAny_handleBy_cons (codeAny_handlers_test (v7 I.ok.kind hg (yo (by rw[I.ok.glob];exact I.mod.glob.keeps I.bk) hm' ?_) hdb)) (by intro q;cases q)
 refine PySem.W.exm_one I.kIn LT ex _ _ _ _ (λ_ _ q=>q) ?_
 cases hb:(x.nm==y)with
 |true=>
  rw[q9 hb]at z'
  refine codeAny_handlers_suite (wpAny_passesOwnAt PassesOwnAt.never (UG I fl λh' t=>?_))
  have I':=ZA (e:=e) (TX I hst hfr hx t)
  exact wpAny_passesOwnAt PassesOwnAt.never (IG (X:=Cx.mrk X e) hxe ((hf e).pe pins _ σ H D I' z') λfl s2 w=>Wh I.ok w)
 |false=>
  rw[rA (by rw[hb];decide)]at z'
  exact hr.pe x C od pins s σ H D e tg I fl z'⟩
noncomputable def dQ(f:Ex)(r:Rx)(g:Tg->Ex):Ex:=λE S=>match f E S with
 |some z=>Gc z
 |none=>(r E S).bind λq=>g q.1 q.2.1 q.2.2
theorem eB{X:Cx}{body:Wp sG}{h₀:yh}{hs:Wp yh}{f:Ex}{r:Rx}{g:Tg->Ex}{pos:Pos}(hb:DSs X body f)(hr:RSs X body r)(hh:HS X (h₀::hs) g)(hxe:X.xe=λ_ _=>uP:=by rfl)(hx:X.ex=[]:=by rfl)(hst:X.stack=X.env::X.outer:=by rfl)(hfr:X.env.frame=Gc X.env.locals:=by rfl):DS X (.Try body (h₀::hs) [] [] pos) (dQ f r g):=⟨by
 intro pins s σ H D I z
 obtain⟨M,E,S,fl,E',S',e,rr,ss,q⟩:=z
 unfold dQ at e
 split at e
 .rename_i z' e1
  cases e
  refine wpAny_Try_except (IG hxe (hb.pe pins s σ H D I ⟨M,E,S,fl,E',S',e1,rr,ss,q⟩) λf s1 w=>?_)
  cases f with
  |next=>exact wV w
  |ret u=>exact w
  |brk=>exact w
  |cont=>exact w
 .obtain⟨⟨x,E1,S1⟩,e1,e⟩:=Ae e
  dsimp only at e
  refine wpAny_Try_except (ui (hr.pe pins s σ H (λC od σ' H'=>gX X.mg x C od H'/\tX X.K (g x) D σ' H') I ⟨M,E,S,x,E1,S1,e1,rr,ss,λC od σ' H' M' hm g' r' st'=>⟨hm,M',E1,S1,fl,E',S',e,r',st',q.later g'⟩⟩) (λ_ _ z=>z.elim) λev s1 w=>?_)
  obtain⟨ea,C,od,σ',H',rfl,I',⟨hm,z'⟩,fly⟩:=w
  refine RV I' I'.ok.frames hst hfr fly (IZ I' hx) λh' t=>?_
  have I2:=TX I' hst hfr hx t
  exact ui (hh.pe x C od pins _ σ' H' D ea hm I2 t.fly z') (λ_ _ z=>z) λ_ _ z=>z.elim⟩
section
variable{X:Cx}{pos:Pos}
end
theorem jy{K:qS}{h:rT}{mg:Str->qY qT}{xs:Wp Str}{y:Str}{C':qb}(X:K.In h)(G:h.Ns mainGlobals mg)(e:ub K mainGlobals y=Gc (Gc (.ref C')))(t:∀x∈xs,∃C,ub K mainGlobals x=Gc (Gc (.ref C))/\wD K (.ref C) (.ref C')=Gc (x==y)):XmD K mg xs y:=⟨C',xS X G e,λx hx C hm=>by
 obtain⟨C2,e2,q⟩:=t x hx
 have:=hm.symm.trans (xS X G e2)
 cases this
 exact q⟩
theorem all_nil{p:Str->Prop}:∀x∈([]:Wp Str),p x:=λ_ z=>nomatch z
theorem all_cons{p:Str->Prop}{x:Str}{xs:Wp Str}(h:p x)(t:∀x∈xs,p x):∀y∈x::xs,p y:=λy m=>by
 rcases qj.mp m with rfl|m
 .exact h
 .exact t y m
noncomputable def U5{α β:Type}(f:α->qY β):Wp α->qY (Wp β)
 | []=>Gc []
 |a::as=>(f a).bind λb=>(U5 f as).map λbs=>b::bs
section
variable{X:Cx}{pins:Wp (qb×Obj)}{σ:Sg}{H:Hp}{s:qX}{M:Ms}{S:Sto}
end
section
variable{X:Cx}{a b:rJ}{fa fb:Ev}{pos:Pos}
end
abbrev sO(led:rR):Obj:={cls:=.type "set",dict:=none,data:=.set #[] 0 (.fresh 0 0 led)}
section
variable{prog:rF}{w:rX}{A:rS}{E:qT->qX->Prop}{s:qX}{l:qb}{items:rP qT}{ns:Wp Int}
abbrev V7(ns:Wp Int)(n:Nat):Wp Int:=PyProof.Rows.firstMet (λi=>ns.getD i 0) n
end
theorem Nh:∀{ns:Wp Int} {us:Wp qT},Vals (ns.map V.int) us->sX us ns
 | [],_,h=>by cases h;exact .nil
 |n::ns,_,h=>by
  cases h with
  |cons h t=>
   obtain⟨k,rfl⟩:=h
   exact .cons n k (Nh t)
section
variable{prog:rF}{w:rX}{A:rS}{R:Result->qX->Prop}{I:qb}{fp wr:Wp qb}{n:Nat}{P:Nat->qT->Prop}{St:Nat->rT->Prop}{bt:Nat->Nat->rR}{d:qT}{kw:Wp (Str×qT)}{S:qb}{T:rT->Prop}
def m9(prog:rF)(w:rX)(A:rS)(T:rT->Prop)(P:Nat->qT->Prop)(bt:Nat->Nat->rR):Prop:=
 ∀i j u v (s:qX) (Q:qT->qX->Prop) (E:qT->qX->Prop),T s.heap->P i u->P j v->Q (.bool (bt i j)) s->wpAny (model prog w) A (richCompare .Lt u v) Q E s
def Keeps(T:rT->Prop)(wr:Wp qb)(S:qb):Prop:=∀h h':rT,(∀b o,b∉wr->b≠S->h.get? b=Gc o->h'.get? b=Gc o)->T h->T h'
abbrev ZM(I S:qb)(kw:Wp (Str×qT)):Code:=.builtin "min.loop" ⟨[.ref I,.none,.ref S],kw⟩
abbrev bst(xs:rP qT)(c:Nat):Obj:={cls:=.type "list",dict:=none,data:=.seq xs c,slots:= #[]}
theorem nmL:(toString "min" ++toString ".loop":uO)="min.loop":=by decide
theorem Tp(W:Walks prog w A.in1 I fp wr n P St)(hc:m9 prog w A.in1 T P bt)(kT:Keeps T wr S)(hS:S∉fp):∀(k j:Nat) (s:qX) (v:qT) (c:Nat),n-(j+1)=k->j+1<=n->St (j+1) s.heap->P (argBest bt j) v->s.heap.get? S=Gc (bst #[v,v] c)->T s.heap->(∀u h' tk,P (argBest bt (n-1)) u->(∀b o,b∉wr->b≠S->s.heap.get? b=Gc o->h'.get? b=Gc o)->R (.ok (.ret u)) {s with heap:=h',toks:=tk})->codeAny (model prog w) A (ZM I S kw) R s
 |0,j,s,v,c,e,le,st,pv,g,tt,hR=>by
  have hw:S∉wr:=λz=>hS (W.sub _ z)
  have en:j+1=n:=by lia
  refine uB yx ?_
  rw[tq uY _]
  refine qR (tT g rfl (show wpAny _ A.in1 (tryCatch (pyNext (.ref I)) _ >>= _) _ _ s from qR (xA (W.done s _ _ (en▸st) λh' tk kp=>?_))))
  refine(show wpAny _ A.in1 (updateSeq S (λ_=> #[]) >>= _) _ _ _ from qR (uT (kp S _ hw g) rfl (qR (wB (qa ?_)))))
  exact hR v _ tk (by rw[<-en];exact pv) λb o b1 b2 z=>(rE _ _ (rh b2)).trans (kp b o b1 z)
 |k+1,j,s,v,c,e,le,st,pv,g,tt,hR=>by
  have hw:S∉wr:=λz=>hS (W.sub _ z)
  have lt:j+1<n:=by lia
  refine uB yx ?_
  rw[tq uY _]
  refine qR (tT g rfl (show wpAny _ A.in1 (tryCatch (pyNext (.ref I)) _ >>= _) _ _ s from qR (xA (W.item (j+1) s _ _ lt st λu h' tk pu st' kp=>?_))))
  have g':=kp S _ hw g
  refine(show wpAny _ A.in1 (tryCatch (holding [u,u] (richCompare .Lt u v >>= _)) _ >>= _) _ _ _ from qR (xA (sI (qR (hc (j+1) (argBest bt j) u v _ _ _ (kT _ _ (λb o b1 _ z=>kp b o b1 z) tt) pu pv (qR (sI (ug (qR (wB (qa ?_)))))))))))
  by_cases hb:bt (j+1) (argBest bt j)=true
  .simp only[hb,wW]
   refine qR (uT g' rfl (qR (wB ?_)))
   rw[nmL]
   refine qa ⟨uc uY _,Tp W hc kT hS k (j+1) _ u _ (by lia) lt (W.frame _ _ _ st' λb bf o z=>(rE _ _ (λq:S=b=>hS (by rw[q];exact bf))).trans z) (by simp only[argBest,hb,wW];exact pu) (rK _ g' rfl) (kT _ _ (λb o b1 b2 z=>(rE _ _ (rh b2)).trans (kp b o b1 z)) tt) λu' h2 tk2 pu' kp2=>?_⟩
   exact hR u' h2 tk2 pu' λb o b1 b2 z=>kp2 b o b1 b2 ((rE _ _ (rh b2)).trans (kp b o b1 z))
  .simp only[hb,v8,uX]
   refine qR (wB ?_)
   rw[nmL]
   refine qa ⟨uc uY _,Tp W hc kT hS k (j+1) _ v c (by lia) lt st' (by simp only[argBest,hb,v8,uX];exact pv) g' (kT _ _ (λb o b1 _ z=>kp b o b1 z) tt) λu' h2 tk2 pu' kp2=>?_⟩
   exact hR u' h2 tk2 pu' λb o b1 b2 z=>kp2 b o b1 b2 (kp b o b1 z)
theorem aM(hd:n=0->kw=[(("default":Str),d)])(W:Walks prog w A.in1 I fp wr n P St)(hc:m9 prog w A.in1 T P bt)(kT:Keeps T wr S)(hS:S∉fp){s:qX}{c:Nat}(st:St 0 s.heap)(tt:T s.heap)(g:s.heap.get? S=Gc (bst #[] c))(hR:∀u h' tk,(if n=0 then u=d else P (argBest bt (n-1)) u)->(∀b o,b∉wr->b≠S->s.heap.get? b=Gc o->h'.get? b=Gc o)->R (.ok (.ret u)) {s with heap:=h',toks:=tk}):codeAny (model prog w) A (ZM I S kw) R s:=by
 have hw:S∉wr:=λz=>hS (W.sub _ z)
 refine uB yx ?_
 rw[tq uY _]
 by_cases n0:n=0
 .subst n0
  cases hd rfl
  refine qR (tT g rfl (show wpAny _ A.in1 (tryCatch (pyNext (.ref I)) _ >>= _) _ _ s from qR (xA (W.done s _ _ st λh' tk kp=>?_))))
  refine qR (vA (qa ?_))
  exact hR d _ tk (by simp) λb o b1 b2 z=>kp b o b1 z
 .refine qR (tT g rfl (show wpAny _ A.in1 (tryCatch (pyNext (.ref I)) _ >>= _) _ _ s from qR (xA (W.item 0 s _ _ (by lia) st λu h' tk pu st' kp=>?_))))
  have g':=kp S _ hw g
  show wpAny _ A.in1 (updateSeq S (λ_=> #[u,u]) >>= _) _ _ _
  refine qR ?_
  refine uT g' rfl ?_ (hz:=sf _)
  rw[nmL]
  refine qa ⟨uc uY _,Tp W hc kT hS (n-1) 0 _ u _ (by lia) (by lia) (W.frame _ _ _ st' λb bf o z=>(rE _ _ (λq:S=b=>hS (by rw[q];exact bf))).trans z) pu (rK _ g' rfl) (kT _ _ (λb o b1 b2 z=>(rE _ _ (rh b2)).trans (kp b o b1 z)) tt) λu' h2 tk2 pu' kp2=>?_⟩
  exact hR u' h2 tk2 (by rw[rA n0];exact pu') λb o b1 b2 z=>kp2 b o b1 b2 ((rE _ _ (rh b2)).trans (kp b o b1 z))
end
section
variable{prog:rF}{w:rX}{A:rS}{E:qT->qX->Prop}{s:qX}
theorem Ui {id : uO} {b : uQ} {args : Wp qT} {kw : Wp (Str × qT)} {Q : qT -> qX -> Prop} (hk : builtinKind id = none) (hp : plainId id = true) (hb : entryFor table id = Gc b) (ha : argsOk id ⟨args, kw⟩) (hc : wpAny (model prog w) A.in1 (b ⟨args, kw⟩) (fun fin s' => match fin with
      | .done f => (match (Except.ok f : Result) with | .ok (.ret v) => Q v s' | .ok _ => uP | .error e => E e s')
      | .again c => c.quiet = true /\ codeAny (model prog w) A c (fun r s' => match r with | .ok (.ret v) => Q v s' | .ok _ => uP | .error e => E e s') s') E s) : wpAny (model prog w) A (call (.builtin id) args kw) Q E s := by
  refine AAP (zt hp hb ?_)
  simp only [checkBuiltinCall, hk]
  cases e : Manifest.signature? id with
  | none => exact qa hc
  | some sig =>
    simp only [argsOk, e] at ha
    have z : Bind.checkArgs id sig ⟨args, kw⟩ = pure () := ha
    simp only [z]
    exact qa hc
abbrev JF(nss:Wp (Wp Int))(i j:Nat):rR:=HT.lexLt (nss.getD i []) (nss.getD j [])
def Q8(N:Nat)(vs:Wp qT)(nss:Wp (Wp Int))(h:rT):Prop:=∀(i:Nat) (u:qT),vs[i]?=Gc u->∃(a:qb) (its:rP qT),u=.ref a/\a<N/\y7 h a its/\sX its.toList (nss.getD i [])
theorem gB{l:qb}{vs:Wp qT}{nss:Wp (Wp Int)}{d:qT}{kw:Wp (Str×qT)}{Q:qT->qX->Prop}(h0:vs.length=0->kw=[(("default":Str),d)])(hh:A.handled=none)(hu:A.in1.units<cLine)(hl:s.heap.IsList l vs.toArray)(ht:Q8 s.heap.objs.size vs nss s.heap)(h:∀u h' tk,(if vs.length=0 then u=d else vs[argBest (JF nss) (vs.length-1)]?=Gc u)->(∀b o,s.heap.get? b=Gc o->h'.get? b=Gc o)->Q u {s with heap:=h',toks:=tk}):codeAny (model prog w) A (ZM s.heap.objs.size (s.heap.push {cls:=.type "list_iterator",data:=.fields #[.ref l,.int 0 0]}).objs.size kw) (λr s'=>match r with| .ok (.ret v)=>Q v s'| .ok _=>uP| .error e=>E e s') {s with heap:=(s.heap.push {cls:=.type "list_iterator",data:=.fields #[.ref l,.int 0 0]}).push {cls:=.type "list",data:=.seq #[] 0}}:=by
 obtain⟨o,ho,hc,n,hd⟩:=id hl
 have lt:=qq ho
 have sz:(s.heap.push {cls:=.type "list_iterator",data:=.fields #[.ref l,.int 0 0]}).objs.size=s.heap.objs.size+1:=rQ ..
 refine aM (d:=d) (by simpa using h0) (T:=Q8 s.heap.objs.size vs nss) (bt:=JF nss) (Walks.list (A:=A.in1) (by simpa using hh) s.heap.objs.size l (qv lt) vs.toArray) ?_ ?_ ?_ ⟨⟨_,qU _ (qk _ rfl),rfl,rfl⟩,(hl.push _).push _⟩ ?_ (qk _ rfl) λu h' tk hu' hk=>?_
 .intro i j u v s1 Q1 E1 tt pu pv q
  obtain⟨a,ia,rfl,_,ta,na⟩:=tt i u (by simpa using pu)
  obtain⟨b,ib,rfl,_,tb,nb⟩:=tt j v (by simpa using pv)
  exact HT.Ry ta tb na nb hu q
 .intro h1 h2 kp tt i u e
  obtain⟨a,ia,rfl,la,⟨o1,e1,r1⟩,na⟩:=tt i u e
  refine⟨a,ia,rfl,la,⟨o1,kp a o1 (by rw[q8];exact qv la) (by rw[sz];exact qv (sQ la)) e1,r1⟩,na⟩
 .rw[sz,qj,q8,yf]
  exact⟨ur (uD _),ur (sQ lt)⟩
 .intro i u e
  obtain⟨a,ia,rfl,la,⟨o1,e1,r1⟩,na⟩:=ht i u e
  exact⟨a,ia,rfl,la,⟨o1,qU _ (qU _ e1),r1⟩,na⟩
 .refine h u h' tk ?_ λb o e=>?_
  .rw[qr]at hu'
   by_cases z:vs.length=0
   .rw[q9 z]at hu' ⊢; exact hu'
   .rw[rA z]at hu' ⊢; simpa using hu'
  .have lb:=qq e
   exact hk b o (by rw[q8];exact qv lb) (by rw[sz];exact qv (sQ lb)) (qU _ (qU _ e))
theorem Xt{l:qb}{vs:Wp qT}{nss:Wp (Wp Int)}{d:qT}{Q:qT->qX->Prop}(hh:A.handled=none)(hu:A.in1.units<cLine)(hl:s.heap.IsList l vs.toArray)(ht:Q8 s.heap.objs.size vs nss s.heap)(h:∀u h' tk,(if vs.length=0 then u=d else vs[argBest (JF nss) (vs.length-1)]?=Gc u)->(∀b o,s.heap.get? b=Gc o->h'.get? b=Gc o)->Q u {s with heap:=h',toks:=tk}):wpAny (model prog w) A (call (.builtin "min") [.ref l] [("default",d)]) Q E s:=by
 refine Ui F.kind_min F.plain_min F.entry_min (by unfold argsOk;kernel_rfl) ?_
 show wpAny _ A.in1 (uv "min" ["key","default"] 0 ⟨[],[("default",d)]⟩ >>= _) _ _ s
 refine qR (yW (show uv "min" ["key","default"] 0 ⟨[],[("default",d)]⟩=pure [none,Gc d]from rfl) (qR (qa (qR (tJ hl ?_)))))
 refine qR (rm ?_)
 rw[nmL]
 exact qa ⟨uc uY _,gB (d:=d) (λ_=>rfl) hh hu hl ht h⟩
end
noncomputable def tMn(K:qS)(ta:TA)(tb:TE):TE:=λσ H Q=>ta σ H λvs H1=>tb σ H1 λy H2=>∃(l:qb) (xs:Wp V) (nss:Wp (Wp Int)),vs=[.ref l]/\H2 l=Gc (.lst xs)/\(∀(i:Nat) (v:V),xs[i]?=Gc v->∃a,v=.ref a/\SqT K H2 a ((nss.getD i []).map V.int))/\
 Q (match xs with| []=>y|_=>xs.getD (argBest (JF nss) (xs.length-1)) .non) H2
theorem kj{X:Cx}{a b:rJ}{ta:TA}{tb:TE}{p pos kp:Pos}(hc:X.calm=true)(hu:X.A.units+100<cLine)(hg:Gl X "min")(hm:X.mg "min"=none)(ha:PA X [a] ta)(hb:PE X b tb)(hs:backTo pos (rB [a] X.env)=(false,eval a X.env)::backTo pos (rB [] X.env):=by rfl)(hp:(backTo pos (rB [a] X.env)).any (·.1)=false:=by rfl):PE X (.Call (.Name "min" p) [a] [⟨Gc "default",b,kp⟩] pos) (tMn X.K ta tb):=by
 intro pins s σ H Q I h
 refine uV (Ic I hg hm PyProof.Rows.boot_min ?_ (by decide) (by decide))
 refine PyProof.Rows.callWith_kw (thn (ha pos pins s σ H _ I h) λus s1 ⟨vs,H1,I1,r1,q1⟩=>PyProof.Rows.kws_cons (thn (hb pins s1 σ H1 _ I1 q1) λu s2 ⟨y,H2,I2,r2,q2⟩=>PyProof.Rows.kws_nil ?_)) hs hp
 obtain⟨l,xs,nss,e,hl,ht,q⟩:=q2
 subst e
 cases r1 with
 |cons r rr=>
  cases rr
  cases r
  obtain⟨its,rv,o,n,eo,ho,hd⟩:=Hw I2 (.inl hl)
  have hlen:=rv.length
  refine Xt (vs:=its) (nss:=nss) (I2.ok.hd hc) (show X.A.units+1<cLine by lia) ⟨o,eo,ho,n,hd⟩ ?_ λv h' tk hv hk=>?_
  .intro i w ew
   have hi:i<xs.length:=by rw[hlen];exact(qe.mp ew).1
   obtain⟨w',ew',rw'⟩:=rv.get (qW hi)
   rw[ew]at ew';cases ew'
   obtain⟨c,ec,hT⟩:=ht i _ (qW hi)
   rw[ec]at rw'
   cases rw'
   obtain⟨its2,rv2,tp,_⟩:=I2.tuple hT
   exact⟨c,its2.toArray,rfl,tp.lt,tp,by simpa using Nh rv2⟩
  .have I3:=I2.kept (t':=tk) hk
   cases xs with
   |nil=>
    have:its.length=0:=by simpa using hlen.symm
    rw[q9 this]at hv
    subst hv
    exact⟨y,H2,I3,r2,q⟩
   |cons x xs=>
    have hn:¬its.length=0:=by rw[<-hlen];simp
    rw[rA hn,<-hlen]at hv
    have hi:argBest (JF nss) ((x::xs).length-1)<(x::xs).length:=AAY (qe.mp hv).1 hlen.symm
    obtain⟨w',ew',rw'⟩:=rv.get (qW hi)
    rw[hv]at ew';cases ew'
    refine⟨_,H2,I3,rw',?_⟩
    have eg:(x::xs).getD (argBest (JF nss) ((x::xs).length-1)) .non=(x::xs)[argBest (JF nss) ((x::xs).length-1)]:=by rw[qV,qW hi];rfl
    rw[<-eg]
    exact q
noncomputable def tupI:D->qY (Wp Int)
 | .tup es=>Gw es
 |_=>none
noncomputable def Zh(u:D)(nss:Wp (Wp Int)):Wp D->D
 | []=>u
 |d::ds=>(d::ds).getD (argBest (JF nss) ((d::ds).length-1)) .non
noncomputable def mnK(p q:D×Sto):qY (D×Sto):=match p.1 with
 | .lst ds=>(U5 tupI ds).map λnss=>(Zh q.1 nss ds,q.2)
 |_=>none
noncomputable def eMn(fa fb:Ev):Ev:=λE S=>(fa E S).bind λp=>(fb E p.2).bind λq=>mnK p q
section
variable{K:qS}{M:Ms}{H:Hp}
theorem LD:∀{xs:Wp V} {ds:Wp D} {nss:Wp (Wp Int)},Af K M H xs ds->U5 tupI ds=Gc nss->∀(i:Nat) (v:V),xs[i]?=Gc v->∃a,v=.ref a/\SqT K H a ((nss.getD i []).map V.int)
 |_,_,_,.nil,_,i,v,e=>by simp at e
 |_,_,_,.cons h t,em,i,v,e=>by
  obtain⟨ns,e1,em⟩:=Ae em
  obtain⟨nss,e2,em⟩:=Hl em
  cases em
  cases i with
  |zero=>
   simp at e
   subst e
   cases h with
   |tup hq rs=>
    have:=F0 rs e1
    subst this
    exact⟨_,rfl,by simpa using hq⟩
   |_=>cases e1
  |succ i=>
   simp at e
   simpa using LD t e2 i v e
theorem Kx:∀{xs:Wp V} {ds:Wp D},Af K M H xs ds->∀k:Nat,Bi K M H (xs.getD k .non) (ds.getD k .non)
 |_,_,.nil,k=>by simp;exact .non
 |_,_,.cons h t,0=>by simpa using h
 |_,_,.cons h t,k+1=>by simpa using Kx t k
end
theorem oH{X:Cx}{a b:rJ}{oa ob:Ev}{p pos kp:Pos}(hc:X.calm=true)(hu:X.A.units+100<cLine)(hg:Gl X "min")(hm:X.mg "min"=none)(ha:DEs X [a] [oa])(hb:DE X b ob)(hs:backTo pos (rB [a] X.env)=(false,eval a X.env)::backTo pos (rB [] X.env):=by rfl)(hp:(backTo pos (rB [a] X.env)).any (·.1)=false:=by rfl):DE X (.Call (.Name "min" p) [a] [⟨Gc "default",b,kp⟩] pos) (eMn oa ob):=⟨
 A7 (kj hc hu hg hm ha.pe hb.pe hs hp) λσ H Q z=>by
  obtain⟨M,E,S,d,S',e,r,st,q⟩:=z
  obtain⟨⟨w,S1⟩,e1,e⟩:=Ae e
  obtain⟨⟨u,S2⟩,e2,e3⟩:=Ae e
  have e1':evs [oa] E S=Gc ([w],S1):=by
   show(oa E S).bind (λr=>(evs [] E r.2).map λq=>(r.1::q.1,q.2))=_
   rw[e1];rfl
  refine FV e1' r st λvs H1 M1 g1 st1 r1=>?_
  refine⟨M1,E,S1,u,S2,e2,r.step g1.st,st1,λy H2 M2 g2 st2 r2=>?_⟩
  cases w with
  |lst ds=>
   obtain⟨nss,en,e4⟩:=Hl (show(U5 tupI ds).map (λnss=>(Zh u nss ds,S2))=Gc (d,S')from e3)
   cases r1 with
   |cons r1 rn=>
    cases rn
    have r1':=r1.step g2.st
    cases r1' with
    |lst h n rs=>
     rename_i a' xs
     refine⟨_,xs,nss,rfl,h,LD rs en,?_⟩
     cases rs with
     |nil=>
      cases e4
      exact q _ _ M2 (g1.trans g2) st2 r2
     |cons h1 t1=>
      have hl:=(Af.cons h1 t1).length
      cases e4
      show Q (List.getD _ (argBest (JF nss) _) _) H2
      rw[hl]
      exact q _ _ M2 (g1.trans g2) st2 (Kx (Af.cons h1 t1) _)
  |_=>cases e3⟩
end Mi
end
noncomputable section
namespace Mi
open PySem PySem.Spec L2 PyProof.Rows
section
variable{prog:rF}{w:rX}{A:rS}{E:qT->qX->Prop}{s:qX}{l:qb}{vs:Wp qT}
abbrev hpC(h:rT)(vs:Wp qT):rT:=(h.push (seqObj "list" #[] 0)).update h.objs.size (tY (· ++vs.toArray))
theorem QQ{Q:Wp qT->qX->Prop}(hl:s.heap.IsTuple l vs.toArray)(hz:vs.length<=sizeLine)(h:Q vs {s with heap:=hpC s.heap vs}):wpAny (model prog w) A (collect (.ref l)) Q E s:=by
 obtain⟨o,ho,hc,n,hd⟩:=id hl
 have ho1:=qU (seqObj "list" #[] 0) ho
 have me:(s.heap.push (seqObj "list" #[] 0)).get? s.heap.objs.size=Gc (seqObj "list" #[] 0):=qk _ rfl
 unfold collect
 refine qR (zu (uB entry_proto_collect' ?_))
 refine(show wpAny _ _ (do again (.builtin "list.__iadd__" ⟨[<-newList [],.ref l],[]⟩)) _ _ s from qR (yi (qa ⟨AAZ _ (by decide+kernel),uB entry_list_iadd' ?_⟩)))
 show wpAny _ _ (sP (.ref s.heap.objs.size) (.ref l) (.ref s.heap.objs.size)) _ _ {s with heap:=s.heap.push (seqObj "list" #[] 0)}
 unfold sP
 refine qR (vd (T:="tuple") ⟨o,ho1,hc⟩ ?_)
 have tt:(wX "tuple" ==wX "tuple")=true:=rfl
 rw[q9 (by rw[tt];simp)]
 refine qR (listItems_at ho1 hd (qR (listItems_at me rfl ?_)))
 rw[rA (by simp)]
 refine qR (listUpdate_at me rfl (qa ?_) (sf _) (by show(#[]++vs.toArray).size<=sizeLine+1;simp only[Array.size_append,qr,uA];lia))
 show wpAny (model prog w) A (do
  let o<-load s.heap.objs.size
  match o.data with
  | .seq xs _=>pure xs.toList
  |_=>unsupported "internal:collect") Q E {s with heap:=hpC s.heap vs}
 refine qR (wpAny_load (get?_update_seq me _) ?_)
 refine(show wpAny _ _ (pure ((#[]:rP qT)++vs.toArray).toList) Q E _ from ?_)
 rw[show((#[]:rP qT)++vs.toArray).toList=vs by simp]
 exact qa h
theorem R6{ns:Wp Int}{Q:qT->qX->Prop}(hl:s.heap.IsTuple l vs.toArray)(hI:sX vs ns)(h64:vs.length<64)(h:∀(out:rP qT) (ms:Wp Int),sX out.toList ms->ms.Perm ns->ms.Pairwise (· <= ·)->Q (.ref (s.heap.objs.size+1)) {s with heap:=sortedAll s.heap vs out}):wpAny (model prog w) A (call (.builtin "sorted") [.ref l]) Q E s:=by
 refine yP kind_sorted plain_sorted entry_sorted (args_sorted1 _) ?_
 unfold uQ.«sorted»
 refine qR (m:=checkCount "sorted" 1 1 _) (qa (qR (QQ hl (qh (vM h64) (by decide)) (qR (yi ?_)))))
 have sz:(hpC s.heap vs).objs.size=s.heap.objs.size+1:=by rw[Heap.size_update,size_push']
 have at1:((hpC s.heap vs).push (seqObj "list" vs.toArray 0)).get? (s.heap.objs.size+1)=Gc (seqObj "list" vs.toArray 0):=by
  rw[<-sz];exact qk _ rfl
 show wpAny _ _ _ _ _ {s with heap:=(hpC s.heap vs).push (seqObj "list" vs.toArray 0)}
 rw[sz]
 refine qR (sI (sD slot_list_sort ⟨_,at1,rfl⟩ entry_list_sort (list_sort_tree at1 hI h64 λout ms a1 a2 a3=>⟨_,rfl,qa ⟨_,rfl,h out ms a1 a2 a3⟩⟩) (args_list_sort _)))
end
end Mi
end
noncomputable section
namespace Mi
open PySem PySem.Spec L2
theorem OV{X:Cx}:Cj X (.builtin "sorted") (λxs H Q=>∃(p:qb) (ns:Wp Int),xs=[.ref p]/\SqT X.K H p (ns.map V.int)/\ns.length<64/\∀q,H q=none->Q (.ref q) (upd H q (.lst ((Fp ns).map V.int)))):=by
 intro pins s σ H xs us Q I r h
 obtain⟨p,ns,rfl,hp,h64,q⟩:=h
 obtain⟨u,rfl,ru⟩:=r.one
 cases (show u=rY p from ru)
 obtain⟨its,rv,pl,hz⟩:=I.tuple hp
 have hlen:ns.length=its.length:=by have:=rv.length;simpa using this
 refine R6 pl (intsAre_of rv) (by lia) λout ns' a1 a2 a3=>?_
 obtain⟨e,he⟩:=yO s.heap its out
 have hn:H (s.heap.objs.size+1)=none:=I.hok.fresh (wk _)
 have hs:=JZ a2 a3
 subst hs
 refine⟨.ref _,_,I.laid (a:=s.heap.objs.size+1) (o:=.lst ((Fp ns).map V.int)) (t':=s.toks) (λ_ _=>yH) (wk _) ?_,rfl,q _ hn⟩
 refine⟨?_,out.toList,e,D4 a1,?_⟩
 .rw[qy,(EW ns).length_eq]
  have:(64:Nat)<=sizeLine:=by decide
  lia
 .rw[wC];exact he
noncomputable def IU:Op1:=λw=>match w with
 | .val (.tup ds)=>(Gw ds).bind λns=>if ns.length<64 then Gc (.own ((Fp ns).map D.int))else none
 |_=>none
theorem My{X:Cx}:Cj X (.builtin "sorted") (rN X.K (o1 IU)):=by
 intro pins s σ H xs us Q I r h
 obtain⟨M,ws,w,e,mo,sh,q⟩:=h
 obtain⟨v,w1,rfl,rfl,s1,e1⟩:=Fg sh e
 unfold IU at e1
 split at e1
 .obtain⟨ns,e3,e1⟩:=Ae e1
  split at e1
  .cases e1
   obtain⟨_,_,rfl,h3,h4⟩:=Bi.iv s1
   .exact OV pins s σ H _ us Q I r ⟨_,ns,rfl,by rw[<-F0 h4 e3];exact h3,by assumption,λp hp=>q _ _ (.lst mo hp Gg)⟩
  .cases e1
 .cases e1
end Mi
end
noncomputable section
namespace Mi
open PySem
abbrev Ris(xs:rP Nat):Prop:=xs.toList.Pairwise (· < ·)
theorem Ris.lt{xs:rP Nat}(h:Ris xs){i k:Nat}(a:i<k)(b:k<xs.size):xs[i]'(vg a b)<xs[k]:=by
 have:=wK.mp h i k (by simpa using vg a b) (by simpa using b) a
 simpa using this
structure Blw(xs:rP Nat)(j r:Nat):Prop where
 le:r<=xs.size
 lo:∀i (h:i<xs.size),i<r->xs[i]<j
 hi:∀i (h:i<xs.size),r<=i->j<=xs[i]
theorem NQ{xs:rP Nat}(hx:Ris xs)(j:Nat):∀fuel lo hi,hi-lo<=fuel->lo<=hi->hi<=xs.size->(∀i (h:i<xs.size),i<lo->xs[i]<j)->(∀i (h:i<xs.size),hi<=i->j<=xs[i])->Blw xs j (SetTable.below.go xs j fuel lo hi)
 |0,lo,hi,f,a,b,c,d=>by
  have:lo=hi:=by lia
  subst this
  exact⟨b,c,d⟩
 |fuel+1,lo,hi,f,a,b,c,d=>by
  unfold SetTable.below.go
  by_cases q:lo<hi
  .rw[q9 q]
   have ml:(lo+hi) / 2<xs.size:=by lia
   have e:xs.getD ((lo+hi) / 2) j=xs[(lo+hi) / 2]:=by simp[zF,ml]
   dsimp only
   by_cases z:xs.getD ((lo+hi) / 2) j<j
   .rw[q9 z]
    rw[e]at z
    refine NQ hx j fuel _ _ (by lia) (by lia) b (λi h l=>?_) d
    by_cases k:i=(lo+hi) / 2
    .subst k;exact z
    .exact vg (hx.lt (show i<(lo+hi) / 2 by lia) ml) z
   .rw[rA z]
    rw[e]at z
    refine NQ hx j fuel _ _ (by lia) (by lia) (by lia) c (λi h l=>?_)
    by_cases k:i=(lo+hi) / 2
    .subst k;lia
    .have:=hx.lt (show(lo+hi) / 2<i by lia) h;lia
  .rw[rA q]
   have:lo=hi:=by lia
   subst this
   exact⟨b,c,d⟩
theorem MY{xs:rP Nat}(hx:Ris xs)(j:Nat):Blw xs j (sR xs j):=
 NQ hx j _ _ _ (by lia) (sf _) (qg _) (λi _ h=>absurd h (by lia)) (λi h l=>absurd h (by lia))
theorem below_at{xs:rP Nat}(hx:Ris xs){k:Nat}(hk:k<xs.size):sR xs xs[k]=k:=by
 have b:=MY hx xs[k]
 rcases Nat.lt_trichotomy (sR xs xs[k]) k with h|h|h
 .have:=b.hi _ (by lia) (qg _);have:=hx.lt h hk;lia
 .exact h
 .have:=b.lo k hk h;lia
noncomputable def slotAt(xs:rP Nat)(i:Nat):Nat:=if i=0 then 0 else xs.getD (i-1) 0+1
theorem SD{xs:rP Nat}(hx:Ris xs){i:Nat}(hi:i<=xs.size):sR xs (slotAt xs i)=i:=by
 have b:=MY hx (slotAt xs i)
 have bl:=b.le
 by_cases z:i=0
 .subst z
  rcases Nat.eq_zero_or_pos (sR xs (slotAt xs 0))with h|h
  .exact h
  .have:=b.lo 0 (by lia) h;simp[slotAt]at this
 .have e:slotAt xs i=xs[i-1]'(by lia)+1:=by
   have:i-1<xs.size:=by lia
   simp[slotAt,z,zF,this]
  rcases Nat.lt_trichotomy (sR xs (slotAt xs i)) i with h|h|h
  .have:=b.hi (i-1) (by lia) (by lia);lia
  .exact h
  .have h1:=b.lo i (by lia) h;have h2:=hx.lt (show i-1<i by lia) (show i<xs.size by lia);lia
theorem Ris.insert{xs:rP Nat}(hx:Ris xs){j:Nat}(hj:xs[sR xs j]?≠Gc j):Ris (SetTable.insertAt xs (sR xs j) j):=by
 have b:=MY hx j
 have nj:∀k (hk:k<xs.size),xs[k]≠j:=λk hk e=>hj (by rw[<-e,below_at hx hk,Array.getElem?_eq_getElem hk])
 show AAJ _ _
 rw[SetTable.toList_insertAt,List.pairwise_append,yI]
 have tk:∀a∈xs.toList.take (sR xs j),a<j:=λa ha=>by
  obtain⟨i,hi,rfl⟩:=List.mem_take_iff_getElem.mp ha
  have q:i<xs.size:=by simp at hi;lia
  simpa using b.lo i q (by lia)
 have dr:∀a∈xs.toList.drop (sR xs j),j<a:=λa ha=>by
  obtain⟨i,hi,rfl⟩:=List.mem_drop_iff_getElem.mp ha
  have q:sR xs j+i<xs.size:=by simp at hi;lia
  have:=b.hi _ q (by lia)
  have:=nj _ q
  simp only[Array.getElem_toList]
  lia
 refine⟨zY (List.take_sublist _ _) hx,⟨dr,zY (List.drop_sublist _ _) hx⟩,λa ha c hc=>?_⟩
 rcases qj.mp hc with rfl|hc
 .exact tk a ha
 .exact vg (tk a ha) (dr c hc)
theorem Up(n:Nat):Ris (Array.range n):=by
 show AAJ _ _
 rw[Array.toList_range];exact zG
structure TOk(t:SetTable)(led:rR):Prop where
 dum:t.dummies= #[]
 ris:Ris t.place
 led:t.led=led
theorem TOk.fresh(led:rR):TOk (.fresh 0 0 led) led:=⟨rfl,yV,rfl⟩
theorem TOk.standIn{t:SetTable}{led:rR}(h:TOk t led)(n:Nat):TOk (t.standIn n) led:=⟨rfl,Up n,h.led⟩
theorem TOk.orStandIn{t:SetTable}{led:rR}(h:TOk t led)(n:Nat):TOk (t.orStandIn n) led:=by
 unfold SetTable.orStandIn;split
 .exact h
 .exact h.standIn n
theorem TOk.plain{t:SetTable}{led:rR}(h:TOk t led)(b:rR):TOk {t with plain:=b} led:=⟨h.dum,h.ris,h.led⟩
theorem U2(j:Nat):SetTable.has #[] j=false:=by simp[SetTable.has]
theorem Qj{t:SetTable}(hd:t.dummies= #[])(f:Nat->Int)(h:Int):∀fuel (p:SetTable.Probe) {j d},p.dummy=none->yX t f h fuel p=Gc (.empty j d)->d=none/\t.place[sR t.place j]?≠Gc j
 |0,p,j,d,_,e=>by simp[yX]at e
 |fuel+1,p,j,d,pn,e=>by
  unfold yX at e
  have an:(t.advance p).dummy=none:=by unfold SetTable.advance;split<;>exact pn
  cases q:t.slot p.j with
  |empty=>
   rw[q]at e
   dsimp only at e
   injection e with e
   injection e with e1 e2
   subst e1 e2
   refine⟨pn,λz=>?_⟩
   unfold SetTable.slot at q
   rw[q9 (by rw[z];simp)]at q
   exact SetTable.Slot.noConfusion q
  |dummy=>
   unfold SetTable.slot at q
   rw[hd,U2]at q
   dsimp only at q
   split at q<;>simp at q
  |live i=>
   rw[q]at e
   dsimp only at e
   split at e
   .simp at e
   .exact Qj hd f h fuel _ an e
theorem Y2{t:SetTable}{led:rR}(h:TOk t led){x:Int}{j:Nat}{b:rR}(e:t.freeSlot x=Gc (j,b)):t.place[sR t.place j]?≠Gc j:=by
 unfold SetTable.freeSlot at e
 split at e
 .rename_i j' d q
  unfold SetTable.probe at q
  obtain⟨rfl,n⟩:=Qj h.dum _ x _ _ rfl q
  simp at e
  obtain⟨rfl,_⟩:=e
  exact n
 .simp at e
theorem TOk.put{t:SetTable}{led:rR}(h:TOk t led){j:Nat}(n:t.place[sR t.place j]?≠Gc j):TOk (t.put j).1 led:=by
 refine⟨?_,h.ris.insert n,h.led⟩
 show(if SetTable.has t.dummies j=true then _ else t.dummies)=_
 rw[h.dum,U2];rfl
theorem TOk.layNew{t:SetTable}{led:rR}(h:TOk t led)(es:rP (Int×qT))(x:Int)(v:qT):TOk (layNew t es x v).2.1 led:=by
 unfold PySem.layNew
 split
 .rename_i j b e
  exact(h.put (Y2 h e)).orStandIn _
 .exact h.standIn _
theorem TOk.jU{t:SetTable}{led:rR}(h:TOk t led)(es:rP (Int×qT))(n:Nat):TOk (relayAll t es n).2.1 led:=by
 unfold relayAll
 split
 .rename_i t' order e
  dsimp only
  split
  .unfold SetTable.relaid SetTable.laid at e
   cases q:SetTable.layClean (SetTable.sizeAbove n-1) (es.map (·.1))with
   |none=>rw[q]at e;simp at e
   |some owner=>
    rw[q]at e
    simp at e
    obtain⟨rfl,_⟩:=e
    refine⟨rfl,?_,h.led⟩
    show AAJ _ _
    simp only[List.map_filterMap]
    refine List.Pairwise.filterMap _ (λa a' l b hb b' hb'=>?_) zG
    simp at hb hb'
    obtain⟨_,_,rfl⟩:=hb
    obtain⟨_,_,rfl⟩:=hb'
    exact l
  .exact h.standIn _
 .exact h.standIn _
end Mi
end
noncomputable section
namespace Mi
open PySem PySem.Spec L2 PyProof.Rows
noncomputable def iOf:Int×qT->Int|(_,.int n _)=>n|_=>0
abbrev vls(es:Wp (Int×qT)):Wp Int:=es.map iOf
abbrev byT(w:rX):rR:=w.params.followText "set-order"
section
variable{prog:rF}{w:rX}{A:rS}{E:qT->qX->Prop}{s:qX}
def J4(prog:rF)(w:rX)(h:rT)(a:qb)(L:Wp Int):Prop:=
 ∃o es ep t,h.get? a=Gc o/\o.ExactSet/\o.data=.set es ep t/\zH (intKind prog w) es.toList/\(vls es.toList).Perm L/\es.size<scanBound/\t.fits es.size=true/\TOk t (!byT w)
theorem J4.at{h h':rT}{a:qb}{L:Wp Int}(x:J4 prog w h a L)(k:∀o,h.get? a=Gc o->h'.get? a=Gc o):J4 prog w h' a L:=
 let⟨o,es,ep,t,ho,r⟩:=x;⟨o,es,ep,t,k o ho,r⟩
theorem X7{e:Int×qT}{es:Wp (Int×qT)}(h:zH (intKind prog w) es)(he:e∈es)(k:Int):(intKind prog w).is k e.2=true↔iOf e=k:=by
 obtain⟨⟨k',q,_⟩,_⟩:=h e he
 obtain⟨t,hv⟩:=yQ q
 obtain⟨x,v⟩:=e
 dsimp only at hv
 subst hv
 show zc k (.int k' t)=true↔k'=k
 simp[zc]
theorem UI{es:Wp (Int×qT)}(h:zH (intKind prog w) es)(k:Int):(∃e∈es,(intKind prog w).is k e.2=true)↔k∈vls es:=by
 rw[rW]
 exact⟨λ⟨e,he,q⟩=>⟨e,he,(X7 h he k).mp q⟩,λ⟨e,he,q⟩=>⟨e,he,(X7 h he k).mpr q⟩⟩
theorem Ly{h:rT}{a:qb}{o:Obj}{es:rP (Int×qT)}{ep:Nat}{t:SetTable}(ho:h.get? a=Gc o)(hex:o.ExactSet)(hd:o.data=.set es ep t){es':rP (Int×qT)}{t':SetTable}{L:Wp Int}(hel:zH (intKind prog w) es'.toList)(hp:(vls es'.toList).Perm L)(hb:es'.size<scanBound)(hf:t'.fits es'.size=true)(ht:TOk t' (!byT w)):(h.update a (zI es' t')).get? a=Gc {o with data:=.set es' (ep+1) t'}/\J4 prog w (h.update a (zI es' t')) a L:=by
 have hg:(h.update a (zI es' t')).get? a=Gc {o with data:=.set es' (ep+1) t'}:=by
  have:=rK (zI es' t') ho (by rw[putSet_of es' t' hd];rfl)
  rw[putSet_of es' t' hd]at this;exact this
 exact⟨hg,_,es',ep+1,t',hg,hex,rfl,hel,hp,hb,hf,ht⟩
theorem Q9{g:rR->Sem Unit}(hg:∀(b:rR) (s₁:qX) (Q':Unit->qX->Prop),Q' () s₁->wpAny (model prog w) A (g b) Q' E s₁){a:qb}{o:Obj}{es:rP (Int×qT)}{ep:Nat}{t:SetTable}(ho:s.heap.get? a=Gc o)(hex:o.ExactSet)(hd:o.data=.set es ep t){es1:rP (Int×qT)}{t2:SetTable}{L:Wp Int}(hel1:zH (intKind prog w) es1.toList)(hp1:(vls es1.toList).Perm L)(hb1:es1.size<scanBound)(hf2:t2.fits es1.size=true)(ht:TOk t2 (!byT w)){wasDummy:rR}{R:qY rR->qX->Prop}(h:∀h',uq a s.heap h'->J4 prog w h' a L->R (Gc true) {s with heap:=h'}):wpAny (model prog w) A (do
        storeSet a es1 t2
        if(!wasDummy && t2.tooFull)=true then do
           g (relayAll t2 es1 (va es1.size)).2.2
           storeSet a (relayAll t2 es1 (va es1.size)).1 (relayAll t2 es1 (va es1.size)).2.1
           pure (Gc true)
         else pure (Gc true)) R E s:=by
 refine qR (wpAny_storeSet_of ho hd ?_ (xB hb1))
 obtain⟨ho1,hS1⟩:=Ly ho hex hd hel1 hp1 hb1 hf2 ht
 have hsb1:=sx s.heap a (zI es1 t2)
 split
 .have hp:=relayAll_perm t2 es1 (va es1.size)
  have hfr:=relayAll_fits t2 es1 (va es1.size)
  have htr:=ht.jU es1 (va es1.size)
  generalize hRl:relayAll t2 es1 (va es1.size)=Rl at hp hfr htr⊢
  obtain⟨es2,t3,gave2⟩:=Rl
  dsimp only at hp hfr htr⊢
  have hel2:zH (intKind prog w) es2.toList:=hel1.perm hp
  have hsz:es2.size=es1.size:=by rw[<-uF,hp.length_eq,uF]
  have hb2:es2.size<scanBound:=by rw[hsz];exact hb1
  refine qR (hg _ _ _ ?_)
  refine qR (wpAny_storeSet_of ho1 rfl ?_ (xB hb2))
  obtain⟨_,hS2⟩:=Ly ho1 hex rfl hel2 ((hp.map iOf).trans hp1) hb2 hfr htr
  exact qa (h _ (hsb1.trans (sx _ a _)) hS2)
 .exact qa (h _ hsb1 hS1)
theorem bE{a:qb}{L:Wp Int}{k:Int}{u:Tok}{Q:rR->qX->Prop}(hS:J4 prog w s.heap a L)(hroom:L.length+1<scanBound)(h:∀h' b,uq a s.heap h'->J4 prog w h' a (um L k)->Q b {s with heap:=h'}):wpAny (model prog w) A (setAddHashed a (.int k u) ((intKind prog w).hash k)) Q E s:=by
 obtain⟨o,es,ep,t,ho,hex,hd,hel,hp,hb,hf,ht⟩:=hS
 have hkey:=intKind_is prog w k u
 have hsc:(xJ k u).scannable=true:=rfl
 have hn:es.size=L.length:=by have:=hp.length_eq;simpa using this
 have hb1:es.size+1<scanBound:=by rw[hn];exact hroom
 unfold setAddHashed setAddHashedIn
 refine sI (qR (vR ho hd hf ?_))
 dsimp only
 rw[byScan_of hsc hb hel]
 simp only[↓reduceIte]
 unfold setAddByScan
 refine qR ?_
 refine qR (vA ?_)
 refine qR (wpAny_setScan_of hkey ho hd hf hel ?_)
 cases hr:List.findIdx? (λe=>(intKind prog w).is k e.2) es.toList with
 |some j=>
  dsimp only
  obtain⟨hj,hpj,_⟩:=List.findIdx?_eq_some_iff_getElem.mp hr
  have kin:k∈L:=hp.mem_iff.mp ((UI hel k).mp ⟨es.toList[j],uE hj,hpj⟩)
  refine qa (qa ?_)
  have e:s={s with heap:=s.heap}:=by cases s;rfl
  rw[e]
  refine h s.heap _ (Heap.SameBut.refl a s.heap) ?_
  rw[show um L k=L by unfold um;rw[q9 (uZ.mpr ⟨k,kin,by simp⟩)]]
  exact⟨o,es,ep,t,ho,hex,hd,hel,hp,hb,hf,ht⟩
 |none=>
  dsimp only
  have kno:k∉L:=λz=>by
   obtain⟨e,he,q⟩:=(UI hel k).mpr (hp.mem_iff.mpr z)
   have:=List.findIdx?_eq_none_iff.mp hr e he;rw[q]at this;exact uN this
  have sd:um L k=L++[k]:=by
   unfold um
   rw[rA (λz=>by obtain⟨x,hx,e⟩:=uZ.mp z;exact kno (by rw[<-eq_of_beq e];exact hx))]
  rw[sd]at h
  have hgw:∀(b:rR) {s₁:qX} {Q':Unit->qX->Prop},Q' () s₁->wpAny (model prog w) A (match b with|true=>rule "set.scan.the-table-gave-way" |false=>pure ()) Q' E s₁:=
   λb s₁ Q' hq=>by cases b<;>first|exact qa hq|exact vA hq
  have hperm:=layNew_perm t es ((intKind prog w).hash k) (.int k u)
  have hfits:=layNew_fits t es ((intKind prog w).hash k) (.int k u)
  have hto:=ht.layNew es ((intKind prog w).hash k) (.int k u)
  generalize hL:layNew t es ((intKind prog w).hash k) (.int k u)=L1 at hperm hfits hto⊢
  obtain⟨es1,t1,wasDummy,gave⟩:=L1
  dsimp only at hperm hfits hto⊢
  rw[Array.toList_push]at hperm
  have hel1:zH (intKind prog w) es1.toList:=(hel.push hkey hsc).perm hperm
  have hp1:(vls es1.toList).Perm (L++[k]):=(hperm.map iOf).trans (by rw[tU];exact hp.append_right _)
  have hb1':es1.size<scanBound:=by rw[<-uF,hperm.length_eq,rZ,uF];simpa using hb1
  refine qR (hgw _ ?_)
  split
  .refine qR ?_
   rw[hashByValue_scannable 8 hsc]
   refine qa ?_
   refine Q9 ?_ ho hex hd hel1 hp1 hb1' ?_ ?_ ?_
   .intro b s₁ Q' hq;cases b<;>first|exact qa hq|exact vA hq
   .split
    .exact hfits
    .exact SetTable.fits_plain_off hfits
   .split
    .exact hto
    .exact hto.plain _
   .intro h' hsb hS';dsimp only;exact qa (h h' _ hsb hS')
  .refine qR (qa ?_)
   simp only[↓reduceIte]
   refine Q9 ?_ ho hex hd hel1 hp1 hb1' hfits hto ?_
   .intro b s₁ Q' hq;cases b<;>first|exact qa hq|exact vA hq
   .intro h' hsb hS';dsimp only;exact qa (h h' _ hsb hS')
end
section
variable{prog:rF}{w:rX}{A:rS}{R:Result->qX->Prop}{I:qb}{fp wr:Wp qb}{G:rP GenState->rP GenState->Prop}{n:Nat}{P:Nat->qT->Prop}{St:Nat->qX->Prop}
theorem OB(W:WalksS prog w A.in1 I fp wr G n P St)(S:qb)(hSf:S∉fp)(val:Nat->Int)(hval:∀i v,P i v->∃t,v=.int (val i) t)(hb:n+1<scanBound):∀(k i:Nat) (s:qX),n-i=k->i<=n->St i s->J4 prog w s.heap S (firstMet val i)->(∀s',Moved (S::wr) G s s'->J4 prog w s'.heap S (firstMet val n)->R (.ok (.ret .none)) s')->codeAny (model prog w) A (.builtin "set.update.loop" ⟨[.ref S,.ref I],[]⟩) R s:=by
 have hSw:S∉wr:=λh=>hSf (W.sub _ h)
 have hsub:∀b∈wr,b∈S::wr:=λb hb=>qi _ hb
 intro k
 induction k with
 |zero=>
  intro i s hk hi hst hS hR
  have hin:i=n:=by lia
  subst hin
  refine uB yy ?_
  rw[tq wm _]
  show wpAny _ A.in1 (pyNext (.ref I) >>= _) _ _ s
  refine qR (W.done s _ _ hst λs' hm=>?_)
  show wpAny _ A.in1 (ret rf) _ _ s'
  exact qa (hR s' (hm.mono hsub) (hS.at λo e=>hm.heap S _ hSw e))
 |succ k ih=>
  intro i s hk hi hst hS hR
  have hlt:i<n:=by lia
  refine uB yy ?_
  rw[tq wm _]
  show wpAny _ A.in1 (pyNext (.ref I) >>= _) _ _ s
  refine qR (W.item i s _ _ hlt hst λv s' hP hst' hm=>?_)
  obtain⟨t,rfl⟩:=hval i v hP
  have hS':J4 prog w s'.heap S (firstMet val i):=hS.at λo e=>hm.heap S _ hSw e
  show wpAny _ A.in1 (holding [xJ (val i) t] (setAdd S (.int (val i) t)) >>= _) _ _ s'
  refine qR (sI ?_)
  unfold setAdd
  refine sI ?_
  refine qR ((intKind prog w).pyHash (k:=val i) (intKind_is _ _ _ _) ?_)
  have hroom:(firstMet val i).length+1<scanBound:=by have:=firstMet_length_le val i;lia
  refine bE (s:={s' with toks:=s'.toks+1}) hS' hroom λh' bb hsb hS2=>?_
  rw[<-firstMet_succ]at hS2
  refine qa ⟨uc wm _,ih (i+1) _ (by lia) hlt (W.frame _ s' _ _ hst' (wk _) λb hb o e=>?_) hS2 λs'' hm'' hS''=>?_⟩
  .rw[hsb.2 b (λh:b=S=>hSf (by rw[<-h];exact hb))];exact e
  .refine hR s'' (Moved.trans W.gtrans ((hm.mono hsub).then_heap (wk _) λb o hb e=>?_) hm'') hS''
   rw[hsb.2 b (λh:b=S=>hb (by rw[h];exact qp))];exact e
end
section
variable{prog:rF}{w:rX}{A:rS}{E:qT->qX->Prop}{s:qX}
theorem XZ(a:qT){Q₁:qT->qX->Prop}(h:Q₁ (.ref s.heap.objs.size) {s with heap:=s.heap.push (sO (!byT w))}):codeAny (model prog w) A (.call (.builtin "set.__new__") ⟨[.type "set",a],[]⟩) (wants Q₁ E) s:=by
 refine codeAny_of_tree ?_
 show wpAny _ A.in1 (do checkBuiltinCall "set.__new__" ⟨[.type "set",a],[]⟩;again (.builtin "set.__new__" ⟨[.type "set",a],[]⟩)) _ _ s
 refine qR (yW (F.newCall_set_1 a) (qa ⟨uc F.plain_set_new _,uB F.entry_set_new ?_⟩))
 rw[tq F.plain_set_new _]
 unfold uQ.«set.__new__» Builtin.Frozenset.newClass
 have hsub:=sub_set_self
 obtain⟨hp,g,d,tk,os⟩:=s
 dsimp only
 wp_walk
 refine yz (qa ?_)
 dsimp only
 simp only[newObj]
 refine qR (wpAny_alloc (qa ?_))
 exact qa h
end
end Mi
end
noncomputable section
namespace Mi
open PySem PySem.Spec L2 PyProof.Rows
section
variable{prog:rF}{w:rX}{A:rS}{E:qT->qX->Prop}{s:qX}{l:qb}{items:rP qT}{ns:Wp Int}
theorem J4.fresh{h:rT}{a:qb}(e:h.get? a=Gc (sO (!byT w))):J4 prog w h a []:=
 ⟨_, #[],0,_,e,⟨rfl,rfl,rfl⟩,rfl,λe he=>by simp at he,by exact yJ _,by decide,by rfl,TOk.fresh _⟩
theorem TH{Q:qT->qX->Prop}(hh:A.handled=none)(hl:s.heap.IsList l items)(hi:sX items.toList ns)(hb:items.size+1<scanBound)(h:∀(h':rT) (tk:Nat),J4 prog w h' s.heap.objs.size (V7 ns items.size)->(∀b o,s.heap.get? b=Gc o->h'.get? b=Gc o)->Q .none {s with heap:=h',toks:=tk}):codeAny (model prog w) A (.call (.builtin "set.__init__") ⟨[.ref s.heap.objs.size,.ref l],[]⟩) (wants Q E) {s with heap:=s.heap.push (sO (!byT w))}:=by
 generalize hled:(!byT w)=led
 have me:(s.heap.push (sO led)).get? s.heap.objs.size=Gc (sO led):=qk _ rfl
 have ty:Shared.TypeIs {s with heap:=s.heap.push (sO led)} (.ref s.heap.objs.size) "set":=⟨_,me,rfl⟩
 have hl1:=hl.push (sO led)
 obtain⟨o,ho,hc,n,hd⟩:=id hl
 have lt:=qq ho
 refine zt vm.init.plain F.entry_set_init (check_set_init_1 ty ?_)
 have ho1:=qU (sO led) ho
 obtain⟨c0,d0,q0,l0⟩:=o
 cases hc;cases hd
 have n1:=F.sub_list_set
 have n2:=F.sub_list_frozenset
 have n3:(wX "list" ==wX "dict")=false:=by decide
 unfold uQ.«set.__init__» noKeywords Builtin.Frozenset.updateFrom
 generalize pi:pyIter=it
 wp_walk
 subst pi
 refine tJ hl1 (qR (zu ?_))
 have sz:(s.heap.push (sO led)).objs.size=s.heap.objs.size+1:=rQ ..
 have ap:l≠(s.heap.push (sO led)).objs.size:=by rw[sz];exact qv (sQ lt)
 refine OB ((Walks.list (by simp[hh]) _ l ap items).toS) s.heap.objs.size (by rw[sz,qj,q8,yf];exact⟨qv (uD _),ur lt⟩) (λi=>ns.getD i 0)
  (λi v hv=>hi.int_at i v (by rw[Array.getElem?_toList];exact hv)) hb (items.size-0) 0 _ (by lia) (sf _) ⟨⟨_,qk _ rfl,rfl,rfl⟩,hl1.push _⟩ ?_ ?_
 .exact J4.fresh (by rw[hled];exact qU _ me)
 .rintro ⟨h',g',d',tk',os'⟩ hm hS
  have e1:g'=s.gens:=hm.gens
  have e2:d'=s.drawn:=hm.drawn
  have e3:os'=s.os:=hm.os
  subst e1 e2 e3
  refine qa (show wpAny _ _ (ret rf) _ _ _ from qa (h h' tk' hS λb u e=>?_))
  have lb:=qq e
  exact hm.heap b u (by rw[sz,qj,q8,yf];exact⟨qv lb,qv (sQ lb)⟩) (qU _ (qU _ e))
theorem UK{Q:qT->qX->Prop}(hh:A.handled=none)(hl:s.heap.IsList l items)(hi:sX items.toList ns)(hb:items.size+1<scanBound)(h:∀(h':rT) (tk:Nat),J4 prog w h' s.heap.objs.size (V7 ns items.size)->(∀b o,s.heap.get? b=Gc o->h'.get? b=Gc o)->Q (.ref s.heap.objs.size) {s with heap:=h',toks:=tk}):wpAny (model prog w) A (call (.type "set") [.ref l]) Q E s:=by
 obtain⟨c,tl,mr⟩:=vm.mro
 have z1:=vm.made
 have z2:=vm.sub
 have z3:=vm.notType
 have z4:=vm.canCreate
 have z5:=F.typeCall_set_1 (.ref l)
 refine AAP (codeAny_of_tree (show wpAny _ _ (callAny (.type "set") _) _ _ _ from qa ⟨AAZ _ (by decide+kernel),uB F.entry_type_call ?_⟩))
 rw[Around.under_plain (weight_type_call_type "set" [.ref l] []) rfl]
 repeat (any_goals (first|assumption|wp_step))
 refine wt (XZ (.ref l) (E:=E) (Q₁:=λu s1=>u=.ref s.heap.objs.size/\s1={s with heap:=s.heap.push (sO (!byT w))}) ⟨rfl,rfl⟩) ?_
 rintro (e|(_|u|_)) s1 hr
 all_goals first|exact hr|exact hr.elim|skip
 obtain⟨rfl,rfl⟩:=hr
 have me:(s.heap.push (sO (!byT w))).get? s.heap.objs.size=Gc (sO (!byT w)):=qk _ rfl
 have ty:Shared.TypeIs {s with heap:=s.heap.push (sO (!byT w))} (.ref s.heap.objs.size) "set":=⟨_,me,rfl⟩
 have y1:=vm.init.lookup
 have y2:=vm.init.bind (.ref s.heap.objs.size)
 repeat (any_goals (first|assumption|wp_step))
 refine wt (TH (E:=E) (Q:=λr s2=>r=.none/\∃h' tk,s2={s with heap:=h',toks:=tk}/\J4 prog w h' s.heap.objs.size (V7 ns items.size)/\∀b o,s.heap.get? b=Gc o->h'.get? b=Gc o) (by simp[hh]) hl hi hb λh' tk hS hk=>⟨rfl,h',tk,rfl,hS,hk⟩) ?_
 rintro (e|(_|u|_)) s2 hr
 all_goals first|exact hr|exact hr.elim|skip
 obtain⟨rfl,h',tk,rfl,hS,hk⟩:=hr
 repeat (any_goals (first|assumption|wp_step))
 exact h _ _ hS hk
end
end Mi
end
noncomputable section
namespace Mi
open PySem PySem.Spec L2 PyProof.Rows
section
variable{prog:rF}{w:rX}{A:rS}{E:qT->qX->Prop}{s:qX}{a:qb}{es:rP (Int×qT)}{ep:Nat}{t:SetTable}
def J2(h:rT)(a:qb)(es:rP (Int×qT))(ep:Nat)(t:SetTable):Prop:=∃o,h.get? a=Gc o/\o.ExactSet/\o.data=.set es ep t/\t.fits es.size=true
theorem J2.at{h h':rT}(x:J2 h a es ep t)(k:∀o,h.get? a=Gc o->h'.get? a=Gc o):J2 h' a es ep t:=let⟨o,ho,r⟩:=x;⟨o,k o ho,r⟩
theorem IS{Q:rR->qX->Prop}(h:Q (byT w) s):wpAny (model prog w) A setsByText Q E s:=by
 unfold setsByText
 exact qR (yz (qa h))
theorem VC{slot i:Nat}{Q:qY (qT×Nat)->qX->Prop}(hb:byT w=true)(x:J2 s.heap a es ep t)(h:Q (((pickOrder (w.params.setOrder a ep) es)[i]?).map λe=>(e.2,slot)) s):wpAny (model prog w) A (setNext a slot i ep) Q E s:=by
 obtain⟨o,ho,hex,hd,hf⟩:=x
 unfold setNext
 refine qR (vR ho hd hf (qR (IS ?_)))
 rw[hb]
 simp only[wW,bne_self_eq_false,uX,v8]
 unfold setWalk
 refine qR (qR (vR ho hd hf (qR (IS ?_))))
 rw[hb]
 exact qR (yz (qa (qa h)))
theorem Rq{slot i:Nat}{Q:qY (qT×Nat)->qX->Prop}(hb:byT w=false)(x:J2 s.heap a es ep t)(hp:(!t.plain && decide (es.size>1))=false)(hl:t.led=true)(h:Q (match es[sR t.place slot]?,t.place[sR t.place slot]? with|some (_,x),Gc j=>Gc (x,j+1)|_,_=>none) s):wpAny (model prog w) A (setNext a slot i ep) Q E s:=by
 obtain⟨o,ho,hex,hd,hf⟩:=x
 unfold setNext
 refine qR (vR ho hd hf (qR (IS ?_)))
 rw[hb]
 simp only[uX,v8]
 rw[rA (show¬_ from by show¬((!t.plain && decide (es.size>1))=true);rw[hp];simp)]
 refine qR ?_
 show wpAny _ _ (if(!t.led && !es.isEmpty)=true then unsupported _ else pure ()) _ _ _
 rw[hl]
 exact qa (qa h)
theorem A5:Slot "set_iterator" "__next__" "set_iterator.__next__":=
 .of (owner:="set_iterator") (n:="__next__") (by rw[typeLookup_type,zZ];kernel_rfl) (by decide+kernel) (by decide+kernel) (by decide+kernel)
  (by first|exact .inl (by decide+kernel)|exact .inr (by decide+kernel)) (by rw[zv];kernel_rfl)
theorem EM:entryFor table "set_iterator.__next__"=Gc uQ.«set_iterator.__next__» :=entryFor_of_tree (by kernel_rfl)
theorem Qm : Manifest.owners.lookup (String.ofList ['r', 'o', 't', 'a', 'r', 'e', 't', 'i', '_', 't', 'e', 's'].reverse) = Gc Manifest.sig_set_iterator := by kernel_rfl
theorem FP(a:qT):argsOk "set_iterator.__next__" ⟨[a],[]⟩:=by
 unfold argsOk; rw [signature?_of (id := "set_iterator.__next__") (n := ['_', '_', 't', 'x', 'e', 'n', '_', '_']) (o := ['r', 'o', 't', 'a', 'r', 'e', 't', 'i', '_', 't', 'e', 's']) (by kernel_rfl) Qm]; kernel_rfl
theorem Jr:Slot "set_iterator" "__iter__" "set_iterator.__iter__":=
 .of (owner:="set_iterator") (n:="__iter__") (by rw[typeLookup_type,zZ];kernel_rfl) (by decide+kernel) (by decide+kernel) (by decide+kernel)
  (by first|exact .inl (by decide+kernel)|exact .inr (by decide+kernel)) (by rw[zv];kernel_rfl)
theorem Oc(a:qT):argsOk "set_iterator.__iter__" ⟨[a],[]⟩:=by
 unfold argsOk; rw [signature?_of (id := "set_iterator.__iter__") (n := ['_', '_', 'r', 'e', 't', 'i', '_', '_']) (o := ['r', 'o', 't', 'a', 'r', 'e', 't', 'i', '_', 't', 'e', 's']) (by kernel_rfl) Qm]; kernel_rfl
theorem Np:entryFor table "set_iterator.__iter__"=Gc uQ.«dict_keyiterator.__iter__» :=
 entryFor_alias (id':="dict_keyiterator.__iter__") (by kernel_rfl) (by first|rfl|decide+kernel|(unfold String.splitOn;simp+decide [String.splitOnAux])) (by decide+kernel) (by kernel_rfl)
theorem Lr:entryFor table "set.__iter__"=Gc uQ.«frozenset.__iter__» :=
 entryFor_alias (id':="frozenset.__iter__") (by kernel_rfl) rfl (by decide+kernel) (by kernel_rfl)
def SIt(h:rT)(I a:qb)(f:qT)(i n ep:Nat):Prop:=∃o,h.get? I=Gc o/\o.cls=.type "set_iterator" /\o.data=.fields #[f,.int i 0,.ref a,.int n 0,.int ep 0]
variable{I:qb}{i n:Nat}{f:qT}
theorem SIt.typeIs(x:SIt s.heap I a f i n ep):s.TypeIs (.ref I) "set_iterator":=let⟨o,ho,c,_⟩:=x;⟨o,ho,c⟩
theorem SIt.at{h h':rT}(x:SIt h I a f i n ep)(k:∀o,h.get? I=Gc o->h'.get? I=Gc o):SIt h' I a f i n ep:=let⟨o,ho,r⟩:=x;⟨o,k o ho,r⟩
theorem U3{Q:qT->qX->Prop}(x:SIt s.heap I a f i n ep)(h:Q (.ref I) s):wpAny (model prog w) A (pyIter (.ref I)) Q E s:=by
 refine wpAny_pyIter_slot x.typeIs Jr (sD Jr x.typeIs Np ?_ (Oc _))
 show wpAny _ _ (ret (.ref I)) _ _ s
 exact qa ⟨_,rfl,"set_iterator",_,x.typeIs,A5.lookup,h⟩
theorem SK{k nx:Nat}{v:qT}{Q:qY qT->qX->Prop}(hit:SIt s.heap I a (.int k 0) i es.size ep)(hs:J2 s.heap a es ep t)(hN:∀{A:rS} {Q:qY (qT×Nat)->qX->Prop} {E:qT->qX->Prop},Q (Gc (v,nx)) s->wpAny (model prog w) A (setNext a k i ep) Q E s)(hQ:∀h',SIt h' I a (.int nx 0) (i+1) es.size ep->uq I s.heap h'->Q (Gc v) {s with heap:=h'}):wpAny (model prog w) A (pyNext (.ref I)) Q E s:=by
 obtain⟨o,ho,hc,hd⟩:=id hit
 obtain⟨os,hos,hex,hds,hf⟩:=id hs
 unfold pyNext
 refine qR (wU (sH (name:=tM "__next__") hit.typeIs A5
  (sD A5 hit.typeIs EM ?_ (FP _))))
 unfold uQ.«set_iterator.__next__»
 refine qR (m:=slotArgs "__next__" 0 _) (qa (qR (yK ho hd ?_)))
 show wpAny _ _ (setEntries a >>= _) _ _ _
 refine qR (vX hos hds hf ?_)
 rw[rA (by simp)]
 show wpAny _ _ (setNext a k i ep >>= _) _ _ _
 refine qR (hN ?_)
 show wpAny _ _ (setField (.ref I) 0 (rawInt nx) >>= λ_=>setField (.ref I) 1 (rawInt (i+1)) >>= λ_=>ret v) _ _ _
 refine qR (tZ ho hd (by simp) ?_)
 have ho1:=rK (se (·.setIfInBounds 0 (rawInt nx))) ho (sU (sE hd _))
 have hd1:=sE hd (·.setIfInBounds 0 (rawInt nx))
 refine qR (tZ ho1 hd1 (by simp) (qa ⟨v,rfl,qa (hQ _ ?_ ((sx ..).trans (sx ..)))⟩))
 exact⟨_,rK _ ho1 (sU (sE hd1 _)),(v5 ..).trans ((v5 ..).trans hc),by
  rw[sE hd1];simp[rawInt]⟩
end
end Mi
end
noncomputable section
namespace Mi
open PySem PySem.Spec L2 PyProof.Rows
section
variable{prog:rF}{w:rX}{A:rS}{E:qT->qX->Prop}{s:qX}{a:qb}{es:rP (Int×qT)}{ep:Nat}{t:SetTable}{I:qb}{i n:Nat}{f:qT}
theorem Vk{k:Nat}{Q:qY qT->qX->Prop}(hh:A.handled=none)(hit:SIt s.heap I a (.int k 0) i es.size ep)(hs:J2 s.heap a es ep t)(hN:∀{A:rS} {Q:qY (qT×Nat)->qX->Prop} {E:qT->qX->Prop},Q none s->wpAny (model prog w) A (setNext a k i ep) Q E s)(hQ:∀h',wg I s.heap h'->Q none {s with heap:=h'}):wpAny (model prog w) A (pyNext (.ref I)) Q E s:=by
 obtain⟨o,ho,hc,hd⟩:=id hit
 obtain⟨os,hos,hex,hds,hf⟩:=id hs
 unfold pyNext
 refine qR (wU (sH (name:=tM "__next__") hit.typeIs A5
  (sD A5 hit.typeIs EM ?_ (FP _))))
 unfold uQ.«set_iterator.__next__»
 refine qR (m:=slotArgs "__next__" 0 _) (qa (qR (yK ho hd ?_)))
 show wpAny _ _ (setEntries a >>= _) _ _ _
 refine qR (vX hos hds hf ?_)
 rw[rA (by simp)]
 show wpAny _ _ (setNext a k i ep >>= _) _ _ _
 refine qR (hN ?_)
 show wpAny _ _ (setField (.ref I) 2 .none >>= λ_=>newExc (.type "StopIteration") [] >>= λe=>raiseNew e) _ _ _
 refine qR (tZ ho hd (by simp) ?_)
 refine qR ?_
 simp only[newExc,newTuple]
 refine qR (rm ?_ (by size_fits))
 refine qR (m:=firstArgMember _ _) (yW (a:=rf) (by first|rfl|(simp only[firstArgMember];rfl)) ?_)
 refine rm ?_ (by size_fits)
 simp only[raiseNew]
 refine qR (wpAny_handled ?_)
 rw[show A.in1.handled=none from hh]
 refine qR (qa (wpAny_throw ?_))
 refine qR (wH (T:="StopIteration") (b:=true) ⟨_,qk _ rfl,rfl⟩ zl ?_)
 exact qa (hQ _ (((sx ..).extBut.push _).push _))
theorem SE{T:qb}{pl:rP qT}{k:Nat}{e:Int×qT}{Q:qY qT->qX->Prop}(hit:SIt s.heap I a (.ref T) i es.size ep)(hs:J2 s.heap a es ep t)(hT:s.heap.IsTuple T pl)(hp:pl[i]?=Gc (.int k 0))(he:es[k]?=Gc e)(hQ:∀h',SIt h' I a (.ref T) (i+1) es.size ep->uq I s.heap h'->Q (Gc e.2) {s with heap:=h'}):wpAny (model prog w) A (pyNext (.ref I)) Q E s:=by
 obtain⟨o,ho,hc,hd⟩:=id hit
 obtain⟨os,hos,hex,hds,hf⟩:=id hs
 obtain⟨ot,hot,_,nt,hdt⟩:=id hT
 unfold pyNext
 refine qR (wU (sH (name:=tM "__next__") hit.typeIs A5
  (sD A5 hit.typeIs EM ?_ (FP _))))
 unfold uQ.«set_iterator.__next__»
 refine qR (m:=slotArgs "__next__" 0 _) (qa (qR (yK ho hd ?_)))
 show wpAny _ _ (setEntries a >>= _) _ _ _
 refine qR (vX hos hds hf ?_)
 rw[rA (by simp)]
 show wpAny _ _ (seqItems? (.ref T) >>= _) _ _ _
 refine qR (tT hot hdt ?_)
 simp only[vy,hp]
 refine qR (m:=setNextDrawn a k ep) ?_
 unfold setNextDrawn
 refine qR (vR hos hds hf ?_)
 simp only[bne_self_eq_false,uX,v8,he]
 refine qa ?_
 show wpAny _ _ (setField (.ref I) 1 (rawInt (i+1)) >>= λ_=>ret e.2) _ _ _
 refine qR (tZ ho hd (by simp) (qa ⟨e.2,rfl,qa (hQ _ ?_ (sx ..))⟩))
 exact⟨_,rK _ ho (sU (sE hd _)),(v5 ..).trans hc,by
  rw[sE hd];simp[rawInt]⟩
theorem Tz{T:qb}{pl:rP qT}{Q:qY qT->qX->Prop}(hh:A.handled=none)(hit:SIt s.heap I a (.ref T) i es.size ep)(hs:J2 s.heap a es ep t)(hT:s.heap.IsTuple T pl)(hp:pl[i]?=none)(hQ:∀h',wg I s.heap h'->Q none {s with heap:=h'}):wpAny (model prog w) A (pyNext (.ref I)) Q E s:=by
 obtain⟨o,ho,hc,hd⟩:=id hit
 obtain⟨os,hos,hex,hds,hf⟩:=id hs
 obtain⟨ot,hot,_,nt,hdt⟩:=id hT
 unfold pyNext
 refine qR (wU (sH (name:=tM "__next__") hit.typeIs A5
  (sD A5 hit.typeIs EM ?_ (FP _))))
 unfold uQ.«set_iterator.__next__»
 refine qR (m:=slotArgs "__next__" 0 _) (qa (qR (yK ho hd ?_)))
 show wpAny _ _ (setEntries a >>= _) _ _ _
 refine qR (vX hos hds hf ?_)
 rw[rA (by simp)]
 show wpAny _ _ (seqItems? (.ref T) >>= _) _ _ _
 refine qR (tT hot hdt ?_)
 simp only[vy,hp]
 show wpAny _ _ (setField (.ref I) 0 (rawInt 0) >>= λ_=>setField (.ref I) 2 .none >>= λ_=>newExc (.type "StopIteration") [] >>= λe=>raiseNew e) _ _ _
 refine qR (tZ ho hd (by simp) ?_)
 have ho1:=rK (se (·.setIfInBounds 0 (rawInt 0))) ho (sU (sE hd _))
 have hd1:=sE hd (·.setIfInBounds 0 (rawInt 0))
 refine qR (tZ ho1 hd1 (by simp) ?_)
 refine qR ?_
 simp only[newExc,newTuple]
 refine qR (rm ?_ (by size_fits))
 refine qR (m:=firstArgMember _ _) (yW (a:=rf) (by first|rfl|(simp only[firstArgMember];rfl)) ?_)
 refine rm ?_ (by size_fits)
 simp only[raiseNew]
 refine qR (wpAny_handled ?_)
 rw[show A.in1.handled=none from hh]
 refine qR (qa (wpAny_throw ?_))
 refine qR (wH (T:="StopIteration") (b:=true) ⟨_,qk _ rfl,rfl⟩ zl ?_)
 exact qa (hQ _ ((((sx ..).trans (sx ..)).extBut.push _).push _))
theorem YG(hh:A.handled=none)(I a:qb)(hne:a≠I)(es:rP (Int×qT))(ep:Nat)(t:SetTable)(g:Nat->Nat)(items:rP qT)(hN:∀(s:qX) (i:Nat) {A:rS} {Q:qY (qT×Nat)->qX->Prop} {E:qT->qX->Prop},J2 s.heap a es ep t->i<=items.size->Q (items[i]?.map λx=>(x,g (i+1))) s->wpAny (model prog w) A (setNext a (g i) i ep) Q E s):Walks prog w A I [I,a] [I] items.size (λi v=>items[i]?=Gc v) (λi h=>SIt h I a (.int (g i) 0) i es.size ep/\J2 h a es ep t) where
 sub:=λb hb=>by simp at hb;simp[hb]
 frame:=λ_ _ _ st hk=>⟨st.1.at λo e=>hk I (by simp) o e,st.2.at λo e=>hk a (by simp) o e⟩
 item:=λi s Q E hi st hQ=>by
  have e:items[i]?=Gc items[i]:=by simp[hi]
  refine SK st.1 st.2 (v:=items[i]) (nx:=g (i+1)) (λq=>hN s i st.2 (vM hi) (by rw[e];exact q)) λh' hit' hs'=>?_
  exact hQ _ h' s.toks (by simp[hi]) ⟨hit',st.2.at λo e=>hs'.extBut a o hne e⟩ λb o hb e=>hs'.extBut b o (λh=>hb (by simp[h])) e
 done:=λs Q E st hQ=>Vk hh st.1 st.2 (λq=>hN s items.size st.2 (qg _) (by simpa using q)) λh' he'=>hQ h' s.toks λb o hb e=>he' b o (λh=>hb (by simp[h])) e
 self:=λ_ _ _ _ st hQ=>U3 st.1 hQ
theorem dO(hh:A.handled=none)(I a T:qb)(hne:a≠I)(hnT:T≠I)(es:rP (Int×qT))(ep:Nat)(t:SetTable)(ks:Wp Nat)(items:rP qT)(hz:items.size=ks.length)(hk:∀(i k:Nat),ks[i]?=Gc k->∃e:Int×qT,es[k]?=Gc e/\items[i]?=Gc e.2):Walks prog w A I [I,a,T] [I] items.size (λi v=>items[i]?=Gc v) (λi h=>SIt h I a (.ref T) i es.size ep/\J2 h a es ep t/\h.IsTuple T (ks.map λ(i:Nat)=>rawInt i).toArray) where
 sub:=λb hb=>by simp at hb;simp[hb]
 frame:=λ_ _ _ st hk=>⟨st.1.at λo e=>hk I (by simp) o e,st.2.1.at λo e=>hk a (by simp) o e,st.2.2.at λo e=>hk T (by simp) o e⟩
 item:=λi s Q E hi st hQ=>by
  have hi':i<ks.length:=by lia
  obtain⟨e,he,hv⟩:=hk i ks[i] (by simp[hi'])
  refine SE st.1 st.2.1 st.2.2 (k:=ks[i]) (by simp[hi',rawInt]) he λh' hit' hs'=>?_
  exact hQ _ h' s.toks hv ⟨hit',st.2.1.at λo e=>hs'.extBut a o hne e,st.2.2.at λo e=>hs'.extBut T o hnT e⟩ λb o hb e=>hs'.extBut b o (λh=>hb (by simp[h])) e
 done:=λs Q E st hQ=>Tz hh st.1 st.2.1 st.2.2 (by simp[hz]) λh' he'=>hQ h' s.toks λb o hb e=>he' b o (λh=>hb (by simp[h])) e
 self:=λ_ _ _ _ st hQ=>U3 st.1 hQ
end
end Mi
end
noncomputable section
namespace Mi
open PySem PySem.Spec L2 PyProof.Rows
theorem JK{α:Type}:∀(l:Wp α) (i:Nat) (h:i<l.length),(l[i]::l.eraseIdx i).Perm l
 |x::l,0,h=>yJ _
 |x::l,i+1,h=>(List.Perm.swap _ _ _).trans (List.Perm.cons _ (JK l i (by simpa using h)))
theorem Tt{α:Type}(nx:Nat->Nat):∀(fuel k:Nat) (left:Wp α) (out:rP α),left.length<=fuel->(pickOrder.go nx fuel k left out).toList.Perm (out.toList++left)
 |0,k,left,out,h=>by
  cases left with
  |nil=>simp[pickOrder.go]
  |cons x l=>simp at h
 |fuel+1,k,left,out,h=>by
  unfold pickOrder.go
  cases e:left[nx k % left.length]? with
  |none=>
   cases left with
   |nil=>simp
   |cons x l=>
    rw[yM]at e
    exact absurd (AAa (nx k) (Nat.succ_pos l.length)) (by simpa using e)
  |some x=>
   obtain⟨lt,rfl⟩:=qe.mp e
   refine(Tt nx fuel (k+1) _ _ (by rw[zw];simp[lt];lia)).trans ?_
   rw[Array.toList_push,vO]
   exact List.Perm.append_left _ (JK _ _ lt)
theorem VY{α:Type}(nx:Nat->Nat)(xs:rP α):(pickOrder nx xs).toList.Perm xs.toList:=by
 have:=Tt nx xs.size 0 xs.toList #[] (by simp)
 unfold pickOrder
 simpa using this
section
variable{prog:rF}{w:rX}{A:rS}{E:qT->qX->Prop}{s:qX}{a:qb}
theorem wp_choose{M:AAH}{src:Source}{n:Nat}{Q:Nat->qX->Prop}(hn:n≠0)(h:∀i d,i<n->Q i {s with drawn:=d}):wpAny M A (choose src n) Q E s:=
 λ_ _ _=>⟨hn,h _ _ (AAa _ (vn hn))⟩
theorem OK{α:Type}:∀(n:Nat) (xs:Wp α) (s:qX) {Q:Wp α->qX->Prop},xs.length<=n->(∀ys d,ys.Perm xs->Q ys {s with drawn:=d})->wpAny (model prog w) A (drawOrder n xs) Q E s
 |0,xs,s,Q,hl,h=>by
  cases xs with
  |nil=>exact qa (h [] s.drawn (yJ _))
  |cons x l=>simp at hl
 |n+1,[],s,Q,hl,h=>qa (h [] s.drawn (yJ _))
 |n+1,x::l,s,Q,hl,h=>by
  unfold drawOrder
  refine qR (wp_choose (by simp) λi d hi=>?_)
  have e:(x::l)[i]?=Gc (x::l)[i]:=by simp[hi]
  rw[e]
  refine qR (OK n _ _ (by rw[zw,q9 hi];simp at hl ⊢; lia) λys d' p=>qa (h _ d' ?_))
  exact(List.Perm.cons _ p).trans (JK _ _ hi)
theorem Mh{es:Wp (Int×qT)}(h:zH (intKind prog w) es):sX (es.map (·.2)) (vls es):=by
 induction es with
 |nil=>exact .nil
 |cons e l ih=>
  obtain⟨⟨k,q,_⟩,_⟩:=h.head
  obtain⟨t,hv⟩:=yQ q
  obtain⟨x,v⟩:=e
  dsimp only at hv
  subst hv
  exact .cons _ _ (ih h.tail)
theorem VX{L:Wp Int}{Q:qT->qX->Prop}(hS:J4 prog w s.heap a L)(h:∀(I:qb) (fp:Wp qb) (items:rP qT) (St:Nat->rT->Prop) (ms:Wp Int) (h':rT) (d':Drawn),(∀A':rS,A'.handled=none->Walks prog w A' I fp [I] items.size (λi v=>items[i]?=Gc v) St)->St 0 h'->(∀b∈fp,b<h'.objs.size)->(∀b∈fp,b=a\/s.heap.objs.size<=b)->s.heap.objs.size<=I->sX items.toList ms->ms.Perm L->(∀b o,s.heap.get? b=Gc o->h'.get? b=Gc o)->Q (.ref I) {s with heap:=h',drawn:=d'}):wpAny (model prog w) A (pyIter (.ref a)) Q E s:=by
 obtain⟨o,es,ep,t,ho,hex,hd,hel,hp,hb,hf,ht⟩:=hS
 have ty:s.TypeIs (.ref a) "set":=⟨o,ho,hex.1⟩
 have la:=qq ho
 have ps:t.place.size=es.size:=by simp only[SetTable.fits,qt,vf]at hf;exact hf.1
 refine wpAny_pyIter_slot ty F.slot_set_iter (sD F.slot_set_iter ty Lr ?_ (F.args_set_iter_1 _))
 unfold uQ.«frozenset.__iter__»
 refine qR (m:=Builtin.Frozenset.slot0 "__iter__" _) (qa ?_)
 refine qR (m:=Builtin.Frozenset.sizeOf a) (qR (vX ho hd hf (qa ?_)))
 refine qR (m:=setDrawn a) ?_
 unfold setDrawn
 refine qR (vR ho hd hf (qR (IS (qa ?_))))
 show wpAny _ _ (if(!byT w && (!t.plain && decide (es.size>1)))=true then _ else _) _ _ _
 cases hbt:byT w with
 |true=>
  rw[rA (by simp)]
  refine qR (qa (qR (yY ho hd hf (qR (rm ?_)))))
  refine qa ⟨_,rfl,"set_iterator",_,⟨_,qk _ rfl,rfl⟩,A5.lookup,?_⟩
  have pk:=VY (w.params.setOrder a ep) es
  refine h _ [s.heap.objs.size,a] ((pickOrder (w.params.setOrder a ep) es).map (·.2)) _ (vls (pickOrder (w.params.setOrder a ep) es).toList) _ _
   (λA' hh=>YG hh _ a (qv la) es ep t (λ_=>0) _ λs i A Q E x hi q=>VC hbt x (by simpa[Function.comp_def]using q))
   ⟨⟨_,qk _ rfl,rfl,rfl⟩,o,qU _ ho,hex,hd,hf⟩ ?_ (λb hb=>by simp at hb;rcases hb with rfl|rfl<;>simp) (qg _) ?_ ((pk.map iOf).trans hp) (λb o e=>qU _ e)
  .intro b hb
   rw[rQ]
   simp at hb
   rcases hb with rfl|rfl
   .exact uD _
   .exact sQ la
  .rw[Array.toList_map]
   exact Mh (hel.perm pk)
 |false=>
  rw[hbt]at ht
  cases hpl:(!t.plain && decide (es.size>1))with
  |false=>
   rw[rA (by simp)]
   refine qR (qa (qR (yY ho hd hf (qR (rm ?_)))))
   refine qa ⟨_,rfl,"set_iterator",_,⟨_,qk _ rfl,rfl⟩,A5.lookup,?_⟩
   refine h _ [s.heap.objs.size,a] (es.map (·.2)) _ (vls es.toList) _ _
    (λA' hh=>YG hh _ a (qv la) es ep t (slotAt t.place) _ λs i A Q E x hi q=>Rq hbt x hpl (by rw[ht.led];rfl) ?_)
    ⟨⟨_,qk _ rfl,rfl,rfl⟩,o,qU _ ho,hex,hd,hf⟩ ?_ (λb hb=>by simp at hb;rcases hb with rfl|rfl<;>simp) (qg _) ?_ hp (λb o e=>qU _ e)
   .have hi':i<=es.size:=by simpa using hi
    rw[SD ht.ris (by lia)]
    by_cases z:i<es.size
    .have z':i<t.place.size:=by lia
     have e1:es[i]?=Gc es[i]:=by simp[z]
     have e2:t.place[i]?=Gc t.place[i]:=by simp[z']
     rw[AAb,e1]at q
     have e3:slotAt t.place (i+1)=t.place[i]+1:=by simp[slotAt,zF,z']
     rw[e1,e2]
     simp only[Option.map_some,e3]at q
     exact q
    .have e1:es[i]?=none:=by simp;lia
     rw[AAb,e1]at q
     rw[e1]
     exact q
   .intro b hb
    rw[rQ]
    simp at hb
    rcases hb with rfl|rfl
    .exact uD _
    .exact sQ la
   .rw[Array.toList_map]
    exact Mh hel
  |true=>
   rw[q9 (by simp)]
   refine qR (OK _ _ _ (Nat.le_of_eq List.length_range) λks d pks=>qR (wpAny_newTuple ?_ ?_))
   .refine qR (yY (qU _ ho) hd hf (qR (rm ?_)))
    refine qa ⟨_,rfl,"set_iterator",_,⟨_,qk _ rfl,rfl⟩,A5.lookup,?_⟩
    have kl:ks.length=es.size:=by have:=pks.length_eq;simpa using this
    have al:(rO es.size).map (λk=>es.getD k (0,.none))=es.toList:=by
     apply xP
     .simp
     .intro i h1 h2
      simp at h1 h2
      simp[zF,h2]
    have pe:(ks.map (λk=>es.getD k (0,.none))).Perm es.toList:=by rw[<-al];exact pks.map _
    refine h _ [(s.heap.push _).objs.size,a,s.heap.objs.size] ((ks.map (λk=>es.getD k (0,.none))).map (·.2)).toArray _ (vls (ks.map (λk=>es.getD k (0,.none)))) _ _
     (λA' hh=>dO hh _ a s.heap.objs.size (by rw[rQ];exact qv (sQ la)) (by rw[rQ];exact qv (uD _)) es ep t ks _ (by simp) λi k e=>?_)
     ⟨⟨_,qk _ rfl,rfl,rfl⟩,⟨o,qU _ (qU _ ho),hex,hd,hf⟩,⟨_,qU _ (qk _ rfl),rfl,_,rfl⟩⟩ ?_ (λb hb=>by rw[rQ]at hb;simp at hb;rcases hb with rfl|rfl|rfl<;>simp) (by rw[rQ];exact wk _) ?_ ((pe.map iOf).trans hp) (λb o e=>qU _ (qU _ e))
    .have km:k<es.size:=by
      have:k∈rO es.size:=pks.mem_iff.mp (qx e)
      simpa using this
     exact⟨es[k],by simp[km],by simp[e,zF,km]⟩
    .intro b hb
     rw[rQ,rQ]
     rw[rQ]at hb
     simp at hb
     rcases hb with rfl|rfl|rfl
     .exact uD _
     .exact sQ (sQ la)
     .exact sQ (uD _)
    .exact Mh (hel.perm pe)
   .rw[qy,pks.length_eq,List.length_range];exact xB hb
end
end Mi
end
noncomputable section
namespace Mi
open PySem PySem.Spec L2 PyProof.Rows
section
variable{prog:rF}{w:rX}{A:rS}{E:qT->qX->Prop}{s:qX}{a:qb}{L:Wp Int}
theorem J4.typeIs(x:J4 prog w s.heap a L):s.TypeIs (.ref a) "set":=let⟨o,_,_,_,ho,e,_⟩:=x;⟨o,ho,e.1⟩
theorem Xc{items acc:rP qT}(h:ItemsOf (λi v=>items[i]?=Gc v) acc items.size):acc=items:=by
 apply Array.ext
 .exact h.1
 .intro i h1 h2
  have:=h.2 i acc[i] (by simp)
  simpa[h2]using this.symm
theorem Wi{Q:rR->qX->Prop}(x:s.TypeIs (.ref a) "set")(h:Q false s):wpAny (model prog w) A (uw (.ref a)) Q E s:=by
 unfold uw
 refine qR (zS x F.slot_set_len.lookup ?_)
 generalize hid:("set.__len__":uO)=id0
 wp_delta
 rw[show splitId id0=Gc ("set","__len__")from by subst hid;decide+kernel]
 subst hid
 refine qR (wH (b:=true) x sub_set_self ?_)
 rw[rA (by decide)]
 dsimp only
 rw[q9 (by decide+kernel)]
 refine qR (vd (T:="set") x ?_)
 exact qa h
theorem OA{Q:Wp qT->qX->Prop}(hh:A.handled=none)(hS:J4 prog w s.heap a L)(h:∀(vs:Wp qT) (ms:Wp Int) (h':rT) (d':Drawn) (tk:Nat),sX vs ms->ms.Perm L->(∀b o,s.heap.get? b=Gc o->h'.get? b=Gc o)->s.heap.objs.size<=h'.objs.size->Q vs {s with heap:=h',drawn:=d',toks:=tk}):wpAny (model prog w) A (collect (.ref a)) Q E s:=by
 have lb:L.length<scanBound:=by
  obtain⟨o,es,ep,t,ho,hex,hd,hel,hp,hb,hf,ht⟩:=hS
  have:=hp.length_eq
  simp at this
  lia
 unfold collect
 refine qR (zu (uB F.entry_proto_collect ?_))
 rw[tq F.plain_proto_collect _]
 show wpAny _ A.in1 (newList [] >>= λl=>again (.builtin "list.__iadd__" ⟨[l,.ref a],[]⟩)) _ _ s
 refine qR (yi ?_)
 refine qa ⟨uc F.plain_list_iadd _,uB F.entry_list_iadd ?_⟩
 rw[tq F.plain_list_iadd _]
 show wpAny _ A.in1 (sP (.ref s.heap.objs.size) (.ref a) (.ref s.heap.objs.size)) _ _ {s with heap:=s.heap.push (seqObj "list" #[] 0)}
 have hS1:J4 prog w (s.heap.push (seqObj "list" #[] 0)) a L:=hS.at λo e=>qU _ e
 have la:a<s.heap.objs.size:=by obtain⟨o,es,ep,t,ho,r⟩:=hS;exact qq ho
 have me:(s.heap.push (seqObj "list" #[] 0)).get? s.heap.objs.size=Gc (seqObj "list" #[] 0):=qk _ rfl
 have h1:vW (.ref s.heap.objs.size) (.ref a)=false:=by simp[vW];exact ur la
 unfold sP
 refine qR (vd (T:="set") (J4.typeIs (s:={s with heap:=s.heap.push (seqObj "list" #[] 0)}) hS1) ?_)
 rw[rA (by rw[h1];decide)]
 refine qR (VX (s:={s with heap:=s.heap.push (seqObj "list" #[] 0)}) hS1 λI fp items St ms h2 d2 W st fpl fpn Ip im pm kp=>?_)
 have hS2:J4 prog w h2 a L:=hS1.at λo e=>kp a o e
 refine qR (sI (Wi (J4.typeIs (s:={s with heap:=h2,drawn:=d2}) hS2) ?_))
 rw[q9 (by decide+kernel)]
 have Ip':s.heap.objs.size<I:=by rw[show _=s.heap.objs.size+1 from rQ ..]at Ip;exact Ip
 have hSf:s.heap.objs.size∉fp:=λz=>by
  rcases fpn _ z with e|e
  .exact ur la e
  .rw[show _=s.heap.objs.size+1 from rQ ..]at e;exact sV _ e
 have m2:=kp _ _ me
 have hn:items.size<=sizeLine:=by
  have e1:=im.length
  have e2:=pm.length_eq
  simp at e1
  have:=xB lb
  lia
 refine qR (vA (qR ?_))
 show wpAny _ A.in1 (updateSeq s.heap.objs.size (·.push .none) >>= λ_=>updateSeq s.heap.objs.size (·.pop)) _ _ _
 refine qR (uT (s:={s with heap:=h2,drawn:=d2}) m2 rfl ?_)
 have m3:=rK (tY (·.push rf)) m2 rfl
 refine uT m3 rfl ?_
 have m4:=rK (tY (·.pop)) m3 rfl
 have oth:∀b o,b≠s.heap.objs.size->h2.get? b=Gc o->
   ((h2.update s.heap.objs.size (tY (·.push rf))).update s.heap.objs.size (tY (·.pop))).get? b=Gc o:=
  λb o hb e=>(rE _ _ (rh hb)).trans ((rE _ _ (rh hb)).trans e)
 have W1:=(W A.in1 (by simp[hh])).toS
 refine qa ⟨uc AAD _,zx W1 hn _ hSf _ items.size 0 _ _ _ rfl (sf _) ?_ m4 (ItemsOf.nil _) λs' acc' c' hm hS' hacc=>?_⟩
 .exact(W A.in1 (by simp[hh])).frame 0 _ _ st λb hb o e=>oth b o (λz=>hSf (z▸hb)) e
 .have ea:=Xc hacc
  subst ea
  obtain⟨h',g',d',tk',os'⟩:=s'
  have e1:g'=s.gens:=hm.gens
  have e2:d'=d2:=hm.drawn
  have e3:os'=s.os:=hm.os
  subst e1 e2 e3
  refine qR (wpAny_load hS' (qa (h _ ms _ _ _ im pm (λb o e=>?_) (vM (qq hS')))))
  have lb:=qq e
  exact hm.heap b o (by simp;exact⟨qv lb,qv (vg lb Ip')⟩) (oth b o (qv lb) (kp b o (qU _ e)))
end
end Mi
end
noncomputable section
namespace Mi
open PySem PySem.Spec L2 PyProof.Rows
section
variable{prog:rF}{w:rX}{A:rS}{E:qT->qX->Prop}{s:qX}{a:qb}{L:Wp Int}
theorem QI{Q:qT->qX->Prop}(hh:A.handled=none)(hS:J4 prog w s.heap a L)(h64:L.length<64)(h:∀(p:qb) (out:rP qT) (e:Nat) (ms:Wp Int) (h':rT) (d':Drawn) (tk:Nat),s.heap.objs.size<=p->h'.get? p=Gc (seqObj "list" out e)->sX out.toList ms->ms.Perm L->ms.Pairwise (· <= ·)->(∀b o,s.heap.get? b=Gc o->h'.get? b=Gc o)->Q (.ref p) {s with heap:=h',drawn:=d',toks:=tk}):wpAny (model prog w) A (call (.builtin "sorted") [.ref a]) Q E s:=by
 refine yP kind_sorted plain_sorted entry_sorted (args_sorted1 _) ?_
 unfold uQ.«sorted»
 refine qR (m:=checkCount "sorted" 1 1 _) (qa (qR (OA (by simp[hh]) hS λvs ms h' d' tk im pm kp lz=>qR (yi ?_ ?_))))
 .have at1:(h'.push (seqObj "list" vs.toArray 0)).get? h'.objs.size=Gc (seqObj "list" vs.toArray 0):=qk _ rfl
  have vl:vs.length<64:=by rw[im.length,pm.length_eq];exact h64
  show wpAny _ _ _ _ _ {s with heap:=h'.push (seqObj "list" vs.toArray 0),drawn:=d',toks:=tk}
  refine qR (sI (sD slot_list_sort ⟨_,at1,rfl⟩ entry_list_sort (list_sort_tree at1 im vl λout ns' a1 a2 a3=>⟨_,rfl,qa ⟨_,rfl,?_⟩⟩) (args_list_sort _)))
  obtain⟨e,he⟩:=sortedHeap_at (out:=out) at1
  refine h _ out e ns' _ d' tk lz he a1 (a2.trans pm) a3 λb o q=>?_
  have lb:b<h'.objs.size:=qq (kp b o q)
  rw[sortedHeap_old (qv lb) (by rw[rQ];exact sQ lb)]
  exact qU _ (kp b o q)
 .have:vs.length<64:=by rw[im.length,pm.length_eq];exact h64
  exact qh (vM this) (by decide)
end
theorem Xp{X:Cx}{pins:Wp (qb×Obj)}{σ:Wp (qY V)}{H:Hp}{s:qX}(I:Inv X pins σ H s)(d:Drawn):Inv X pins σ H {s with drawn:=d}:=
 I.step (g':=s.gens) (d':=d) (t':=s.toks) (ch:=[]) (λ_ z=>nomatch z) (λ_ _ _ _ _ e _=>e) (λb o _ _ _ e _=>⟨o.slots,e⟩) (λ_ _ _ _ n=>n) (λb o _ e=>⟨o,e⟩) (λ_ _ e=>e) (λ_ _ _ e=>e) (λb ps e=>⟨#[],by rw[e];simp⟩) (λ_ m=>m) I.hok I.bare
noncomputable def wSS:Op1:=λw=>(asL w).bind λds=>(Gw ds).bind λns=>if ns.length<=1000/\(V7 ns ns.length).length<64 then Gc (.own ((Fp (V7 ns ns.length)).map D.int))else none
theorem kR{X:Cx}{a:rJ}{ta:TA}{p p' pos pos':Pos}(hc:X.calm=true)(hgl:Gl X "sorted")(hml:X.mg "sorted"=none)(hg:Gl X "set")(hm:X.mg "set"=none)(ha:PA X [a] ta)(hs:rB [a] X.env=[(false,eval a X.env)]:=by rfl)(hs2:rB [Expr.Call (.Name "set" p) [a] [] pos] X.env=[(false,eval (.Call (.Name "set" p) [a] [] pos) X.env)]:=by rfl):PE X (.Call (.Name "sorted" p') [.Call (.Name "set" p) [a] [] pos] [] pos') (λσ H Q=>ta σ H λvs H1=>rN X.K (o1 wSS) vs H1 Q):=by
 intro pins s σ H Q I h
 refine uV (Ic I hgl hml boot_sorted ?_ (by decide) (by decide))
 refine callWith_builtin1 ?_ hs2 rfl
 rw[hs2]
 show wpAny _ _ (spliced ((false,eval (.Call (.Name "set" p) [a] [] pos) X.env)::backTo pos' [])) _ _ s
 refine wG ?_
 refine uV (Ic I hg hm PyProof.Rows.boot_set ?_ (by decide) (by decide))
 refine uu (thn (ha pos pins s σ H _ I h) λus s1 ⟨vs,H1,I1,r1,q1⟩=>?_) hs rfl
 obtain⟨M,ws,w,e,mo,sh,q⟩:=q1
 obtain⟨v,w1,rfl,rfl,sh1,e1⟩:=Fg sh e
 obtain⟨ds,e2,e1⟩:=Ae e1
 obtain⟨ns,e3,e1⟩:=Ae e1
 split at e1
 .rename_i hz
  cases e1
  obtain⟨b,ys,rfl,h3,h4⟩:=sh1.l e2
  have hL:SqL X.K H1 b (ns.map V.int):=by rw[<-F0 h4 e3];exact .of h3
  obtain⟨u,rfl,ru⟩:=r1.one
  cases (show u=rY b from ru)
  obtain⟨its,rv,pl,_⟩:=I1.list hL
  have hl:its.length=ns.length:=by have:=rv.length;simpa using this.symm
  have hl2:its.toArray.size=ns.length:=by rw[qr,hl]
  refine UK (items:=its.toArray) (ns:=ns) (I1.ok.hd hc) pl.isList (by simpa using intsAre_of rv) (by rw[hl2];unfold scanBound;lia) λh' tk hS hk=>xo ?_
  rw[hl2]at hS
  refine QI (s:={s1 with heap:=h',toks:=tk}) (I1.ok.hd hc) hS hz.2 λp out e ms h2 d2 tk2 lp hp a1 a2 a3 kp=>?_
  have hs':=JZ a2 a3
  subst hs'
  have k2:∀b o,s1.heap.get? b=Gc o->h2.get? b=Gc o:=λb o z=>kp b o (hk b o z)
  have lp2:s1.heap.objs.size<=p:=by
   obtain⟨_,_,_,_,ho,_⟩:=hS
   exact qh (vM (qq ho)) lp
  have hn:H1 p=none:=I1.hok.fresh lp2
  refine⟨.ref _,_,Xp (I1.laid (a:=p) (o:=.lst ((Fp (V7 ns ns.length)).map V.int)) (t':=tk2) k2 lp2 ?_) d2,rfl,q _ _ (.lst mo hn Gg)⟩
  refine⟨?_,out.toList,e,D4 a1,?_⟩
  .rw[qy,(EW _).length_eq]
   have:(64:Nat)<=sizeLine:=by decide
   lia
  .rw[wC];exact hp
 .cases e1
theorem jb{X:Cx}{a:rJ}{o:Ev}{c:rR}{p p' pos pos':Pos}(hc:X.calm=true)(hgl:Gl X "sorted")(hml:X.mg "sorted"=none)(hg:Gl X "set")(hm:X.mg "set"=none)(ha:DEs X [a] [o])(hs:rB [a] X.env=[(false,eval a X.env)]:=by rfl)(hs2:rB [Expr.Call (.Name "set" p) [a] [] pos] X.env=[(false,eval (.Call (.Name "set" p) [a] [] pos) X.env)]:=by rfl):DE X (.Call (.Name "sorted" p') [.Call (.Name "set" p) [a] [] pos] [] pos') (Nn c (o1 wSS) [o]):=⟨
 A7 (kR hc hgl hml hg hm ha.pe hs hs2) λ_ _ _ h=>by
  obtain⟨M,E,S,d,S',e,r,st,q⟩:=h
  exact Kj e r st q⟩
end Mi
end
noncomputable section
namespace Mi
open PySem PySem.Spec L2 PyProof.Rows
section
variable{prog:rF}{w:rX}{A:rS}{E:qT->qX->Prop}{s:qX}{K:Type} [zd K] {knd:KeyKind prog w K}{d:qb}{kvs:Wp (K×qT)}
abbrev kh(knd:KeyKind prog w K)(kvs:Wp (K×qT)):Nat->qT->Prop:=λi v=>∃k x,kvs[i]?=Gc (k,x)/\knd.is k v=true
theorem Uj{Q:rR->qX->Prop}(x:s.TypeIs (.ref d) "dict")(h:Q false s):wpAny (model prog w) A (uw (.ref d)) Q E s:=by
 unfold uw
 refine qR (zS x F.slot_dict_len.lookup ?_)
 generalize hid:("dict.__len__":uO)=id0
 wp_delta
 rw[show splitId id0=Gc ("dict","__len__")from by subst hid;decide+kernel]
 subst hid
 refine qR (wH (b:=true) x (by rw[zv];kernel_rfl) ?_)
 rw[rA (by decide)]
 dsimp only
 rw[q9 (by decide+kernel)]
 refine qR (vd (T:="dict") x ?_)
 exact qa h
theorem QP{R:Result->qX->Prop}{S:qb}{res:qT}{c₀:Nat}(hh:A.handled=none)(hd:(d==sysModules)=false)(D:s.heap.DictOf knd d kvs)(hn:kvs.length<=sizeLine)(hS:s.heap.get? S=Gc {cls:=.type "list",data:=.seq #[] c₀})(hR:∀h' tk acc' c',(∀b o,b≠S->s.heap.get? b=Gc o->h'.get? b=Gc o)->h'.get? S=Gc {cls:=.type "list",dict:=none,data:=.seq acc' c',slots:= #[]}->ItemsOf (kh knd kvs) acc' kvs.length->R (.ok (.ret res)) {s with heap:=h',toks:=tk}):wpAny (model prog w) A.in1 (sP (.ref S) (.ref d) res) (λfin s'=>match fin with| .done f=>R (.ok f) s'| .again c'=>c'.quiet=true/\codeAny (model prog w) A c' R s') (λe s'=>R (.error e) s') s:=by
 obtain⟨ep,D⟩:=D.dictAt
 have ty:s.TypeIs (.ref d) "dict":=D.dictOf.typeIs
 have ld:=D.lt_size
 have lS:=qq hS
 have hSd:S≠d:=λe=>by
  subst e
  obtain⟨o,es,ho,hc,_⟩:=id D
  rw[hS]at ho;cases ho
  exact absurd hc.1 (by simp)
 have h1:vW (.ref S) (.ref d)=false:=by simp[vW,hSd]
 unfold sP
 refine qR (vd (T:="dict") ty ?_)
 rw[rA (by rw[h1];decide)]
 refine qR (wpAny_pyIter_dict hd D ?_)
 generalize hkI:({cls:=.type "dict_keyiterator",data:=.fields #[.ref d,.int 0 0,.int kvs.length 0,.int ep 0]}:Obj)=kI
 have D1:=D.push kI
 refine qR (sI (Uj (Heap.DictOf.typeIs (s:={s with heap:=s.heap.push _}) D1.dictOf) ?_))
 rw[q9 (by decide+kernel)]
 have S1:=qU kI hS
 refine qR (vA (qR ?_))
 show wpAny _ A.in1 (updateSeq S (·.push .none) >>= λ_=>updateSeq S (·.pop)) _ _ _
 refine qR (uT S1 rfl ?_)
 have m3:=rK (tY (·.push rf)) S1 rfl
 refine uT (hz:=by seq_fits) m3 rfl ?_
 have m4:=rK (tY (·.pop)) m3 rfl
 have oth:∀(h2:rT) b o,b≠S->h2.get? b=Gc o->
   ((h2.update S (tY (·.push rf))).update S (tY (·.pop))).get? b=Gc o:=
  λh2 b o hb e=>(rE _ _ (rh hb)).trans ((rE _ _ (rh hb)).trans e)
 have W:=Walks.dictKeys (knd:=knd) (A:=A.in1) (by simp[hh]) s.heap.objs.size d (qv ld) kvs ep
 have hSf:S∉ [s.heap.objs.size,d]:=by simp;exact⟨qv lS,hSd⟩
 refine qa ⟨uc AAD _,zx W.toS hn _ hSf _ kvs.length 0 _ _ _ rfl (sf _) ?_ m4 (ItemsOf.nil _) λs' acc' c' hm hS' hacc=>?_⟩
 .exact W.frame 0 (s.heap.push kI) _ ⟨⟨kI,qk _ (by rw[<-hkI];rfl),by rw[<-hkI],by rw[<-hkI];rfl⟩,D1⟩ λb hb o e=>oth (s.heap.push kI) b o (λz=>hSf (z▸hb)) e
 .obtain⟨h',g',d',tk',os'⟩:=s'
  have e1:g'=s.gens:=hm.gens
  have e2:d'=s.drawn:=hm.drawn
  have e3:os'=s.os:=hm.os
  subst e1 e2 e3
  refine hR h' tk' acc' c' (λb o nb e=>?_) hS' hacc
  have lb:=qq e
  have q2:=oth (s.heap.push kI) b o nb (qU kI e)
  have q3:b∉S:: [s.heap.objs.size]:=by simp;exact⟨nb,qv lb⟩
  exact hm.heap b o q3 q2
theorem SS{Q:qT->qX->Prop}(hh:A.handled=none)(hd:(d==sysModules)=false)(D:s.heap.DictOf knd d kvs)(hn:kvs.length<=sizeLine)(hQ:∀h' tk acc' c',(∀b o,s.heap.get? b=Gc o->h'.get? b=Gc o)->h'.get? s.heap.objs.size=Gc {cls:=.type "list",dict:=none,data:=.seq acc' c',slots:= #[]}->ItemsOf (kh knd kvs) acc' kvs.length->Q (.ref s.heap.objs.size) {s with heap:=h',toks:=tk}):wpAny (model prog w) A (call (.type "list") [.ref d]) Q E s:=by
 refine callType_codes (Q₁:=λobj s₁=>obj=.ref s.heap.objs.size/\s₁={s with heap:=s.heap.push {cls:=.type "list",data:=.seq #[]}}) F.called_list (F.typeCall_list_1 _) F.entry_list_init
  (code_list_new _ ⟨rfl,rfl⟩) λobj s₁ h₁=>?_
 obtain⟨rfl,rfl⟩:=h₁
 have hS:(s.heap.push {cls:=.type "list",data:=.seq #[]}).get? s.heap.objs.size=Gc {cls:=.type "list",data:=.seq #[]}:=qk _ rfl
 refine⟨⟨_,hS,rfl⟩,F.args_list_init_2 _ _,?_⟩
 show wpAny _ _ (do let old<-zJ (.ref s.heap.objs.size);Builtin.List.listUpdate (.ref s.heap.objs.size) (λ_=> #[]);letGo old.toList.reverse;sP (.ref s.heap.objs.size) (.ref d) .none) _ _ _
 refine qR ?_
 unfold zJ
 refine qR (tT hS rfl (qa ?_))
 show wpAny _ _ (updateSeq s.heap.objs.size (λ_=> #[]) >>= λ_=>letGo (#[]:rP qT).toList.reverse >>= λ_=>sP (.ref s.heap.objs.size) (.ref d) .none) _ _ _
 refine qR (uT hS rfl ?_)
 have hS₂:=rK (tY (λ_=>(#[]:rP qT))) hS rfl
 have oth:∀b o,b≠s.heap.objs.size->(s.heap.push {cls:=.type "list",data:=.seq #[]}).get? b=Gc o->((s.heap.push {cls:=.type "list",data:=.seq #[]}).update s.heap.objs.size (tY (λ_=>(#[]:rP qT)))).get? b=Gc o:=
  λb o hb e=>(rE _ _ (rh hb)).trans e
 refine qR (wB ?_)
 have ld:d<s.heap.objs.size:=by obtain⟨_,_,_,ho,_⟩:=id D;exact qq ho
 have D2:Heap.DictOf knd ((s.heap.push {cls:=.type "list",data:=.seq #[]}).update s.heap.objs.size (tY (λ_=>(#[]:rP qT)))) d kvs:=by
  obtain⟨o,es,ep,ho,r⟩:=id D
  exact⟨o,es,ep,oth d o (qv ld) (qU _ ho),r⟩
 refine QP (A:=A.in1) hh hd D2 hn hS₂ λh' tk acc' c' hk hS' hacc=>⟨rfl,hQ h' tk acc' c' (λb o e=>?_) hS' hacc⟩
 have nb:=qv (qq e)
 exact hk b o nb (oth b o nb (qU _ e))
end
end Mi
end
noncomputable section
namespace Mi
open PySem PySem.Spec L2 PyProof.Rows
noncomputable def SG:Wp (Key×D)->qY (Wp Int)
 | []=>Gc []
 |(.inl n,_)::r=>(SG r).map (n:: ·)
 |(.inr _,_)::_=>none
theorem PF{K:qS}{M:Ms}{H:Hp}:∀{kvs:Wp (Key×V)} {es:Wp (Key×D)} {ns:Wp Int},Bd K M H kvs es->SG es=Gc ns->kvs.map (·.1)=ns.map vF
 |_,_,ns,.nil,e=>by cases e;rfl
 |_,_,ns,.cons (k:=k) h t,e=>by
  cases k with
  |inl n=>
   obtain⟨ms,e1,e⟩:=Hl e
   cases e
   rw[rD,rD,PF t e1]
  |inr x=>cases e
theorem MR:∀{l:Wp qT} {vs:Wp (Key×qT)} {ns:Wp Int},l.length=vs.length->(∀(j:Nat) v,l[j]?=Gc v->∃k x,vs[j]?=Gc (k,x)/\QG k v=true)->vs.map (·.1)=ns.map vF->sX l ns
 | [],[],ns,_,_,e=>by cases ns with
   |nil=>exact .nil
   |cons n ns=>cases e
 |v::l,(k,x)::vs,[],_,_,e=>by cases e
 |v::l,(k,x)::vs,n::ns,hl,h,e=>by
  rw[rD,rD]at e
  injection e with e1 e2
  obtain⟨k',x',q,z⟩:=h 0 v rfl
  cases q
  dsimp only at e1
  subst e1
  rcases Bq z with⟨i,t,e3,rfl⟩|⟨y,t,e3,rfl⟩
  .cases e3
   exact .cons _ _ (MR (by simpa using hl) (λj v q=>h (j+1) v (by simpa using q)) e2)
  .cases e3
 | [],(k,x)::vs,ns,hl,_,e=>by simp at hl
 |v::l,[],ns,hl,_,e=>by simp at hl
theorem VT{X:Cx}{acc:rP qT}{vs:Wp (Key×qT)}{kvs:Wp (Key×V)}{ns:Wp Int}(h:ItemsOf (kh (CJ X.prog X.w) vs) acc vs.length)(r:KV kvs vs)(e:kvs.map (·.1)=ns.map vF):sX acc.toList ns:=
 MR (by simpa using h.1) (λj v q=>h.2 j v (by simpa using q)) (by rw[<-r.keys];exact e)
theorem W0{X:Cx}(hc:X.calm=true):Cj X (.type "list") (λxs H Q=>∃(a:qb) (kvs:Wp (Key×V)) (ns:Wp Int),xs=[.ref a]/\H a=Gc (.dK kvs)/\kvs.map (·.1)=ns.map vF/\∀q,H q=none->Q (.ref q) (upd H q (.lst (ns.map V.int)))):=by
 intro pins s σ H xs us Q I r h
 obtain⟨a,kvs,ns,rfl,ha,hk,q⟩:=h
 obtain⟨u,rfl,ru⟩:=r.one
 cases (show u=rY a from ru)
 obtain⟨z,hd,vs,rel,dd⟩:=aE I.hok ha
 refine SS (I.ok.hd hc) hd dd (by rw[<-rel.length];exact z) λh' tk acc' c' k at' hacc=>?_
 have hi:=VT hacc rel hk
 refine⟨.ref _,_,I.laid (a:=s.heap.objs.size) (o:=.lst (ns.map V.int)) (t':=tk) k (qg _) ?_,rfl,q _ (I.hok.fresh (qg _))⟩
 refine⟨?_,acc'.toList,c',D4 hi,?_⟩
 .rw[qy,<-hi.length,uF,hacc.1,<-rel.length];exact z
 .rw[wC];exact at'
noncomputable def eLK(c:rR)(f:Ev):Ev:=λE S=>(f E S).bind λa=>(OH a.2 a.1).bind λes=>(SG es).bind λns=>fin c (.own (ns.map D.int)) a.2
theorem Um{o:Ev}{E:En}{S S1:Sto}{w:D}(e1:o E S=Gc (w,S1)):evs [o] E S=Gc ([w],S1):=by
 show(o E S).bind (λr=>(evs [] E r.2).map λq=>(r.1::q.1,q.2))=_
 rw[e1];rfl
theorem eJ{X:Cx}{a:rJ}{o:Ev}{c:rR}{p pos:Pos}(hc:X.calm=true)(hg:Gl X "list")(hm:X.mg "list"=none)(ha:DEs X [a] [o])(hs:rB [a] X.env=[(false,eval a X.env)]:=by rfl):DE X (.Call (.Name "list" p) [a] [] pos) (eLK c o):=⟨
 A7 (LO (W0 hc) hg hm boot_list ha.pe (by decide) (by decide) hs rfl) λσ H Q z=>by
  obtain⟨M,E,S,d,S',e,r,st,q⟩:=z
  obtain⟨⟨w,S1⟩,e1,e⟩:=Ae e
  obtain⟨es,ed,e⟩:=Ae e
  obtain⟨ns,en,e⟩:=Ae e
  refine FV (Um e1) r st λvs H1 M1 g1 st1 r1=>?_
  cases r1 with
  |cons r1 rn=>
   cases rn
   obtain⟨a,kvs,rfl,h,rk⟩:=N5 st1 r1 ed
   refine⟨a,kvs,ns,rfl,h,PF rk en,λp hp=>?_⟩
   obtain⟨M2,g2,st2,d2⟩:=(Nw.lst st1.mo hp Gg).fin st1 e
   exact q _ _ M2 (g1.trans g2) st2 d2⟩
theorem Rm:bootBuiltins "dict"=Gc (.type "dict"):=by decide+kernel
theorem Ws{X:Cx}:Cj X (.type "dict") (λxs H Q=>∃(a:qb) (kvs:Wp (Key×V)),xs=[.ref a]/\H a=Gc (.dK kvs)/\∀q,H q=none->Q (.ref q) (upd H q (.dK kvs))):=by
 intro pins s σ H xs us Q I r h
 obtain⟨a,kvs,rfl,ha,q⟩:=h
 obtain⟨u,rfl,ru⟩:=r.one
 cases (show u=rY a from ru)
 exact WR I (.inl ha) λp s' hp I'=>⟨.ref p,_,I',rfl,q p hp⟩
noncomputable def eDC(c:rR)(f:Ev):Ev:=λE S=>(f E S).bind λa=>(OH a.2 a.1).map λes=>RN c es a.2
theorem jq{X:Cx}{a:rJ}{o:Ev}{c:rR}{p pos:Pos}(hg:Gl X "dict")(hm:X.mg "dict"=none)(hv:bootBuiltins "dict"=Gc (.type "dict"))(ha:DEs X [a] [o])(hs:rB [a] X.env=[(false,eval a X.env)]:=by rfl):DE X (.Call (.Name "dict" p) [a] [] pos) (eDC c o):=⟨
 A7 (LO Ws hg hm hv ha.pe (by decide) (by decide) hs rfl) λσ H Q z=>by
  obtain⟨M,E,S,d,S',e,r,st,q⟩:=z
  obtain⟨⟨w,S1⟩,e1,e⟩:=Ae e
  obtain⟨es,ed,e⟩:=Hl e
  refine FV (Um e1) r st λvs H1 M1 g1 st1 r1=>?_
  cases r1 with
  |cons r1 rn=>
   cases rn
   obtain⟨a,kvs,rfl,h,rk⟩:=N5 st1 r1 ed
   refine⟨a,kvs,rfl,h,λp hp=>?_⟩
   obtain⟨st0,s0⟩:=st1.dn hp
   have:=QV (cf:=c) (S':=S') (Q:=Q) (kvs:=kvs) (es:=es) st1 hp (.refl st0.mo) st0 (rk.step s0) (by
    have e':RN c es S1=(d,S'):=e
    rw[e'];exact λv H' M' g2 st2 d2=>q v H' M' (g1.trans g2) st2 d2)
   rw[To]at this
   exact this⟩
end Mi
end
noncomputable section
namespace Mi
open PySem PySem.Spec L2 PyProof.Rows
abbrev eIx(a b:Ev):Ev:=eOp (o2 wIx) [a,b]
abbrev eI(n:Int):Ev:=eC (.int n)
theorem scM{N P:Wp Str}{sc:uz}(a:sc.kind=.function:=by rfl)(b:sc.isCoroutine=false:=by rfl)(c:sc.isGenerator=false:=by rfl)(d:N.Nodup:=by decide+kernel)(e:N.take P.length=P:=by rfl)(f:∀x∈P,sc.names.lookup x=Gc .local\/sc.names.lookup x=Gc .cell:=by decide+kernel)(g:∀y∈sc.names,y.2≠.free:=by decide+kernel):AM N P sc:=⟨a,b,c,d,e,f,g⟩
theorem csM{N:Wp Str}{osc:uz}{N':Wp Str}{ix:Wp (qY Nat)}{scope:uz}(a:scope.kind=.function:=by rfl)(b:∀y∈scope.names,y.2=.cell->scope.names.lookup y.1=Gc .cell:=by decide+kernel)(c:∀y∈scope.names,y.2=.local->scope.names.lookup y.1=Gc .local:=by decide+kernel)(d:∀y∈scope.names,y.2=.free->(osc.names.lookup y.1=Gc .cell\/osc.names.lookup y.1=Gc .free):=by decide+kernel)(e:Qo N osc scope N' ix=true:=by decide+kernel):AS N osc N' ix scope:=⟨a,b,c,d,e⟩
theorem V9{α:Type}{us:Wp α}(h:us.length=1):∃a,us=[a]:=by
 match us,h with
 | [a],_=>exact⟨a,rfl⟩
theorem kc{α:Type}{us:Wp α}(h:us.length=2):∃a b,us=[a,b]:=by
 match us,h with
 | [a,b],_=>exact⟨a,b,rfl⟩
theorem mq{α:Type}{us:Wp α}(h:us.length=3):∃a b c,us=[a,b,c]:=by
 match us,h with
 | [a,b,c],_=>exact⟨a,b,c,rfl⟩
theorem nY{us:Wp qT}{n:Nat}(h:us.length=n):∃f:Nat->qT,us=(rO n).map f:=by
 refine⟨λi=>us.getD i .none,?_⟩
 subst h
 apply xP
 .simp
 .intro i h1 h2
  rw[List.getElem_map,List.getElem_range,qV,qW h1];rfl
def BnR(x:Str)(st:sG)(ps:Wp Str):Prop:=∀(kV doc pm:qT) (an:qY qb) (cdv ct:qT) (f:Nat->qT),bindArgs (vc x x (JG st) (C0 st) (AB st) .none kV doc pm an cdv ct) ⟨(rO ps.length).map f,[]⟩=pure (ps.zip ((rO ps.length).map f))
theorem bnR{K:qS}{x:Str}{st:sG}{ps:Wp Str}{f:qb}{fd:uU}(F:Fun K x x st f fd)(h:BnR x st ps):Binds K fd ps []:=F.binds λa b c d e g us hl=>by
 obtain⟨k,rfl⟩:=nY hl
 exact h a b c d e g k
section
variable{P:rF}{w:rX}{K:qS}{mg:Str->qY qT}{base:rT}
theorem dfM{x:Str}{st:sG}{N ps:Wp Str}(k:Nat){np:Nat}{b:Ex}(S:St.Src K mg x st)(sc:AM N ps (AB st))(hb:∀{f:qb} {cdv:qT} {A:rS} {outer:Wp xO} {s:qX} {H:Hp} {E:XK},JE k (A.deeper (tE x (AB st) s.heap.objs.size f cdv))->(A.deeper (tE x (AB st) s.heap.objs.size f cdv)).units+100<cLine->DSs (Qb CX0 P w K mg base N x (AB st) f cdv A outer s H E).nox (C0 st) b)(hp:ps.length=np:=by rfl)(hbi:BnR x st ps:=by exact λ_ _ _ _ _ _ _=>rfl):St.Dfn P w K mg base x (k+1) ps (spD K np (Ap (Av N.length b))):=eT S sc hp (λ_ _ F=>bnR F hbi) λ_ _ _ _ _ _ _ hr=>hb hr (Pb hr)
end
theorem deM{X:Cx}{k k' np:Nat}{x:Str}{ps:Wp Str}{f:Fn}{e:rJ}{es:Wp rJ}{fs:Wp Ev}{p pos:Pos}(d:St.Dfn X.prog X.w X.K X.mg X.base x k ps (spD X.K np f))(hr:JE k' X.A)(ha:DEs X (e::es) fs)(hk:k<=k':=by first|decide|lia)(hg:Gl X x:=by exact rfl)(hn:fs.length=np:=by rfl)(hdb:(x==("__debug__":Str))=false:=by decide)(he:rB (e::es) X.env=(false,eval e X.env)::rB es X.env:=by rfl)(hpl:(backTo pos (rB es X.env)).any (·.1)=false:=by rfl):DE X (.Call (.Name x p) (e::es) [] pos) (AE f fs):=ZR d (hr.mono hk) hg ha hn hdb he hpl
end Mi
end
noncomputable section
namespace Mi
open PySem PySem.Spec L2
section
variable{X:Cx}
theorem qK{a:Wp rJ}{b:Wp Ev}(h:DEs X a b):DEs X a b:=h
theorem gDE{a:rJ}{b:Ev}(h:DE X a b):DE X a b:=h
theorem qL{a:Wp sG}{b:Ex}(h:DSs X a b):DSs X a b:=h
theorem gDS{a:sG}{b:Ex}(h:DS X a b):DS X a b:=h
theorem gDT{a:rJ}{b:Ev}(h:DT X a b):DT X a b:=h
theorem gDG{a:rJ}{b:Tf}(h:DG X a b):DG X a b:=h
theorem qA{a:qT->qT->Sem qT}{b:R2}(h:OpR X a b):OpR X a b:=h
theorem my{a:qT}{b:Wp V->Hp->VK->Prop}(h:Cj X a b):Cj X a b:=h
end
section
variable{P:rF}{w:rX}{K:qS}{mg:Str->qY qT}{base:rT}
theorem dfW{x:Str}{st:sG}{N ps:Wp Str}(k:Nat){np:Nat}{b:Ex}(S:St.Src K mg x st)(sc:AM N ps (AB st))(hb:∀{f:qb} {cdv:qT} {A:rS} {outer:Wp xO} {s:qX} {H:Hp} {E:XK},N.Nodup->JE k (A.deeper (tE x (AB st) s.heap.objs.size f cdv))->(A.deeper (tE x (AB st) s.heap.objs.size f cdv)).units+100<cLine->DSs (Qb CX0 P w K mg base N x (AB st) f cdv A outer s H E).nox (C0 st) b)(hp:ps.length=np:=by rfl)(hbi:BnR x st ps:=by exact λ_ _ _ _ _ _ _=>rfl):St.Dfn P w K mg base x (k+1) ps (spD K np (Ap (Av N.length b))):=dfM k S sc (λhr hu=>hb sc.nd hr hu) hp hbi
theorem mH{x:Str}{st:sG}{N ps:Wp Str}(k:Nat){np:Nat}{r:Rx}(S:St.Src K mg x st)(sc:AM N ps (AB st))(hb:∀{f:qb} {cdv:qT} {A:rS} {outer:Wp xO} {s:qX} {H:Hp} {E:XK},N.Nodup->JE k (A.deeper (tE x (AB st) s.heap.objs.size f cdv))->(A.deeper (tE x (AB st) s.heap.objs.size f cdv)).units+100<cLine->RSs (Qb CX0 P w K mg base N x (AB st) f cdv A outer s H E).nox (C0 st) r)(hp:ps.length=np:=by rfl)(hbi:BnR x st ps:=by exact λ_ _ _ _ _ _ _=>rfl):d6 P w K mg base x (k+1) ps (spR K mg np (Ap (SH N.length r))):=ZP S sc hp (λ_ _ F=>bnR F hbi) λf cdv A outer s H E hr=>hb sc.nd hr (Pb hr)
end
section
variable{prog:rF}{w:rX}{A:rS}{E:qT->qX->Prop}{s:qX}
theorem Xj{l:qb}{vs:Wp qT}{nss:Wp (Wp Int)}{Q:qT->qX->Prop}(n0:vs.length≠0)(hh:A.handled=none)(hu:A.in1.units<cLine)(hl:s.heap.IsList l vs.toArray)(ht:Q8 s.heap.objs.size vs nss s.heap)(h:∀u h' tk,vs[argBest (JF nss) (vs.length-1)]?=Gc u->(∀b o,s.heap.get? b=Gc o->h'.get? b=Gc o)->Q u {s with heap:=h',toks:=tk}):wpAny (model prog w) A (call (.builtin "min") [.ref l]) Q E s:=by
 refine Ui F.kind_min F.plain_min F.entry_min (F.args_min1 _) ?_
 show wpAny _ A.in1 (uv "min" ["key","default"] 0 ⟨[],[]⟩ >>= _) _ _ s
 refine qR (yW (show uv "min" ["key","default"] 0 ⟨[],[]⟩=pure [none,none]from rfl) (qR (qa (qR (tJ hl ?_)))))
 refine qR (rm ?_)
 rw[nmL]
 exact qa ⟨uc uY _,gB (d:=.none) (λz=>(n0 z).elim) hh hu hl ht λu h' tk e=>h u h' tk (by rwa [rA n0]at e)⟩
end
section
variable{X:Cx}
theorem UR(hc:X.calm=true)(hu:X.A.units+100<cLine):Cj X (.builtin "min") (λvs H Q=>∃(l:qb) (xs:Wp V) (nss:Wp (Wp Int)),vs=[.ref l]/\SqL X.K H l xs/\xs≠[]/\(∀(i:Nat) (v:V),xs[i]?=Gc v->∃a,v=.ref a/\SqT X.K H a ((nss.getD i []).map V.int))/\Q (xs.getD (argBest (JF nss) (xs.length-1)) .non) H):=by
 intro pins s σ H vs us Q I r h
 obtain⟨l,xs,nss,rfl,hl,hn,ht,q⟩:=h
 obtain⟨u,rfl,ru⟩:=r.one
 cases (show u=rY l from ru)
 obtain⟨its,rv,pl,hz⟩:=I.list hl
 have hlen:=rv.length
 have hn':its.length≠0:=by
  intro z
  rw[z]at hlen
  exact hn (List.length_eq_zero_iff.mp hlen)
 refine Xj (vs:=its) (nss:=nss) hn' (I.ok.hd hc) (show X.A.units+1<cLine by lia) pl.isList ?_ λv h' tk hv hk=>?_
 .intro i w ew
  have hi:i<xs.length:=by rw[hlen];exact(qe.mp ew).1
  obtain⟨w',ew',rw'⟩:=rv.get (qW hi)
  rw[ew]at ew';cases ew'
  obtain⟨c,ec,hT⟩:=ht i _ (qW hi)
  rw[ec]at rw'
  cases rw'
  obtain⟨its2,rv2,tp,_⟩:=I.tuple hT
  exact⟨c,its2.toArray,rfl,tp.lt,tp,by simpa using Nh rv2⟩
 .rw[<-hlen]at hv
  have hi:argBest (JF nss) (xs.length-1)<xs.length:=AAY (qe.mp hv).1 hlen.symm
  obtain⟨w',ew',rw'⟩:=rv.get (qW hi)
  rw[hv]at ew';cases ew'
  refine⟨_,H,I.kept (t':=tk) hk,rw',?_⟩
  have eg:xs.getD (argBest (JF nss) (xs.length-1)) .non=xs[argBest (JF nss) (xs.length-1)]:=by rw[qV,qW hi];rfl
  rw[<-eg]
  exact q
noncomputable def mn1(nss:Wp (Wp Int))(ds:Wp D):qY Wv:=if ds.length=0 then none else Gc (.val (ds.getD (argBest (JF nss) (ds.length-1)) .non))
noncomputable def gY:Op1:=λw=>(asL w).bind λds=>(U5 tupI ds).bind λnss=>mn1 nss ds
theorem Vx(hc:X.calm=true)(hu:X.A.units+100<cLine):Cj X (.builtin "min") (rN X.K (o1 gY)):=by
 intro pins s σ H xs us Q I r h
 obtain⟨M,ws,w,e,mo,sh,q⟩:=h
 obtain⟨v,w1,rfl,rfl,s1,e1⟩:=Fg sh e
 obtain⟨ds,e2,e1⟩:=Ae e1
 obtain⟨nss,e3,e1⟩:=Ae e1
 obtain⟨a,ys,rfl,h3,h4⟩:=s1.l e2
 have hl:=h4.length
 unfold mn1 at e1
 split at e1
 .cases e1
 .rename_i n0
  cases e1
  refine UR hc hu pins s σ H _ us Q I r ⟨a,ys,nss,rfl,.of h3,?_,LD h4 e3,q _ _ (.same mo ?_)⟩
  .intro z
   rw[z]at hl
   exact n0 hl.symm
  .rw[hl]
   exact Kx h4 _
end
noncomputable def Z9(fk fd:Ev):Ev:=λE S=>(fk E S).bind λb=>(fd E b.2).bind λa=>(OH a.2 a.1).bind λes=>(Su b.1).map λk=>(.bl (PQ es k).isSome,a.2)
theorem dz{K:qS}{fd fk:Ev}{σ:Sg}{H:Hp}{Q:VK}(z:tD K (Z9 fk fd) σ H Q):mX (tD K fk) (tD K fd) σ H Q:=by
 obtain⟨M,E,S,d,S',e,r,st,q⟩:=z
 obtain⟨⟨b,S1⟩,e1,e⟩:=Ae e
 obtain⟨⟨a,S2⟩,e2,e⟩:=Ae e
 obtain⟨es,ed,e⟩:=Ae e
 obtain⟨k,ek,e⟩:=Hl e
 cases e
 refine⟨M,E,S,b,S1,e1,r,st,λv H1 M1 g1 st1 d1=>?_⟩
 refine⟨M1,E,S1,a,S2,e2,r.step g1.st,st1,λv2 H2 M2 g2 st2 d2=>?_⟩
 obtain⟨p,kvs,rfl,hp,rk⟩:=N5 st2 d2 ed
 rw[Rg (d1.step g2.st) ek]
 refine⟨p,QZ kvs k,rfl,.k hp,?_⟩
 have:(QZ kvs k).isSome=(PQ es k).isSome:=by
  rcases rk.val k with⟨h1,h2⟩|⟨v,d',h1,h2,h3⟩<;>rw[h1,h2]<;>rfl
 rw[this]
 exact q _ _ M2 (g1.trans g2) st2 (.bl _)
section
variable{X:Cx}{o i:rJ}{fd fk:Ev}{pos:Pos}
theorem dE(hu:X.A.units+100<cLine)(hk:DE X i fk)(ho:DE X o fd)(hm:behindInMarks .In o=false:=by rfl):DT X (.Compare i [.In] [o] pos) (Z9 fk fd):=Ua (cY (fF (by lia) hk.pe ho.pe) hm) λ_ _ _=>dz
end
section
open PyProof.Rows (boot_isinstance boot_int boot_bool boot_tuple boot_str boot_list boot_abs boot_all boot_any boot_sum boot_max boot_min boot_range boot_enumerate boot_zip boot_sorted boot_set boot_divmod)
noncomputable def HB:D:=.tup [.int 0,.int 1]
noncomputable def Tq:D:=.tup [.int 1,.int 1]
noncomputable def BK:D:=.tup [.str "bring",.str "pool",.str "swap",.str "trade"]
def FZ:Ex:=(BG (IM (eOp (o2 bQ) [eV 0,eC (.ty "int")]) (Sv (eOp (o2 bQ) [eV 0,eC (.ty "bool")]))))
def Dw:Fn:=Ap (Av 1 FZ)
def GU:Ex:=(BG (IM (AE Dw [eV 0]) (eOp (o2 wGe) [eV 0,eV 1])))
def Ez:Fn:=Ap (Av 2 GU)
def ES:Ex:=(BG (IM (AE Ez [eV 0,eV 1]) (eOp (o2 wLe) [eV 0,eV 2])))
def BE:Fn:=Ap (Av 3 ES)
def EH:Ex:=(AU (NO 0 1 (eOp (o1 bL) [eV 0]) (eOp (o1 bL) [eV 1]))
    (AU (OP (VG 1) (eOp (o2 wNe) [eV 1,eI 0]) (NO 0 1 (eV 1) (eOp (o2 PM) [eV 0,eV 1])))
    (BG (eV 0))))
def Bt:Fn:=Ap (Av 2 EH)
def MM:Ex:=(AU (BC 2 (AE Bt [eV 0,eV 1]))
    (BG (BH [eOp (o2 Ma) [eV 0,eV 2],eOp (o2 Ma) [eV 1,eV 2]])))
def Fx:Fn:=Ap (Av 3 MM)
def OI:Ex:=(AU (BC 4 (eOp (o2 CP) [eOp (o2 EC) [eOp (o2 EC) [eIx (eV 0) (eI 0),eIx (eV 2) (eI 1)],eV 1],eOp (o2 EC) [eOp (o2 EC) [eIx (eV 2) (eI 0),eIx (eV 0) (eI 1)],eV 3]]))
    (BG (AE Fx [eV 4,eOp (o2 EC) [eOp (o2 EC) [eIx (eV 0) (eI 1),eIx (eV 2) (eI 1)],eOp (o2 CP) [eV 1,eV 3]]])))
def HJ:Fn:=Ap (Av 5 OI)
def Hs:Ex:=(BG (IM (eOp (o2 wLt) [eV 1,eOp (o1 DX) [eV 0]]) (eOp (o2 wGe) [eIx (eIx (eV 0) (eV 1)) (eI 1),eV 2])))
def Bp:Fn:=Ap (Av 3 Hs)
def Jd:Ex:=(BG (IM (AE Bp [eV 0,eV 1,eI 1]) (IM (AE Bp [eV 0,eV 2,eI 1]) (eOp (o2 wEq) [eIx (eIx (eV 0) (eV 1)) (eI 0),eIx (eIx (eV 0) (eV 2)) (eI 0)]))))
def FR:Fn:=Ap (Av 3 Jd)
def Jt:Ex:=(BG (IM (AE Bp [eV 0,eV 1,eV 2]) (eOp (o2 wNe) [eIx (eIx (eV 0) (eV 1)) (eI 0),eV 3])))
def EB:Fn:=Ap (Av 4 Jt)
def C6:Ex:=(AU (BC 3 (eIx (eV 2) (eI 0)))
    (AU (xIf (eOp (o2 wEq) [eV 3,eC (.str "pool")]) (BG (AE FR [eV 0,eIx (eV 2) (eI 1),eIx (eV 2) (eI 2)])) DY)
    (AU (xIf (eOp (o2 wEq) [eV 3,eC (.str "swap")]) (BG (AE EB [eV 0,eIx (eV 2) (eI 1),eIx (eV 2) (eI 2),eIx (eV 2) (eI 3)])) DY)
    (AU (xIf (eOp (o2 wEq) [eV 3,eC (.str "trade")]) (AU (BC 4 (CF [] 1 (Fd (eV 1)) (tNm 0) (eOp (o2 wEq) [eIx (eV 0) (eI 0),eC (.str "trade")]) (eIx (eV 0) (eI 1))))
    (BG (IM (eOp (o2 (wIn true)) [eIx (eV 2) (eI 1),eV 4]) (AE EB [eV 0,eIx (eV 2) (eI 2),eIx (eV 2) (eI 3),eIx (eV 2) (eI 4)])))) DY)
    (AU (xIf (eOp (o2 (wIn false)) [eV 3,BH [eC (.str "spoil"),eC (.str "throw")]]) (BG (AE Bp [eV 0,eIx (eV 2) (eI 1),eIx (eV 2) (eI 2)])) DY)
    (BG (eC (.bl true))))))))
def Bv:Fn:=Ap (Av 5 C6)
def Gq:Ex:=(AU (PR (tTp [tNm 3,tNm 4]) (eIx (eV 0) (eV 1)))
    (BG (eOp (o2 CP) [eOp (o2 CP) [eOp (Ln false true) [eV 0,eV 1],FD [BH [eV 3,eOp (o2 Le) [eV 4,eV 2]]]],eOp (Ln true false) [eV 0,eOp (o2 CP) [eV 1,eI 1]]])))
def BN:Fn:=Ap (Av 5 Gq)
def BF:Ex:=(AU (BC 2 (eIx (eV 1) (eI 0)))
    (AU (xIf (eOp (o2 wEq) [eV 2,eC (.str "bring")]) (BG (eOp (o2 CP) [eV 0,FD [BH [eIx (eV 1) (eI 2),eIx (eV 1) (eI 3)]]])) DY)
    (AU (xIf (eOp (o2 wEq) [eV 2,eC (.str "pool")]) (AU (PR (tTp [tNm 3,tNm 4]) (eIx (eV 0) (eIx (eV 1) (eI 1))))
    (AU (BC 5 (eIx (eIx (eV 0) (eIx (eV 1) (eI 2))) (eI 1)))
    (BG (eOp (o2 CP) [AE BN [AE BN [eV 0,eIx (eV 1) (eI 1),eV 4],eIx (eV 1) (eI 2),eV 5],FD [BH [eV 3,eOp (o2 CP) [eV 4,eV 5]]]])))) DY)
    (AU (xIf (eOp (o2 (wIn false)) [eV 2,BH [eC (.str "swap"),eC (.str "trade")]]) (AU (PR (tTp [tNm 6,tNm 7,tNm 3,tNm 8]) (eOp (Ln true false) [eV 1,eOp (o1 PN) [eI 4]]))
    (BG (eOp (o2 CP) [AE BN [eV 0,eV 6,eV 7],FD [BH [eV 3,eV 8]]]))) DY)
    (AU (xIf (eOp (o2 (wIn false)) [eV 2,BH [eC (.str "spoil"),eC (.str "throw")]]) (BG (AE BN [eV 0,eIx (eV 1) (eI 1),eIx (eV 1) (eI 2)])) DY)
    (BG (eV 0)))))))
def Ad:Fn:=Ap (Av 9 BF)
def Ft:Ex:=(BG (CF [] 1 (Fd (eIx (eV 0) (eI 1))) (tNm 0) By (BH [eIx (eV 0) (eI 0),eIx (eV 0) (eI 1)])))
def BY:Fn:=Ap (Av 1 Ft)
def BR:Ex:=(AU (BC 1 (eIx (eV 0) (eI 0)))
    (AU (xIf (eOp (o2 wEq) [eV 1,eC (.str "pool")]) (BG (eOp (o1 Me) [FD [eIx (eV 0) (eI 1),eIx (eV 0) (eI 2)]])) DY)
    (AU (xIf (eOp (o2 (wIn false)) [eV 1,BH [eC (.str "swap"),eC (.str "trade")]]) (BG (FD [eIx (eV 0) (eOp (o1 PN) [eI 4])])) DY)
    (BG (FD [])))))
def Aj:Fn:=Ap (Av 2 BR)
def HF:Ex:=(AU (BC 1 (AE BY [eV 0]))
    (AU (BC 2 (eIx (eV 0) (eI 2)))
    (AU (IL (Qd (eV 2)) (tTp [tNm 3,tNm 4]) (AU (xIf (Sv (AE Bv [eV 1,eOp (Ln false true) [eV 2,eV 3],eV 4])) (BG (eV 3)) DY)
    (BC 1 (AE Ad [eV 1,eV 4]))))
    (BG (eC .non)))))
def DN:Fn:=Ap (Av 5 HF)
def F9:Ex:=(AU (BC 1 (AE DN [eV 0]))
    (xIf (eOp (o2 (iY true)) [eV 1,eC .non]) LH DY))
def Al:Fn:=Ap (Av 2 F9)
def Ho:Ex:=(BG (eOp (o1 EK) [CF [1] 1 (Mc [eV 0]) (tNm 1) By (eIf (eOp (o2 wEq) [eV 1,eV 0]) (eC Tq) (eC HB))]))
def BU:Fn:=Ap (Av 2 Ho)
def Gp:Ex:=(BG (eOp (o1 EK) [CF [1,3] 2 (Z2 (eV 0) (eV 2)) (tTp [tNm 2,tNm 3]) By (AE HJ [eV 2,eV 0,eV 3,eV 1])]))
def Cr:Fn:=Ap (Av 4 Gp)
def CS:Ex:=(AU (BC 3 (AE Aj [eV 2]))
    (AU (xIf (eOp (o2 wEq) [eOp (o1 DX) [eV 3],eI 1]) (BG (eIx (eV 1) (eIx (eV 3) (eI 0)))) DY)
    (AU (PR (tTp [tNm 4,tNm 5]) (eV 3))
    (BG (AE Cr [eIx (eV 1) (eV 4),eIx (eIx (eV 0) (eV 4)) (eI 1),eIx (eV 1) (eV 5),eIx (eIx (eV 0) (eV 5)) (eI 1)])))))
def Ar:Fn:=Ap (Av 6 CS)
def Gh:Ex:=(AU (xIf (eOp (o2 wLt) [eV 1,eOp (o1 DX) [eV 0]]) (BG (eIx (eV 0) (eV 1))) DY)
    (BG (eI 0)))
def Ce:Fn:=Ap (Av 2 Gh)
def Og:Ex:=(BG (Cg [eV 0,eOp (o1 PV) [eOp (o2 wGe) [eV 0,eOp (o2 gq) [eI 10,eI 18]]],eI 0,eOp (o2 PM) [eV 0,eI 1000000007]]))
def G5:Fn:=Ap (Av 1 Og)
def Hf:Ex:=(AU (xIf (IM (eOp (o2 wEq) [eIx (eV 0) (eI 1),eI 1]) (eOp (o2 wGt) [eIx (eV 0) (eI 0),eI 0])) (AU (BC 2 (eOp (o2 PM) [eIx (eV 0) (eI 0),eV 1]))
    (AU (Ja (eOp (o2 Ma) [eIx (eV 0) (eI 0),eV 1]) (eV 0) (eI 0))
    (BG (eV 2)))) DY)
    (AU (Ja (eOp (o2 CP) [eIx (eV 0) (eI 2),eI 1]) (eV 0) (eI 2))
    (AU (BC 3 (eOp (o2 PM) [eOp (o2 EC) [eOp (o2 CP) [eIx (eV 0) (eI 3),eI 17],eOp (o2 CP) [eI 69621,eOp (o2 EC) [eI 2,eIx (eV 0) (eI 2)]]],eI 2147483647]))
    (AU (BC 3 (eOp (o2 PM) [eOp (o2 CP) [eOp (o2 CP) [eOp (o2 EC) [eV 3,eV 3],eOp (o2 EC) [eI 40503,eIx (eV 0) (eI 2)]],eI 5],eI 2147483629]))
    (BG (eOp (o2 PM) [eOp (o2 Ma) [eOp (o2 PM) [eOp (o2 EC) [eV 3,eI 48271],eI 2147483647],eI 32],eV 1]))))))
def AD:Fn:=Ap (Av 4 Hf)
def Jl:Ex:=(AU (OP (VG 1) (eOp (o2 wGt) [eV 1,eI 0]) (NO 0 1 (eV 1) (eOp (o2 PM) [eV 0,eV 1])))
    (BG (eV 0)))
def FG:Fn:=Ap (Av 2 Jl)
def MN:Ex:=(AU (BC 2 (AE FG [eOp (o1 bL) [eV 0],eV 1]))
    (BG (BH [eOp (o2 Ma) [eV 0,eV 2],eOp (o2 Ma) [eV 1,eV 2]])))
def A9:Fn:=Ap (Av 3 MN)
def MS:Ex:=(BG (AE A9 [eOp (o2 CP) [eOp (o2 EC) [eIx (eV 0) (eI 0),eIx (eV 1) (eI 1)],eOp (o2 EC) [eIx (eV 1) (eI 0),eIx (eV 0) (eI 1)]],eOp (o2 EC) [eIx (eV 0) (eI 1),eIx (eV 1) (eI 1)]]))
def BX:Fn:=Ap (Av 2 MS)
def Kh:Ex:=(BG (AE A9 [eOp (o2 EC) [eIx (eV 0) (eI 0),eIx (eV 1) (eI 0)],eOp (o2 EC) [eIx (eV 0) (eI 1),eIx (eV 1) (eI 1)]]))
def AZ:Fn:=Ap (Av 2 Kh)
def L5:Ex:=(BG (AE BX [eV 0,BH [eOp (o2 Le) [eI 0,eIx (eV 1) (eI 0)],eIx (eV 1) (eI 1)]]))
def C5:Fn:=Ap (Av 2 L5)
def IB:Ex:=(AU (BC 2 (Jc [0] 1 (Mc [eV 1]) (tNm 1) By (eIx (FD [eI 0,eI 1,AE AD [eV 0,eI 4],AE AD [eV 0,eI 9]]) (AE AD [eV 0,eI 4]))))
    (AU (xIf (eOp (o2 wEq) [eOp (o1 Sw) [eV 2],eI 0]) (Ja (eI 1) (eV 2) (AE AD [eV 0,eV 1])) DY)
    (BG (eOp (o1 EK) [CF [2] 1 (Fd (eV 2)) (tNm 1) By (AE A9 [eV 1,eOp (o1 Sw) [eV 0]])]))))
def C1:Fn:=Ap (Av 3 IB)
def HQ:Ex:=(AU (BC 1 (eOp (o2 CP) [eOp (o2 gq) [eI 10,eI 30],AE AD [eV 0,eI 99]]))
    (BG (eIx (FD [eOp (o2 CP) [eI 1,AE AD [eV 0,eI 4]],eOp (o2 CP) [eI 1,AE AD [eV 0,eI 40]],eOp (o2 CP) [eI 1,AE AD [eV 0,eI 999]],eV 1]) (eOp (o2 Ma) [AE AD [eV 0,eI 7],eI 2]))))
def Aw:Fn:=Ap (Av 2 HQ)
def LN:Ex:=(AU (NO 1 2 (eOp (o2 CP) [eI 1,AE AD [eV 0,eI 4]]) (eOp (o2 CP) [eI 1,AE AD [eV 0,eI 5]]))
    (AU (BC 3 (eIx (FD [eOp (o2 CP) [eI 1,AE AD [eV 0,eI 3]],eOp (o2 CP) [eI 1,AE AD [eV 0,eI 20]]]) (AE AD [eV 0,eI 2])))
    (BG (BH [eV 1,eV 2,eV 3,AE C1 [eV 0,eV 1],AE AD [eV 0,eI 10],AE AD [eV 0,eI 10]]))))
def GV:Fn:=Ap (Av 4 LN)
def Kw:Ex:=(AU (BC 2 (Cg []))
    (AU (IL (Mc [eIx (FD [eI 0,eI 1,AE AD [eV 0,eI 5]]) (AE AD [eV 0,eI 3])]) (tNm 3) (Ao (EL EN (eV 2) [BH [AE AD [eV 0,eIx (eV 1) (eI 1)],AE Aw [eV 0],AE C1 [eV 0,eIx (eV 1) (eI 0)]]])))
    (BG (eOp (o1 EK) [eV 2]))))
def Gf:Fn:=Ap (Av 4 Kw)
def LX:Ex:=(AU (BC 1 (eOp (o2 CP) [eI 1,AE AD [eV 0,eI 12]]))
    (BG (AE A9 [eOp (o2 CP) [eI 1,AE AD [eV 0,eV 1]],eV 1])))
def Et:Fn:=Ap (Av 2 LX)
def Jp:Ex:=(BG (eOp (o1 EK) [CF [0] 1 (Mc [eV 1]) (tNm 1) By (eOp (o2 CP) [eI 1,eIx (FD [AE AD [eV 0,eI 3],AE AD [eV 0,eI 99]]) (AE AD [eV 0,eI 2])])]))
def C7:Fn:=Ap (Av 2 Jp)
def Kf:Ex:=(BG (Cg [Jc [] 1 (Fd (eIx (eV 0) (eI 1))) (tNm 0) By (iH (o1 Pw) [eV 0]),eOp (o1 EK) [eIx (eIx (eV 0) (eI 0)) (eI 3)],Cg []]))
def Dj:Fn:=Ap (Av 1 Kf)
def Ji:Ex:=(AU (BC 2 (Cg []))
    (AU (IL (Z2 (eIx (eV 0) (eI 2)) (eIx (eV 1) (eI 2))) (tTp [tNm 3,tNm 4]) (AU (BC 5 (AE BX [AE AZ [BH [eIx (eV 0) (eI 1),eI 1],eV 3],AE AZ [BH [eIx (eV 1) (eI 1),eI 1],eV 4]]))
    (Ao (EL EN (eV 2) [AE AZ [eV 5,AE A9 [eI 1,eOp (o2 CP) [eIx (eV 0) (eI 1),eIx (eV 1) (eI 1)]]]]))))
    (BG (eOp (o1 EK) [eV 2]))))
def FF:Fn:=Ap (Av 6 Ji)
def MW:Ex:=(AU (BC 3 (eIx (eV 2) (eI 3)))
    (AU (BC 4 (eOp (o2 CP) [eOp (o1 Sw) [CF [3] 3 (Fd (eV 1)) (tTp [tNm 1,tNm 2,tNm 3]) By (eOp (o2 EC) [eV 2,eIx (eV 0) (eV 1)])],eOp (o2 EC) [eIx (eV 0) (eI 2),eIx (eV 3) (eOp (o1 PN) [eI 1])]]))
    (BG (AE A9 [eOp (o2 EC) [eIx (eV 2) (eI 2),eIx (eV 3) (eIx (eIx (eV 1) (eIx (eV 2) (eI 1))) (eI 0))],eV 4]))))
def Hh:Fn:=Ap (Av 5 MW)
def K1:Ex:=(AU (BC 3 (Cg []))
    (AU (IL (Z2 (eV 0) (eV 2)) (tTp [tNm 4,tNm 5]) (Ao (EL EN (eV 3) [AE BX [AE AZ [eV 4,AE C5 [BH [eI 1,eI 1],eV 1]],AE AZ [eV 5,eV 1]]])))
    (BG (eOp (o1 EK) [eV 3]))))
def DZ:Fn:=Ap (Av 6 K1)
def MP:Ex:=(AU (BC 2 (iH (o1 Pw) [eV 0]))
    (AU (BC 3 (AE AZ [eIx (eV 2) (eIx (eV 1) (eI 1)),eIx (eV 1) (eI 3)]))
    (AU (Ja (AE C5 [eIx (eV 2) (eIx (eV 1) (eI 1)),eV 3]) (eV 2) (eIx (eV 1) (eI 1)))
    (AU (Ja (AE BX [eIx (eV 2) (eIx (eV 1) (eI 2)),eV 3]) (eV 2) (eIx (eV 1) (eI 2)))
    (BG (eOp (o1 EK) [eV 2]))))))
def EX:Fn:=Ap (Av 4 MP)
def JM:Ex:=(AU (PR (tTp [tNm 3,tNm 4,tNm 5]) (eV 1))
    (xIf (eOp (o2 wEq) [eIx (eV 2) (eI 0),eC (.str "throw")]) (AU (NO 6 7 (AE Hh [eV 0,eV 3,eV 2]) (eIx (eIx (eV 3) (eIx (eV 2) (eI 1))) (eI 2)))
    (AU (Ja (eOp (o2 Le) [eIx (eIx (eV 3) (eIx (eV 2) (eI 1))) (eI 1),eIx (eV 2) (eI 2)]) (eIx (eV 3) (eIx (eV 2) (eI 1))) (eI 1))
    (AU (IL (Fd (eV 3)) (tNm 8) (Ja (AE DZ [eIx (eV 8) (eI 2),eV 6,eV 7]) (eV 8) (eI 2)))
    (Ja (AE DZ [eV 4,eV 6,eV 7]) (eV 1) (eI 1))))) (AU (IL (Fd (eV 3)) (tNm 8) (Ja (AE EX [eIx (eV 8) (eI 2),eV 2]) (eV 8) (eI 2)))
    (Ja (AE EX [eV 4,eV 2]) (eV 1) (eI 1)))))
def EU:Fn:=Ap (Av 9 JM)
def FJ:Ex:=(AU (PR (tTp [tNm 3,tNm 4,tNm 5]) (eV 1))
    (AU (BC 6 (eIx (eV 2) (eI 0)))
    (xIf (eOp (o2 wEq) [eV 6,eC (.str "bring")]) (Ao (EL EN (eV 3) [Cg [eIx (eV 2) (eI 2),eIx (eV 2) (eI 3),eOp (o1 EK) [CF [2] 1 (Mc [eIx (eV 0) (eI 0)]) (tNm 1) By (BH [eOp (o1 PV) [eOp (o2 wEq) [eV 1,eIx (eV 0) (eI 1)]],eI 1])]]])) (xIf (eOp (o2 wEq) [eV 6,eC (.str "pool")]) (AU (NO 7 8 (eIx (eV 3) (eIx (eV 2) (eI 1))) (eIx (eV 3) (eIx (eV 2) (eI 2))))
    (AU (Ao (EL EN (eV 3) [Cg [eIx (eV 7) (eI 0),eOp (o2 CP) [eIx (eV 7) (eI 1),eIx (eV 8) (eI 1)],AE FF [eV 7,eV 8]]]))
    (AU (Ja (eI 0) (eV 7) (eI 1))
    (Ja (eI 0) (eV 8) (eI 1))))) (xIf (eOp (o2 (wIn false)) [eV 6,BH [eC (.str "swap"),eC (.str "trade")]]) (AU (PR (tTp [tNm 9,tNm 10,tNm 11,tNm 12]) (eOp (Ln true false) [eV 2,eOp (o1 PN) [eI 4]]))
    (AU (Ja (eOp (o2 Le) [eIx (eIx (eV 3) (eV 9)) (eI 1),eV 10]) (eIx (eV 3) (eV 9)) (eI 1))
    (AU (Ao (EL EN (eV 3) [Cg [eV 11,eV 12,eIx (eIx (eV 3) (eV 9)) (eI 2)]]))
    (Ao (EL gW (eV 5) [eOp (o2 EC) [eOp (Ln true true) [eV 2,eI 1,eI 2],eOp (o1 PV) [eOp (o2 wEq) [eV 6,eC (.str "trade")]]]]))))) (xIf (eOp (o2 wEq) [eV 6,eC (.str "spoil")]) (Ja (eOp (o2 Le) [eIx (eIx (eV 3) (eIx (eV 2) (eI 1))) (eI 1),eIx (eV 2) (eI 2)]) (eIx (eV 3) (eIx (eV 2) (eI 1))) (eI 1)) (Ao (AE EU [eV 0,eV 1,eV 2]))))))))
def BI:Fn:=Ap (Av 13 FJ)
def MQ:Ex:=(AU (PR (tTp [tNm 3,tNm 4,tNm 5]) (eV 2))
    (AU (BC 6 (CF [] 2 (Qd (eV 3)) (tTp [tNm 0,tNm 1]) (eOp (o2 wGt) [eIx (eV 1) (eI 1),eI 0]) (eV 0)))
    (AU (BC 7 (AE AD [eV 0,eI 12]))
    (AU (xIf (eOr (eOp (o2 wLt) [eV 7,eI 2]) (eOp (o2 wEq) [eV 6,FD []])) (BG (BH [eC (.str "bring"),AE AD [eV 0,eIx (eV 1) (eI 0)],AE AD [eV 0,eIx (eV 1) (eI 1)],AE Aw [eV 0]])) DY)
    (AU (BC 8 (eIx (eV 6) (AE AD [eV 0,eOp (o1 DX) [eV 6]])))
    (AU (BC 9 (eOp (o2 CP) [eI 1,AE AD [eV 0,eOp (o2 bI) [eIx (eIx (eV 3) (eV 8)) (eI 1),eI 2000]]]))
    (AU (xIf (eOp (o2 wLt) [eV 7,eI 5]) (AU (BC 10 (CF [3,8] 1 (Fd (eV 6)) (tNm 2) (IM (eOp (o2 wNe) [eV 2,eV 1]) (eOp (o2 wEq) [eIx (eIx (eV 0) (eV 2)) (eI 0),eIx (eIx (eV 0) (eV 1)) (eI 0)])) (eV 2)))
    (xIf (eOp (o2 wNe) [eV 10,FD []]) (BG (BH [eC (.str "pool"),eV 8,eIx (eV 10) (AE AD [eV 0,eOp (o1 DX) [eV 10]])])) DY)) DY)
    (AU (xIf (IM (eOp (o2 wLt) [eV 7,eI 8]) (eOp (o2 wGt) [eIx (eV 1) (eI 1),eI 1])) (AU (BC 11 (eOp (o2 PM) [eOp (o2 CP) [eOp (o2 CP) [eIx (eIx (eV 3) (eV 8)) (eI 0),eI 1],AE AD [eV 0,eOp (o2 Le) [eIx (eV 1) (eI 1),eI 1]]],eIx (eV 1) (eI 1)]))
    (AU (BC 12 (CF [5] 1 (Mc [eI 10]) (tNm 1) (eOp (o2 (wIn true)) [eV 1,eV 0]) (eV 1)))
    (AU (xIf (IM (eOp (o2 wEq) [eV 7,eI 7]) (eOp (o2 wNe) [eV 12,FD []])) (BG (BH [eC (.str "trade"),eIx (eV 12) (AE AD [eV 0,eOp (o1 DX) [eV 12]]),eV 8,eV 9,eV 11,AE Aw [eV 0]])) DY)
    (BG (BH [eC (.str "swap"),eV 8,eV 9,eV 11,AE Aw [eV 0]]))))) DY)
    (AU (xIf (eOp (o2 wEq) [eV 7,eI 8]) (BG (BH [eC (.str "spoil"),eV 8,eV 9])) DY)
    (AU (xIf (IM (eOp (o2 wEq) [eV 7,eI 9]) (eOp (o2 wGt) [eIx (eV 1) (eI 0),eI 1])) (AU (BC 13 (AE AD [eV 0,eIx (eV 1) (eI 0)]))
    (BG (BH [eC (.str "sell"),eV 13,eOp (o2 PM) [eOp (o2 CP) [eOp (o2 CP) [eV 13,eI 1],AE AD [eV 0,eOp (o2 Le) [eIx (eV 1) (eI 0),eI 1]]],eIx (eV 1) (eI 0)],AE Et [eV 0]]))) DY)
    (BG (BH [eC (.str "throw"),eV 8,eV 9,AE C7 [eV 0,eOp (o2 CP) [eIx (eV 1) (eI 1),eI 1]]]))))))))))))
def Di:Fn:=Ap (Av 14 MQ)
def MH:Ex:=(AU (BC 2 (AE GV [eV 0]))
    (AU (BC 3 (AE Gf [eV 0,eV 2]))
    (AU (NO 4 5 (AE Dj [BH [eV 2,eV 3,BH []]]) (Cg []))
    (AU (IL (Mc [AE AD [eV 0,eOp (o2 CP) [eV 1,eI 1]]]) (tNm 6) (AU (BC 7 (AE Di [eV 0,eV 2,eV 4]))
    (xIf (eOr (eOp (o2 wNe) [eIx (eV 7) (eI 0),eC (.str "throw")]) (eOp (o2 wLt) [eOp (o1 DX) [CF [] 1 (Fd (eV 5)) (tNm 0) (eOp (o2 wEq) [eIx (eV 0) (eI 0),eC (.str "throw")]) (eV 0)],eI 3])) (AU (Ao (AE BI [eV 2,eV 4,eV 7]))
    (Ao (EL EN (eV 5) [eV 7]))) DY)))
    (BG (BH [eV 2,eV 3,eOp (o1 EK) [eV 5]]))))))
def Ci:Fn:=Ap (Av 8 MH)
def FW(rec:Fn):Ex:=(AU (xIf (eOp (o2 wEq) [eIx (eV 0) (eV 1),FD []]) (BG (FD [BH [eV 1]])) DY)
    (AU (BC 2 (FD []))
    (AU (IL (Fd (eIx (eV 0) (eV 1))) (tNm 3) (BC 2 (eOp (o2 CP) [eV 2,CF [1] 1 (Fd (AE rec [eV 0,eV 3])) (tNm 1) By (eOp (o2 CP) [eV 1,BH [eV 0]])])))
    (BG (eV 2)))))
def Bk:Nat->Fn
 |0=>λ_ _=>none
 |n+1=>Ap (Av 4 (FW (Bk n)))
def Hv:Ex:=(BG (eOp (o2 CP) [eOp (o1 DX) [eIx (eV 0) (eI 1)],eOp (o1 DX) [CF [] 1 (Fd (eOp (Ln false true) [eIx (eV 0) (eI 2),eV 1])) (tNm 0) (eOp (o2 (wIn false)) [eIx (eV 0) (eI 0),eC BK]) (eV 0)]]))
def Bo:Fn:=Ap (Av 2 Hv)
def HV:Ex:=(AU (BC 1 (AE Bo [eV 0,eOp (o1 DX) [eIx (eV 0) (eI 2)]]))
    (AU (BC 2 (AE BY [eV 0]))
    (AU (BC 3 (Jc [1] 1 (Mc [eOp (o1 DX) [eV 2]]) (tNm 1) By (AE BU [eV 0,eV 1])))
    (AU (IL (Fd (eIx (eV 0) (eI 2))) (tNm 4) (AU (xIf (eOp (o2 wEq) [eIx (eV 4) (eI 0),eC (.str "bring")]) (Ao (EL EN (eV 3) [AE BU [eV 1,eOp (o1 DX) [eV 3]]])) (xIf (eOp (o2 (wIn false)) [eIx (eV 4) (eI 0),eC BK]) (Ao (EL EN (eV 3) [AE Ar [eV 2,eV 3,eV 4]])) DY))
    (BC 2 (AE Ad [eV 2,eV 4]))))
    (BG (eV 3))))))
def DH:Fn:=Ap (Av 5 HV)
def HI:Ex:=(AU (NO 1 2 (eIx (eV 0) (eI 1)) (eIx (eV 0) (eI 2)))
    (BG (eOp (o2 CP) [CF [] 1 (Fd (eV 1)) (tNm 0) By (FD []),CF [] 1 (Fd (eV 2)) (tNm 0) (eOp (o2 (wIn false)) [eIx (eV 0) (eI 0),eC BK]) (AE Aj [eV 0])])))
def An:Fn:=Ap (Av 3 HI)
def FI:Ex:=(xIf (Sv (AE BE [eV 1,eI 0,eOp (o2 Le) [AE Bo [eV 0,eOp (o1 DX) [eIx (eV 0) (eI 2)]],eI 1]])) LH DY)
def Ai:Fn:=Ap (Av 2 FI)
def Hy:Ex:=(AU (Ao (AE Al [eV 0]))
    (AU (Ao (AE Ai [eV 0,eV 1]))
    (AU (xIf (eOp (o2 wGt) [eOp (o1 DX) [eIx (AE An [eV 0]) (eV 1)],eI 0]) LH DY)
    (BG (CF [1] 2 (Qd (AE DH [eV 0])) (tTp [tNm 1,tNm 2]) (eOp (o2 wGt) [eIx (eIx (eV 2) (eV 0)) (eI 0),eI 0]) (eV 1))))))
def Cc:Fn:=Ap (Av 2 Hy)
def FN:Rx:=(rIf (Sv (AE BE [eV 1,eI 0,eOp (o2 Le) [AE Bo [eV 0,eOp (o1 DX) [eIx (eV 0) (eI 2)]],eI 1]])) (RH "NoLoad" [eC (.str "the book makes no load of this number")]) rNo)
def CO:Rf:=Ap (SH 2 FN)
def K8:Rx:=(Y7 rNo (Ao (AE Al [eV 0]))
    (Y7 (TV CO [eV 0,eV 1]) (Ao (AE Ai [eV 0,eV 1]))
    (Y7 (rIf (eOp (o2 wGt) [eOp (o1 DX) [eIx (AE An [eV 0]) (eV 1)],eI 0]) (RH "NoLoad" [eC (.str "the load is no root")]) rNo) (xIf (eOp (o2 wGt) [eOp (o1 DX) [eIx (AE An [eV 0]) (eV 1)],eI 0]) LH DY)
    rNo)))
def Ek:Rf:=Ap (SH 2 K8)
def Fs:Ex:=(dQ (BG (AE Cc [eV 0,eV 1])) (TV Ek [eV 0,eV 1]) (gOr ["NoLoad"] "NoLoad" (BG (eC (.str "no"))) gNo))
def Dg:Fn:=Ap (Av 2 Fs)
def Ib:Ex:=(AU (NO 1 2 (AE Dj [eV 0]) (Jc [] 1 (Mc [eOp (o1 DX) [eIx (eV 0) (eI 1)]]) (tNm 0) By (UX [((eV 0),(BH [eI 1,eI 1]))])))
    (AU (IL (Fd (eIx (eV 0) (eI 2))) (tNm 3) (AU (xIf (eOp (o2 wEq) [eIx (eV 3) (eI 0),eC (.str "bring")]) (Ao (EL EN (eV 2) [UX [((eOp (o1 DX) [eV 2]),(BH [eI 1,eI 1]))]])) (xIf (eOp (o2 wEq) [eIx (eV 3) (eI 0),eC (.str "pool")]) (AU (PR (tTp [tNm 4,tNm 5]) (eOp (Ln true false) [eV 3,eI 1]))
    (AU (NO 6 7 (eIx (eIx (eIx (eV 1) (eI 0)) (eV 4)) (eI 1)) (eIx (eIx (eIx (eV 1) (eI 0)) (eV 5)) (eI 1)))
    (AU (BC 8 (Yb []))
    (AU (IL (Fd (eOp (o1 wSS) [eOp (o2 CP) [eLK false (eIx (eV 2) (eV 4)),eLK false (eIx (eV 2) (eV 5))]])) (tNm 9) (AU (BC 10 (AE AZ [BH [eV 6,eI 1],bR (eIx (eV 2) (eV 4)) (eV 9) (BH [eI 0,eI 1])]))
    (AU (BC 10 (AE BX [eV 10,AE AZ [BH [eV 7,eI 1],bR (eIx (eV 2) (eV 5)) (eV 9) (BH [eI 0,eI 1])]]))
    (Xb (AE AZ [eV 10,AE A9 [eI 1,eOp (o2 CP) [eV 6,eV 7]]]) (eV 8) (eV 9)))))
    (Ao (EL EN (eV 2) [eV 8])))))) (xIf (eOp (o2 (wIn false)) [eIx (eV 3) (eI 0),BH [eC (.str "swap"),eC (.str "trade")]]) (Ao (EL EN (eV 2) [eDC false (eIx (eV 2) (eIx (eV 3) (eOp (o1 PN) [eI 4])))])) DY)))
    (Ao (AE BI [eIx (eV 0) (eI 0),eV 1,eV 3]))))
    (BG (eV 2))))
def DA:Fn:=Ap (Av 11 Ib)
def IV:Ex:=(AU (BC 1 (Jc [] 1 (Fd (eIx (eV 0) (eI 1))) (tNm 0) By (FD [])))
    (AU (IL (Fd (eIx (eV 0) (eI 2))) (tNm 2) (xIf (eOp (o2 wEq) [eIx (eV 2) (eI 0),eC (.str "bring")]) (Ao (EL EN (eV 1) [FD []])) (xIf (eOp (o2 wEq) [eIx (eV 2) (eI 0),eC (.str "pool")]) (Ao (EL EN (eV 1) [eOp (o1 IU) [eOp (Ln true true) [eV 2,eI 1,eI 3]]])) (xIf (eOp (o2 (wIn false)) [eIx (eV 2) (eI 0),BH [eC (.str "swap"),eC (.str "trade")]]) (Ao (EL EN (eV 1) [FD [eIx (eV 2) (eOp (o1 PN) [eI 4])]])) DY))))
    (BG (eV 1))))
def DP:Fn:=Ap (Av 3 IV)
def IC:Ex:=(AU (BC 1 (BH [eI 2,eI 2,eI 1,BH [BH [eI 1,eI 2],BH [eI 1,eI 2]],eI 0,eI 0]))
    (AU (PR (tTp [tNm 2,tNm 3]) (BH [Cg [BH [eC (.str "bring"),eI 0,eI 0,eI 9],BH [eC (.str "bring"),eI 1,eI 0,eI 9]],Cg [Cg [eI 0,eI 9],Cg [eI 0,eI 9]]]))
    (AU (IL (Mc [AE AD [eV 0,eI 17]]) (tNm 4) (AU (BC 5 (CF [] 2 (Qd (eV 3)) (tTp [tNm 0,tNm 1]) (eOp (o2 wGt) [eIx (eV 1) (eI 1),eI 0]) (eV 0)))
    (AU (BC 6 (eIx (eV 5) (AE AD [eV 0,eOp (o1 DX) [eV 5]])))
    (AU (BC 7 (CF [3,6] 1 (Fd (eV 5)) (tNm 2) (IM (eOp (o2 wNe) [eV 2,eV 1]) (eOp (o2 wEq) [eIx (eIx (eV 0) (eV 2)) (eI 0),eIx (eIx (eV 0) (eV 1)) (eI 0)])) (eV 2)))
    (xIf (IM (eOp (o2 wNe) [eV 7,FD []]) (eOp (o2 wEq) [AE AD [eV 0,eI 2],eI 0])) (AU (BC 8 (eIx (eV 7) (AE AD [eV 0,eOp (o1 DX) [eV 7]])))
    (AU (Ao (EL EN (eV 2) [BH [eC (.str "pool"),eV 6,eV 8]]))
    (AU (Ao (EL EN (eV 3) [Cg [eIx (eIx (eV 3) (eV 6)) (eI 0),eOp (o2 CP) [eIx (eIx (eV 3) (eV 6)) (eI 1),eIx (eIx (eV 3) (eV 8)) (eI 1)]]]))
    (AU (Ja (eI 0) (eIx (eV 3) (eV 6)) (eI 1))
    (Ja (eI 0) (eIx (eV 3) (eV 8)) (eI 1)))))) (AU (BC 9 (eOp (o2 Le) [eI 1,eIx (eIx (eV 3) (eV 6)) (eI 0)]))
    (AU (BC 10 (eOp (o2 CP) [eI 1,AE AD [eV 0,eIx (eIx (eV 3) (eV 6)) (eI 1)]]))
    (AU (Ao (EL EN (eV 2) [BH [eC (.str "swap"),eV 6,eV 10,eV 9,eOp (o2 CP) [eI 2,AE AD [eV 0,eI 5]]]]))
    (AU (Ja (eOp (o2 Le) [eIx (eIx (eV 3) (eV 6)) (eI 1),eV 10]) (eIx (eV 3) (eV 6)) (eI 1))
    (Ao (EL EN (eV 3) [Cg [eV 9,eIx (eIx (eV 2) (eOp (o1 PN) [eI 1])) (eI 4)]])))))))))))
    (BG (BH [eV 1,BH [],eOp (o1 EK) [eV 2]])))))
def Ee:Fn:=Ap (Av 11 IC)
def HA:Ex:=(AU (Ao (AE Al [eV 0]))
    (AU (Ao (AE Ai [eV 0,eV 1]))
    (AU (BC 2 (Cg []))
    (AU (IL (Qd (AE An [eV 0])) (tTp [tNm 3,tNm 4]) (AU (BC 5 (CF [2,3] 1 (Fd (eV 4)) (tNm 2) By (eOp (o2 CP) [eIx (eV 0) (eV 2),BH [eV 1]])))
    (Ao (EL EN (eV 2) [eMn (eV 5) (BH [eV 3])]))))
    (BG (eIx (eV 2) (eV 1)))))))
def CV:Fn:=Ap (Av 6 HA)
def Jj:Ex:=(AU (Ao (AE Al [eV 0]))
    (AU (Ao (AE Ai [eV 0,eV 1]))
    (AU (xIf (eOr (Sv (eOp (o2 bQ) [eV 2,eC (.ty "tuple")])) (eOp (o2 wEq) [eOp (o1 DX) [eV 2],eI 0])) (BG (eC (.bl false))) DY)
    (AU (BC 3 (AE An [eV 0]))
    (AU (xIf (Sv (eOp (o1 cj) [CF [3] 1 (Fd (eV 2)) (tNm 1) By (AE BE [eV 1,eI 0,eOp (o2 Le) [eOp (o1 DX) [eV 0],eI 1]])])) (BG (eC (.bl false))) DY)
    (AU (xIf (eOr (eOp (o2 wNe) [eIx (eV 2) (eOp (o1 PN) [eI 1]),eV 1]) (eOp (o2 wGt) [eOp (o1 DX) [eIx (eV 3) (eIx (eV 2) (eI 0))],eI 0])) (BG (eC (.bl false))) DY)
    (BG (eOp (o1 cj) [CF [3] 2 (Z2 (eV 2) (eOp (Ln true false) [eV 2,eI 1])) (tTp [tNm 1,tNm 2]) By (eOp (o2 (wIn false)) [eV 1,eIx (eV 0) (eV 2)])]))))))))
def D5:Fn:=Ap (Av 4 Jj)
def HM:Ex:=(AU (Ao (AE Al [eV 0]))
    (AU (Ao (AE Ai [eV 0,eV 1]))
    (AU (BC 2 (Cg []))
    (AU (IL (Fd (AE An [eV 0])) (tNm 3) (Ao (EL EN (eV 2) [eIf (eOp (o2 wGt) [eOp (o1 DX) [eV 3],eI 0]) (eOp (o1 Sw) [CF [2] 1 (Fd (eV 3)) (tNm 1) By (eIx (eV 0) (eV 1))]) (eI 1)])))
    (BG (eIx (eV 2) (eV 1)))))))
def CW:Fn:=Ap (Av 4 HM)
def UA:Ex:=(AU (IL (Mc [eOp (o2 gz) [eI 1,eOp (o2 bI) [eOp (o1 DX) [eV 0],eI 3]]]) (tNm 1) (AU (BC 2 (AE G5 [AE Ce [eV 0,eV 1]]))
    (IL (Fd (BH [AE Ci [eV 2,eI 14],AE Ee [eV 2]])) (tNm 3) (AU (NO 4 5 (AE DP [eV 3]) (AE DA [eV 3]))
    (AU (BC 6 (Cg []))
    (IL (Qd (eV 4)) (tTp [tNm 7,tNm 8]) (AU (Ao (EL EN (eV 6) [eIx (FD [eOp (o1 Sw) [CF [6] 1 (Fd (eV 8)) (tNm 1) By (eIx (eV 0) (eV 1))],eI 1]) (eOp (o1 PV) [eOp (o2 wEq) [eV 8,FD []]])]))
    (AU (xIf (eOp (o2 wNe) [AE CW [eV 3,eV 7],eIx (eV 6) (eV 7)]) (BG (eC (.bl false))) DY)
    (AU (BC 9 (AE CV [eV 3,eV 7]))
    (AU (xIf (Sv (AE D5 [eV 3,eV 7,eV 9])) (BG (eC (.bl false))) DY)
    (AU (xIf (IM (eOp (o2 wLt) [eIx (eV 6) (eV 7),eI 200]) (eOp (o2 wNe) [eV 9,eOp (o1 gY) [AE (Bk 24) [eV 4,eV 7]]])) (BG (eC (.bl false))) DY)
    (AU (BC 10 (CF [7] 2 (Qd (eV 5)) (tTp [tNm 1,tNm 2]) (Z9 (eV 0) (eV 2)) (eV 1)))
    (xIf (eOp (o2 wNe) [AE Dg [eV 3,eV 7],eIx (FD [eV 10,eC (.str "no")]) (eOp (o1 PV) [eOp (o2 wNe) [eV 8,FD []]])]) (BG (eC (.bl false))) DY)))))))))))))
    (BG (eC (.bl true))))
def Nl:Fn:=Ap (Av 11 UA)
end
section
open PyProof.Rows (boot_isinstance boot_int boot_bool boot_tuple boot_str boot_list boot_abs boot_all boot_any boot_sum boot_max boot_min boot_range boot_enumerate boot_zip boot_sorted boot_set boot_divmod)
noncomputable def top(i:Nat):sG:=xT.main.body.getD i (.Pass ⟨0,0,0,0⟩)
abbrev D9:sG:=top 3
abbrev Em:sG:=top 4
abbrev DF:sG:=top 5
abbrev BQ:sG:=top 6
abbrev GC:sG:=top 7
abbrev HP:sG:=top 8
abbrev Co:sG:=top 15
abbrev Du:sG:=top 16
abbrev Dy:sG:=top 17
abbrev Dc:sG:=top 18
abbrev CD:sG:=top 19
abbrev CZ:sG:=top 20
abbrev BB:sG:=top 21
abbrev C9:sG:=top 22
abbrev CY:sG:=top 23
abbrev Bx:sG:=top 24
abbrev Br:sG:=top 25
abbrev A3:sG:=top 26
abbrev Bn:sG:=top 28
abbrev BO:sG:=top 29
abbrev Ca:sG:=top 30
abbrev A4:sG:=top 32
abbrev Bc:sG:=top 33
abbrev Bj:sG:=top 34
abbrev Be:sG:=top 35
abbrev Bg:sG:=top 36
abbrev B7:sG:=top 37
abbrev DB:sG:=top 39
abbrev Gz:sG:=top 40
abbrev F5:sG:=top 41
abbrev D8:sG:=top 42
abbrev Fv:sG:=top 43
abbrev F7:sG:=top 44
abbrev El:sG:=top 45
abbrev Fj:sG:=top 46
abbrev B6:sG:=top 48
abbrev D7:sG:=top 49
abbrev E7:sG:=top 50
abbrev E8:sG:=top 51
abbrev Eg:sG:=top 52
abbrev Cb:sG:=top 53
abbrev Cw:sG:=top 54
abbrev EA:sG:=top 57
abbrev Df:sG:=top 58
abbrev Eh:sG:=top 59
abbrev F6:sG:=top 60
abbrev F4:sG:=top 61
abbrev Ge:sG:=top 62
abbrev Bw:sG:=top 63
abbrev Dh:sG:=top 64
abbrev B8:sG:=top 66
abbrev CA:sG:=top 67
abbrev CB:sG:=top 68
abbrev CT:sG:=top 69
abbrev F3:sG:=top 70
abbrev Fe:sG:=top 71
section
variable(P:rF)(w:rX)(K:qS)(mg:Str->qY qT)(base:rT)
abbrev Ju:Prop:=St.Dfn P w K mg base "is_whole" 1 ["thing"] (spD K 1 Dw)
abbrev K2:Prop:=St.Dfn P w K mg base "is_from" 2 ["thing","low"] (spD K 2 Ez)
abbrev ER:Prop:=St.Dfn P w K mg base "is_within" 3 ["thing","low","high"] (spD K 3 BE)
abbrev EG:Prop:=St.Dfn P w K mg base "greatest_divisor" 1 ["one","other"] (spD K 2 Bt)
abbrev MO:Prop:=St.Dfn P w K mg base "lowest" 2 ["top","bottom"] (spD K 2 Fx)
abbrev N0:Prop:=St.Dfn P w K mg base "mixed" 3 ["one","weight","other","more"] (spD K 4 HJ)
abbrev Dq:Prop:=St.Dfn P w K mg base "has_pieces" 1 ["held","load","pieces"] (spD K 3 Bp)
abbrev Jq:Prop:=St.Dfn P w K mg base "can_pool" 2 ["held","load","other"] (spD K 3 FR)
abbrev Je:Prop:=St.Dfn P w K mg base "can_swap" 2 ["held","load","given","kind"] (spD K 4 EB)
abbrev MD:Prop:=St.Dfn P w K mg base "can_do" 3 ["held","done","deed"] (spD K 3 Bv)
abbrev Gm:Prop:=St.Dfn P w K mg base "held_without" 1 ["held","load","pieces"] (spD K 3 BN)
abbrev Eb:Prop:=St.Dfn P w K mg base "held_behind" 2 ["held","deed"] (spD K 2 Ad)
abbrev Dd:Prop:=St.Dfn P w K mg base "held_at_first" 1 ["book"] (spD K 1 BY)
abbrev GR:Prop:=St.Dfn P w K mg base "made_from" 1 ["deed"] (spD K 1 Aj)
abbrev Gx:Prop:=St.Dfn P w K mg base "first_wrong" 4 ["book"] (spD K 1 DN)
abbrev BZ:Prop:=St.Dfn P w K mg base "refuse_undone" 5 ["book"] (spD K 1 Al)
abbrev Dm:Prop:=St.Dfn P w K mg base "many_loads" 1 ["book","many"] (spD K 2 Bo)
abbrev BM:Prop:=St.Dfn P w K mg base "refuse_no_load" 4 ["book","load"] (spD K 2 Ai)
abbrev Hu:Prop:=St.Dfn P w K mg base "all_to_one" 1 ["many","one"] (spD K 2 BU)
abbrev Gi:Prop:=St.Dfn P w K mg base "mixed_shares" 4 ["shares","weight","others","more"] (spD K 4 Cr)
abbrev HC:Prop:=St.Dfn P w K mg base "made_shares" 5 ["held","shares","deed"] (spD K 3 Ar)
abbrev B2:Prop:=St.Dfn P w K mg base "all_sources" 2 ["book"] (spD K 1 An)
abbrev Ey:Prop:=St.Dfn P w K mg base "all_origins" 6 ["book"] (spD K 1 DH)
abbrev Jk:Prop:=St.Dfn P w K mg base "is_chain" 6 ["book","load","thing"] (spD K 3 D5)
abbrev HW:Prop:=St.Dfn P w K mg base "first_chain" 6 ["book","load"] (spD K 2 CV)
abbrev G6:Prop:=St.Dfn P w K mg base "many_chains" 6 ["book","load"] (spD K 2 CW)
abbrev LU:Prop:=St.Dfn P w K mg base "reached" 7 ["book","load"] (spD K 2 Cc)
abbrev Iv:Prop:=St.Dfn P w K mg base "_law_cell_at" 1 ["_law_script","_law_k"] (spD K 2 Ce)
abbrev PD:Prop:=St.Dfn P w K mg base "_law_pen" 1 ["_law_cell"] (spD K 1 G5)
abbrev CI:Prop:=St.Dfn P w K mg base "_law_draw" 1 ["_law_pen_here","_law_bound"] (spD K 2 AD)
abbrev Jy:Prop:=St.Dfn P w K mg base "_law_common" 1 ["_law_one","_law_other"] (spD K 2 FG)
abbrev C4:Prop:=St.Dfn P w K mg base "_law_made" 2 ["_law_top","_law_bottom"] (spD K 2 A9)
abbrev EY:Prop:=St.Dfn P w K mg base "_law_plus" 3 ["_law_one","_law_other"] (spD K 2 BX)
abbrev E5:Prop:=St.Dfn P w K mg base "_law_times" 3 ["_law_one","_law_other"] (spD K 2 AZ)
abbrev JR:Prop:=St.Dfn P w K mg base "_law_less" 4 ["_law_one","_law_other"] (spD K 2 C5)
abbrev H0:Prop:=St.Dfn P w K mg base "_law_whole" 3 ["_law_pen_here","_law_many"] (spD K 2 C1)
abbrev HK:Prop:=St.Dfn P w K mg base "_law_pieces" 2 ["_law_pen_here"] (spD K 1 Aw)
abbrev LP:Prop:=St.Dfn P w K mg base "_law_train" 4 ["_law_pen_here"] (spD K 1 GV)
abbrev Ky:Prop:=St.Dfn P w K mg base "_law_first" 4 ["_law_pen_here","_law_train_here"] (spD K 2 Gf)
abbrev Kg:Prop:=St.Dfn P w K mg base "_law_share" 3 ["_law_pen_here"] (spD K 1 Et)
abbrev Jn:Prop:=St.Dfn P w K mg base "_law_worths" 2 ["_law_pen_here","_law_many"] (spD K 2 C7)
abbrev Hz:Prop:=St.Dfn P w K mg base "_law_begun" 1 ["_law_book_here"] (spD K 1 Dj)
abbrev Jh:Prop:=St.Dfn P w K mg base "_law_pooled" 4 ["_law_one","_law_other"] (spD K 2 FF)
abbrev L4:Prop:=St.Dfn P w K mg base "_law_cost" 3 ["_law_train_here","_law_loads","_law_deed_here"] (spD K 3 Hh)
abbrev Kt:Prop:=St.Dfn P w K mg base "_law_borne" 5 ["_law_shares","_law_part","_law_owners"] (spD K 3 DZ)
abbrev L7:Prop:=St.Dfn P w K mg base "_law_sold" 5 ["_law_shares","_law_deed_here"] (spD K 2 EX)
abbrev Lu:Prop:=St.Dfn P w K mg base "_law_turn" 6 ["_law_train_here","_law_state","_law_deed_here"] (spD K 3 EU)
abbrev NB:Prop:=St.Dfn P w K mg base "_law_do" 7 ["_law_train_here","_law_state","_law_deed_here"] (spD K 3 BI)
abbrev MC:Prop:=St.Dfn P w K mg base "_law_deed" 4 ["_law_pen_here","_law_train_here","_law_state"] (spD K 3 Di)
abbrev Ls:Prop:=St.Dfn P w K mg base "_law_book" 8 ["_law_pen_here","_law_most"] (spD K 2 Ci)
abbrev Ij:Prop:=St.Dfn P w K mg base "_law_parents" 1 ["_law_book_here"] (spD K 1 DP)
abbrev Ih:Prop:=St.Dfn P w K mg base "_law_origins" 8 ["_law_book_here"] (spD K 1 DA)
abbrev Kr:Prop:=St.Dfn P w K mg base "_law_pooly" 2 ["_law_pen_here"] (spD K 1 Ee)
abbrev PK(n:Nat):Prop:=St.Dfn P w K mg base "_law_chains" (1+n) ["_law_rows","_law_load"] (spD K 2 (Bk n))
abbrev L6:Prop:=St.Dfn P w K mg base "_law_from" 8 ["_law_book_here","_law_load"] (spD K 2 Dg)
abbrev FK:Prop:=d6 P w K mg base "refuse_no_load" 4 ["book","load"] (spR K mg 2 CO)
abbrev LY:Prop:=d6 P w K mg base "reached" 7 ["book","load"] (spR K mg 2 Ek)
end
structure Bts(mg:Str->qY qT):Prop where
 abs:mg "abs"=none
 all:mg "all"=none
 bool:mg "bool"=none
 dict:mg "dict"=none
 enumerate:mg "enumerate"=none
 int:mg "int"=none
 isi:mg "isinstance"=none
 len:mg "len"=none
 list:mg "list"=none
 max:mg "max"=none
 min:mg "min"=none
 range:mg "range"=none
 set:mg "set"=none
 sorted:mg "sorted"=none
 sum:mg "sum"=none
 tuple:mg "tuple"=none
 zip:mg "zip"=none
end
section
open PyProof.Rows (boot_isinstance boot_int boot_bool boot_tuple boot_str boot_list boot_abs boot_all boot_any boot_sum boot_max boot_min boot_range boot_enumerate boot_zip boot_sorted boot_set boot_divmod)
local macro_rules| `(tactic|walk_at $s)=>do
 let i (w:uO):Lean.Term:=Lean.mkIdent w.toName
 let t (w:uO):Lean.MacroM Lean.Term:=do
  match w with
  | "?"=> `(?_)
  | "_"=> `(_)
  | "A"=> `(by assumption)
  | "B"=> `(by walk_at "b")
  | "D"=> `(by decide)
  | "K"=> `(λ_ _ _=>⟨?_,?_,?_⟩)
  | "M"=> `(JE.mono (by assumption) (by decide))
  | "F"=> `(VG _)
  |_=>match w.splitOn "/" with
   | [f,n]=>pure (yZ (i f) (Array.replicate n.length (<- `(?_))))
   |_=>pure (i w)
 let r (a:Wp uO):Lean.MacroM (Lean.TSyntax `tactic):=do `(tactic|refine $(yZ (i a.head!) (<-a.tail!.mapM t).toArray))
 let g (s:uO):Lean.MacroM (Lean.TSyntax `tactic):=do
  (s.splitOn ";").foldrM (λx z=>do
    let a:=x.splitOn " "
    let b<-if a.head!== "%" then `(tactic|with_reducible $(<-r a.tail!):tactic)else r a
    `(tactic|first| $b:tactic| $z:tactic)) (<- `(tactic|assumption))
 let ws:=s.getString.splitOn " "
 match ws.head! with
 | "b"=>g "Bts.abs A;Bts.all A;Bts.bool A;Bts.dict A;Bts.enumerate A;Bts.int A;Bts.isi A;Bts.len A;Bts.list A;Bts.max A;Bts.min A;Bts.range A;Bts.set A;Bts.sorted A;Bts.sum A;Bts.tuple A;Bts.zip A;% boot_abs;% boot_all;% boot_bool;% boot_dict;% boot_enumerate;% boot_int;% boot_isinstance;% boot_len;% boot_list;% boot_max;% boot_min;% boot_range;% boot_set;% boot_sorted;% boot_sum;% boot_tuple;% boot_zip"
 | "d"=>do
   let z<-("qK:AF ? ?;AN|gDE:AK _;BD;Ht;Cy IE ? ?;deM A A ?;XQ ? ? ?;FX ? rfl B B ?;OU ? rfl B B ?;G4 ?;HD ?;Po _ _ _ rfl A ? K;YX ? ? ?;lu ? ?;lq ?;dh ? ?;lZ;Th;jT A rfl;oN rfl B B;nW ? ? ?;mU ?;LA PySem.F.slot_list_append PySem.F.type_list_append ID ? ?;LA PySem.F.slot_list_extend PySem.F.type_list_extend kO ? ?;aG ? ?;kE ? ?;ZF ? ? ?;oH rfl A rfl B ? ?|qL:A1 ?;Ay ? ?;IA|gDS:G8 ?;Jf _ ? A;HR ?;K6 ? ? ?;MG _ _ _ rfl A rfl rfl A ? K;br ? ?;gS ? ? ?;LV PassesOwn.never rfl ? ? ?;UU rfl A rfl rfl D rfl rfl ? ?;iD;iJ F PassesOwn.never ? ?|gDT:HL ? ? ?;ez ?;DW.dt bu/??;DW.dt pb/??;fD ?|gDG:Hm _ A;ag rfl ?|qA:% Nj;% Lz ?;% gT;% kr;% YB;% lH;% Q2 ?;% mJ;% iL;% dW;% nE;% l9;% jY;% fV;% ij|my:% LC;% aw;% Tv rfl;% eY;% OY;% fm;% bK;% du rfl;% Vl rfl;% Ye".splitOn "|").foldrM (λx z=>do
    let a:=x.splitOn ":"
    `(tactic|first|((with_reducible refine $(i a.head!) ?_); $(<-g a.tail!.head!):tactic)| $z:tactic)) (<-g "He ? ?;QF;Mx;aC ?;Jw ?;Vy rfl B ?;mC rfl B ? ?;YQ rfl B ?;Vh;bu ? ?;Yp ?;pb ? ?;mG ?;mD;ZX ?;jB ? ? ?;% pK;j7 ?;pQ ? ? ?;bF A M rfl ?;gP rfl A rfl ?;pK")
   let y:Lean.TSyntax `tactic<-ws.tail!.foldrM (λw z=>do `(tactic|(have:= $(if w.startsWith "T." then i w else yZ (i w) #[i "P",i "base",i "T"]); $z:tactic))) (<- `(tactic|repeat' $z:tactic))
   pure y
 |_=>Lean.Macro.throwUnsupported
variable{P:rF}{w:rX}{K:qS}{mg:Str->qY qT}{base:rT}
theorem Nu:AM ["thing"] ["thing"] (AB D9):=scM
theorem Fc  (S:St.Src K mg "is_whole" D9)(B:Bts mg):Ju P w K mg base:=dfW 0 S Nu λ_ _ _=>by
 walk_at "d"
theorem O6:AM ["thing","low"] ["thing","low"] (AB Em):=scM
theorem GK  (S:St.Src K mg "is_from" Em)(Fc:Ju P w K mg base):K2 P w K mg base:=dfW 1 S O6 λ_ _ _=>by
 walk_at "d"
theorem Lq:AM ["thing","low","high"] ["thing","low","high"] (AB DF):=scM
theorem Bl  (S:St.Src K mg "is_within" DF)(GK:K2 P w K mg base):ER P w K mg base:=dfW 2 S Lq λ_ _ _=>by
 walk_at "d"
theorem HN:AM ["one","other"] ["one","other"] (AB BQ):=scM
theorem Bu  (S:St.Src K mg "greatest_divisor" BQ)(B:Bts mg):EG P w K mg base:=dfW 0 S HN λ_ _ _=>by
 walk_at "d"
theorem P9:AM ["top","bottom","divisor"] ["top","bottom"] (AB GC):=scM
theorem HZ  (S:St.Src K mg "lowest" GC)(Bu:EG P w K mg base):MO P w K mg base:=dfW 1 S P9 λ_ _ _=>by
 walk_at "d"
theorem Ru:AM ["one","weight","other","more","top"] ["one","weight","other","more"] (AB HP):=scM
theorem Iq  (S:St.Src K mg "mixed" HP)(HZ:MO P w K mg base):N0 P w K mg base:=dfW 2 S Ru λ_ _ _=>by
 walk_at "d"
theorem Kp:AM ["held","load","pieces"] ["held","load","pieces"] (AB Co):=scM
theorem BW  (S:St.Src K mg "has_pieces" Co)(B:Bts mg):Dq P w K mg base:=dfW 0 S Kp λ_ _ _=>by
 walk_at "d"
theorem Nr:AM ["held","load","other"] ["held","load","other"] (AB Du):=scM
theorem FO  (S:St.Src K mg "can_pool" Du)(BW:Dq P w K mg base):Jq P w K mg base:=dfW 1 S Nr λ_ _ _=>by
 walk_at "d"
theorem NR:AM ["held","load","given","kind"] ["held","load","given","kind"] (AB Dy):=scM
theorem Fb  (S:St.Src K mg "can_swap" Dy)(BW:Dq P w K mg base):Je P w K mg base:=dfW 1 S NR λ_ _ _=>by
 walk_at "d"
theorem Py:AM ["held","done","deed","word","numbers"] ["held","done","deed"] (AB Dc):=scM
theorem Ha  (S:St.Src K mg "can_do" Dc)(BW:Dq P w K mg base)(FO:Jq P w K mg base)(Fb:Je P w K mg base):MD P w K mg base:=dfW 2 S Py λ_ _ _=>by
 have:AS ["held","done","deed","word","numbers"] (AB Dc) ["other"] (ixC [] 1) (IK Dc 0):=csM
 have:(["other"]:Wp Str).Nodup:=by decide+kernel
 walk_at "d"
theorem JJ:AM ["held","load","pieces","kind","there"] ["held","load","pieces"] (AB CD):=scM
theorem Cs  (S:St.Src K mg "held_without" CD):Gm P w K mg base:=dfW 0 S JJ λ_ _ _=>by
 walk_at "d"
theorem J9:AM ["held","deed","word","kind","pieces","more","load","given","got"] ["held","deed"] (AB CZ):=scM
theorem Bz  (S:St.Src K mg "held_behind" CZ)(Cs:Gm P w K mg base):Eb P w K mg base:=dfW 1 S J9 λ_ _ _=>by
 walk_at "d"
theorem Io:AM ["book"] ["book"] (AB BB):=scM
theorem Bb  (S:St.Src K mg "held_at_first" BB):Dd P w K mg base:=dfW 0 S Io λ_ _ _=>by
 have:AS ["book"] (AB BB) ["load"] (ixC [] 1) (IK BB 0):=csM
 have:(["load"]:Wp Str).Nodup:=by decide+kernel
 walk_at "d"
theorem Lk:AM ["deed","word"] ["deed"] (AB C9):=scM
theorem Ck  (S:St.Src K mg "made_from" C9)(B:Bts mg):GR P w K mg base:=dfW 0 S Lk λ_ _ _=>by
 walk_at "d"
theorem KA:AM ["book","held","deeds","at","deed"] ["book"] (AB CY):=scM
theorem DM  (S:St.Src K mg "first_wrong" CY)(B:Bts mg)(Ha:MD P w K mg base)(Bz:Eb P w K mg base)(Bb:Dd P w K mg base):Gx P w K mg base:=dfW 3 S KA λ_ _ _=>by
 walk_at "d"
theorem Ik:AM ["book","wrong"] ["book"] (AB Bx):=scM
theorem Ac  (S:St.Src K mg "refuse_undone" Bx)(DM:Gx P w K mg base):BZ P w K mg base:=dfW 4 S Ik λ_ _ _=>by
 walk_at "d"
theorem Km:AM ["book","many"] ["book","many"] (AB Br):=scM
theorem BV  (S:St.Src K mg "many_loads" Br)(B:Bts mg)(Dt:SW K mg "MAKERS" BK):Dm P w K mg base:=dfW 0 S Km λ_ _ _=>by
 have:AS ["book","many"] (AB Br) ["deed"] (ixC [] 1) (IK Br 0):=csM
 have:(["deed"]:Wp Str).Nodup:=by decide+kernel
 walk_at "d"
theorem Ef:AM ["book","load"] ["book","load"] (AB A3):=scM
theorem CN  (S:St.Src K mg "refuse_no_load" A3)(B:Bts mg)(Bl:ER P w K mg base)(BV:Dm P w K mg base)(FT:XcD K mg "NoLoad"):FK P w K mg base:=mH 3 S Ef λ_ _ _=>by walk_at "d"
theorem AY  (S:St.Src K mg "refuse_no_load" A3)(B:Bts mg)(Bl:ER P w K mg base)(BV:Dm P w K mg base):BM P w K mg base:=dfW 3 S Ef λ_ _ _=>by
 walk_at "d"
theorem LL:AM ["many","one"] ["many","one"] (AB Bn):=scM
theorem Ds  (S:St.Src K mg "all_to_one" Bn)(B:Bts mg)(Sl:SW K mg "ALL" Tq)(F8:SW K mg "NOTHING" HB):Hu P w K mg base:=dfW 0 S LL λ_ _ _=>by
 have:AS ["many","one"] (AB Bn) ["one","at"] (ixC [1] 1) (IK Bn 0):=csM
 have:(["one","at"]:Wp Str).Nodup:=by decide+kernel
 walk_at "d"
theorem JS:AM ["shares","weight","others","more"] ["shares","weight","others","more"] (AB BO):=scM
theorem Cu  (S:St.Src K mg "mixed_shares" BO)(B:Bts mg)(Iq:N0 P w K mg base):Gi P w K mg base:=dfW 3 S JS λ_ _ _=>by
 have:AS ["shares","weight","others","more"] (AB BO) ["weight","more","share","other"] (ixC [1,3] 2) (IK BO 0):=csM
 have:(["weight","more","share","other"]:Wp Str).Nodup:=by decide+kernel
 walk_at "d"
theorem J6:AM ["held","shares","deed","sources","load","other"] ["held","shares","deed"] (AB Ca):=scM
theorem DO  (S:St.Src K mg "made_shares" Ca)(B:Bts mg)(Ck:GR P w K mg base)(Cu:Gi P w K mg base):HC P w K mg base:=dfW 4 S J6 λ_ _ _=>by
 walk_at "d"
theorem J5:AM ["book","first","deeds"] ["book"] (AB A4):=scM
theorem Ak  (S:St.Src K mg "all_sources" A4)(Dt:SW K mg "MAKERS" BK)(Ck:GR P w K mg base):B2 P w K mg base:=dfW 1 S J5 λ_ _ _=>by
 have:AS ["book","first","deeds"] (AB A4) ["load"] (ixC [] 1) (IK A4 0):=csM
 have:(["load"]:Wp Str).Nodup:=by decide+kernel
 have:AS ["book","first","deeds"] (AB A4) ["deed"] (ixC [] 1) (IK A4 1):=csM
 have:(["deed"]:Wp Str).Nodup:=by decide+kernel
 walk_at "d"
theorem Jz:AM ["book","many","held","origins","deed"] ["book"] (AB Bc):=scM
theorem B1  (S:St.Src K mg "all_origins" Bc)(B:Bts mg)(Dt:SW K mg "MAKERS" BK)(Bz:Eb P w K mg base)(Bb:Dd P w K mg base)(BV:Dm P w K mg base)(Ds:Hu P w K mg base)(DO:HC P w K mg base):Ey P w K mg base:=dfW 5 S Jz λ_ _ _=>by
 have:AS ["book","many","held","origins","deed"] (AB Bc) ["many","root"] (ixC [1] 1) (IK Bc 0):=csM
 have:(["many","root"]:Wp Str).Nodup:=by decide+kernel
 walk_at "d"
theorem M9:AM ["book","load","thing","sources"] ["book","load","thing"] (AB Bj):=scM
theorem D0  (S:St.Src K mg "is_chain" Bj)(B:Bts mg)(Bl:ER P w K mg base)(Ac:BZ P w K mg base)(AY:BM P w K mg base)(Ak:B2 P w K mg base):Jk P w K mg base:=dfW 5 S M9 λ_ _ _=>by
 have:AS ["book","load","thing","sources"] (AB Bj) ["sources","number"] (ixC [3] 1) (IK Bj 0):=csM
 have:(["sources","number"]:Wp Str).Nodup:=by decide+kernel
 have:AS ["book","load","thing","sources"] (AB Bj) ["sources","number","behind"] (ixC [3] 2) (IK Bj 1):=csM
 have:(["sources","number","behind"]:Wp Str).Nodup:=by decide+kernel
 walk_at "d"
theorem J8:AM ["book","load","chains","number","sources","longer"] ["book","load"] (AB Be):=scM
theorem CU  (S:St.Src K mg "first_chain" Be)(B:Bts mg)(Ac:BZ P w K mg base)(AY:BM P w K mg base)(Ak:B2 P w K mg base):HW P w K mg base:=dfW 5 S J8 λ_ _ _=>by
 have:AS ["book","load","chains","number","sources","longer"] (AB Be) ["chains","number","source"] (ixC [2,3] 1) (IK Be 0):=csM
 have:(["chains","number","source"]:Wp Str).Nodup:=by decide+kernel
 walk_at "d"
theorem KC:AM ["book","load","numbers","sources"] ["book","load"] (AB Bg):=scM
theorem Cd  (S:St.Src K mg "many_chains" Bg)(B:Bts mg)(Ac:BZ P w K mg base)(AY:BM P w K mg base)(Ak:B2 P w K mg base):G6 P w K mg base:=dfW 5 S KC λ_ _ _=>by
 have:AS ["book","load","numbers","sources"] (AB Bg) ["numbers","source"] (ixC [2] 1) (IK Bg 0):=csM
 have:(["numbers","source"]:Wp Str).Nodup:=by decide+kernel
 walk_at "d"
theorem Jo:AM ["book","load"] ["book","load"] (AB B7):=scM
theorem Ew  (S:St.Src K mg "reached" B7)(B:Bts mg)(Ac:BZ P w K mg base)(AY:BM P w K mg base)(Ak:B2 P w K mg base)(B1:Ey P w K mg base)(FT:XcD K mg "NoLoad")(CN:FK P w K mg base):LY P w K mg base:=mH 6 S Jo λ_ _ _=>by walk_at "d"
theorem Ec  (S:St.Src K mg "reached" B7)(B:Bts mg)(Ac:BZ P w K mg base)(AY:BM P w K mg base)(Ak:B2 P w K mg base)(B1:Ey P w K mg base):LU P w K mg base:=dfW 6 S Jo λ_ _ _=>by
 have:AS ["book","load"] (AB B7) ["load","number","shares"] (ixC [1] 2) (IK B7 0):=csM
 have:(["load","number","shares"]:Wp Str).Nodup:=by decide+kernel
 walk_at "d"
theorem Lo:AM ["_law_script","_law_k"] ["_law_script","_law_k"] (AB DB):=scM
theorem DJ  (S:St.Src K mg "_law_cell_at" DB)(B:Bts mg):Iv P w K mg base:=dfW 0 S Lo λ_ _ _=>by
 walk_at "d"
theorem R1:AM ["_law_cell"] ["_law_cell"] (AB Gz):=scM
theorem HG  (S:St.Src K mg "_law_pen" Gz)(B:Bts mg):PD P w K mg base:=dfW 0 S R1 λ_ _ _=>by
 walk_at "d"
theorem QK:AM ["_law_pen_here","_law_bound","_law_found","_law_stir"] ["_law_pen_here","_law_bound"] (AB F5):=scM
theorem Am  (S:St.Src K mg "_law_draw" F5):CI P w K mg base:=dfW 0 S QK λ_ _ _=>by
 walk_at "d"
theorem Nv:AM ["_law_one","_law_other"] ["_law_one","_law_other"] (AB D8):=scM
theorem FQ  (S:St.Src K mg "_law_common" D8):Jy P w K mg base:=dfW 0 S Nv λ_ _ _=>by
 walk_at "d"
theorem QC:AM ["_law_top","_law_bottom","_law_by"] ["_law_top","_law_bottom"] (AB Fv):=scM
theorem Ax  (S:St.Src K mg "_law_made" Fv)(B:Bts mg)(FQ:Jy P w K mg base):C4 P w K mg base:=dfW 1 S QC λ_ _ _=>by
 walk_at "d"
theorem QT:AM ["_law_one","_law_other"] ["_law_one","_law_other"] (AB F7):=scM
theorem Ba  (S:St.Src K mg "_law_plus" F7)(Ax:C4 P w K mg base):EY P w K mg base:=dfW 2 S QT λ_ _ _=>by
 walk_at "d"
theorem OR:AM ["_law_one","_law_other"] ["_law_one","_law_other"] (AB El):=scM
theorem A8  (S:St.Src K mg "_law_times" El)(Ax:C4 P w K mg base):E5 P w K mg base:=dfW 2 S OR λ_ _ _=>by
 walk_at "d"
theorem Pu:AM ["_law_one","_law_other"] ["_law_one","_law_other"] (AB Fj):=scM
theorem ET  (S:St.Src K mg "_law_less" Fj)(Ba:EY P w K mg base):JR P w K mg base:=dfW 3 S Pu λ_ _ _=>by
 walk_at "d"
theorem Oi:AM ["_law_pen_here","_law_many","_law_weights"] ["_law_pen_here","_law_many"] (AB B6):=scM
theorem De  (S:St.Src K mg "_law_whole" B6)(B:Bts mg)(Am:CI P w K mg base)(Ax:C4 P w K mg base):H0 P w K mg base:=dfW 2 S Oi λ_ _ _=>by
 have:AS ["_law_pen_here","_law_many","_law_weights"] (AB B6) ["_law_pen_here","_law_one"] (ixC [0] 1) (IK B6 0):=csM
 have:(["_law_pen_here","_law_one"]:Wp Str).Nodup:=by decide+kernel
 have:AS ["_law_pen_here","_law_many","_law_weights"] (AB B6) ["_law_weights","_law_weight"] (ixC [2] 1) (IK B6 1):=csM
 have:(["_law_weights","_law_weight"]:Wp Str).Nodup:=by decide+kernel
 walk_at "d"
theorem Mw:AM ["_law_pen_here","_law_great"] ["_law_pen_here"] (AB D7):=scM
theorem C3  (S:St.Src K mg "_law_pieces" D7)(Am:CI P w K mg base):HK P w K mg base:=dfW 1 S Mw λ_ _ _=>by
 walk_at "d"
theorem Oj:AM ["_law_pen_here","_law_partners","_law_kinds","_law_beasts"] ["_law_pen_here"] (AB E7):=scM
theorem GX  (S:St.Src K mg "_law_train" E7)(Am:CI P w K mg base)(De:H0 P w K mg base):LP P w K mg base:=dfW 3 S Oj λ_ _ _=>by
 walk_at "d"
theorem Ot:AM ["_law_pen_here","_law_train_here","_law_found","_law_k"] ["_law_pen_here","_law_train_here"] (AB E8):=scM
theorem GG  (S:St.Src K mg "_law_first" E8)(B:Bts mg)(Am:CI P w K mg base)(De:H0 P w K mg base)(C3:HK P w K mg base):Ky P w K mg base:=dfW 3 S Ot λ_ _ _=>by
 walk_at "d"
theorem O0:AM ["_law_pen_here","_law_bottom"] ["_law_pen_here"] (AB Eg):=scM
theorem GP  (S:St.Src K mg "_law_share" Eg)(Am:CI P w K mg base)(Ax:C4 P w K mg base):Kg P w K mg base:=dfW 2 S O0 λ_ _ _=>by
 walk_at "d"
theorem Mg:AM ["_law_pen_here","_law_many"] ["_law_pen_here","_law_many"] (AB Cb):=scM
theorem FL  (S:St.Src K mg "_law_worths" Cb)(B:Bts mg)(Am:CI P w K mg base):Jn P w K mg base:=dfW 1 S Mg λ_ _ _=>by
 have:AS ["_law_pen_here","_law_many"] (AB Cb) ["_law_pen_here","_law_one"] (ixC [0] 1) (IK Cb 0):=csM
 have:(["_law_pen_here","_law_one"]:Wp Str).Nodup:=by decide+kernel
 walk_at "d"
theorem OL:AM ["_law_book_here"] ["_law_book_here"] (AB Cw):=scM
theorem Cz  (S:St.Src K mg "_law_begun" Cw)(B:Bts mg):Hz P w K mg base:=dfW 0 S OL λ_ _ _=>by
 have:AS ["_law_book_here"] (AB Cw) ["_law_load"] (ixC [] 1) (IK Cw 0):=csM
 have:(["_law_load"]:Wp Str).Nodup:=by decide+kernel
 walk_at "d"
theorem NM:AM ["_law_one","_law_other","_law_found","_law_mine","_law_its","_law_both"] ["_law_one","_law_other"] (AB EA):=scM
theorem FE  (S:St.Src K mg "_law_pooled" EA)(B:Bts mg)(Ax:C4 P w K mg base)(Ba:EY P w K mg base)(A8:E5 P w K mg base):Jh P w K mg base:=dfW 3 S NM λ_ _ _=>by
 walk_at "d"
theorem QU:AM ["_law_train_here","_law_loads","_law_deed_here","_law_worths_here","_law_whole_here"] ["_law_train_here","_law_loads","_law_deed_here"] (AB Df):=scM
theorem HX  (S:St.Src K mg "_law_cost" Df)(B:Bts mg)(Ax:C4 P w K mg base):L4 P w K mg base:=dfW 2 S QU λ_ _ _=>by
 have:AS ["_law_train_here","_law_loads","_law_deed_here","_law_worths_here","_law_whole_here"] (AB Df) ["_law_worths_here","_law_kind","_law_pieces_here","_law_owners"] (ixC [3] 3) (IK Df 0):=csM
 have:(["_law_worths_here","_law_kind","_law_pieces_here","_law_owners"]:Wp Str).Nodup:=by decide+kernel
 walk_at "d"
theorem PL:AM ["_law_shares","_law_part","_law_owners","_law_found","_law_mine","_law_its"] ["_law_shares","_law_part","_law_owners"] (AB Eh):=scM
theorem GF  (S:St.Src K mg "_law_borne" Eh)(B:Bts mg)(Ba:EY P w K mg base)(A8:E5 P w K mg base)(ET:JR P w K mg base):Kt P w K mg base:=dfW 4 S PL λ_ _ _=>by
 walk_at "d"
theorem Pf:AM ["_law_shares","_law_deed_here","_law_found","_law_passes"] ["_law_shares","_law_deed_here"] (AB F6):=scM
theorem Hb  (S:St.Src K mg "_law_sold" F6)(B:Bts mg)(Ba:EY P w K mg base)(A8:E5 P w K mg base)(ET:JR P w K mg base):L7 P w K mg base:=dfW 4 S Pf λ_ _ _=>by
 walk_at "d"
theorem Pt:AM ["_law_train_here","_law_state","_law_deed_here","_law_loads","_law_holders","_law_numbers","_law_part","_law_owners","_law_load"] ["_law_train_here","_law_state","_law_deed_here"] (AB F4):=scM
theorem HY  (S:St.Src K mg "_law_turn" F4)(HX:L4 P w K mg base)(GF:Kt P w K mg base)(Hb:L7 P w K mg base):Lu P w K mg base:=dfW 5 S Pt λ_ _ _=>by
 walk_at "d"
theorem Tc:AM ["_law_train_here","_law_state","_law_deed_here","_law_loads","_law_holders","_law_numbers","_law_word","_law_one","_law_other","_law_load","_law_given","_law_kind","_law_got"] ["_law_train_here","_law_state","_law_deed_here"] (AB Ge):=scM
theorem GL  (S:St.Src K mg "_law_do" Ge)(B:Bts mg)(FE:Jh P w K mg base)(HY:Lu P w K mg base):NB P w K mg base:=dfW 6 S Tc λ_ _ _=>by
 have:AS ["_law_train_here","_law_state","_law_deed_here","_law_loads","_law_holders","_law_numbers","_law_word","_law_one","_law_other","_law_load","_law_given","_law_kind","_law_got"] (AB Ge) ["_law_deed_here","_law_one"] (ixC [2] 1) (IK Ge 0):=csM
 have:(["_law_deed_here","_law_one"]:Wp Str).Nodup:=by decide+kernel
 walk_at "d"
theorem QR:AM ["_law_pen_here","_law_train_here","_law_state","_law_loads","_law_holders","_law_numbers","_law_full","_law_way","_law_load","_law_some","_law_same","_law_kind","_law_left","_law_partner"] ["_law_pen_here","_law_train_here","_law_state"] (AB Bw):=scM
theorem Hk  (S:St.Src K mg "_law_deed" Bw)(B:Bts mg)(Am:CI P w K mg base)(C3:HK P w K mg base)(GP:Kg P w K mg base)(FL:Jn P w K mg base):MC P w K mg base:=dfW 3 S QR λ_ _ _=>by
 have:AS ["_law_pen_here","_law_train_here","_law_state","_law_loads","_law_holders","_law_numbers","_law_full","_law_way","_law_load","_law_some","_law_same","_law_kind","_law_left","_law_partner"] (AB Bw) ["_law_at","_law_load"] (ixC [] 2) (IK Bw 0):=csM
 have:(["_law_at","_law_load"]:Wp Str).Nodup:=by decide+kernel
 have:AS ["_law_pen_here","_law_train_here","_law_state","_law_loads","_law_holders","_law_numbers","_law_full","_law_way","_law_load","_law_some","_law_same","_law_kind","_law_left","_law_partner"] (AB Bw) ["_law_loads","_law_load","_law_at"] (ixC [3,8] 1) (IK Bw 1):=csM
 have:(["_law_loads","_law_load","_law_at"]:Wp Str).Nodup:=by decide+kernel
 have:AS ["_law_pen_here","_law_train_here","_law_state","_law_loads","_law_holders","_law_numbers","_law_full","_law_way","_law_load","_law_some","_law_same","_law_kind","_law_left","_law_partner"] (AB Bw) ["_law_numbers","_law_number"] (ixC [5] 1) (IK Bw 2):=csM
 have:(["_law_numbers","_law_number"]:Wp Str).Nodup:=by decide+kernel
 walk_at "d"
theorem Ph:AM ["_law_pen_here","_law_most","_law_train_here","_law_first_here","_law_state","_law_deeds","_law_k","_law_deed_here"] ["_law_pen_here","_law_most"] (AB Dh):=scM
theorem Fy  (S:St.Src K mg "_law_book" Dh)(B:Bts mg)(Am:CI P w K mg base)(GX:LP P w K mg base)(GG:Ky P w K mg base)(Cz:Hz P w K mg base)(GL:NB P w K mg base)(Hk:MC P w K mg base):Ls P w K mg base:=dfW 7 S Ph λ_ _ _=>by
 have:AS ["_law_pen_here","_law_most","_law_train_here","_law_first_here","_law_state","_law_deeds","_law_k","_law_deed_here"] (AB Dh) ["_law_one"] (ixC [] 1) (IK Dh 0):=csM
 have:(["_law_one"]:Wp Str).Nodup:=by decide+kernel
 walk_at "d"
theorem Fh:AM ["_law_book_here","_law_found","_law_deed_here"] ["_law_book_here"] (AB B8):=scM
theorem J1:AS ["_law_book_here","_law_found","_law_deed_here"] (AB B8) ["_law_load"] (ixC [] 1) (IK B8 0):=csM
theorem KD:(["_law_load"]:Wp Str).Nodup:=by decide+kernel
theorem DL  (S:St.Src K mg "_law_parents" B8)(B:Bts mg):Ij P w K mg base:=by
 refine dfM 0 S Fh λhr hu=>?_
 exact(Ay (MG [] 1 ["_law_load"] rfl Fh.nd rfl rfl J1 (Jw (Cy IE (AK 0) BD)) (λs H fp=>⟨Hm 0 KD,Mx,HD AN⟩))
      (Ay (LV vK rfl (Jw (Cy IE (AK 0) BD)) (Hm 2 Fh.nd) (A1 (K6 (HL (Lz hu) (Cy IE (AK 2) BD) Ht) (A1 (HR (LA sv tV ID (AK 1) (AF (HD AN) AN)))) (A1 (K6 (HL (Lz hu) (Cy IE (AK 2) BD) Ht) (A1 (HR (LA sv tV ID (AK 1) (AF (FX My rfl B.sorted boot_sorted (AF (ZF (AK 2) BD BD) AN)) AN)))) (A1 (K6 (HL YB (Cy IE (AK 2) BD) (G4 (AF Ht (AF Ht AN)))) (A1 (HR (LA sv tV ID (AK 1) (AF (HD (AF (Cy IE (AK 2) (dh Vh BD)) AN)) AN)))) IA)))))))
      (A1 (G8 (AK 1)))))
theorem Az:AM ["_law_book_here","_law_state","_law_found","_law_deed_here","_law_one","_law_other","_law_mine","_law_its","_law_row","_law_root","_law_both"] ["_law_book_here"] (AB CA):=scM
theorem J3:AS ["_law_book_here","_law_state","_law_found","_law_deed_here","_law_one","_law_other","_law_mine","_law_its","_law_row","_law_root","_law_both"] (AB CA) ["_law_load"] (ixC [] 1) (IK CA 0):=csM
theorem J0:(["_law_load"]:Wp Str).Nodup:=by decide+kernel
theorem DC  (S:St.Src K mg "_law_origins" CA)(B:Bts mg)(Ax:C4 P w K mg base)(Ba:EY P w K mg base)(A8:E5 P w K mg base)(Cz:Hz P w K mg base)(GL:NB P w K mg base):Ih P w K mg base:=by
 refine dfM 7 S Az λhr hu=>?_
 exact(Ay (UU (i:=1) (j:=2) rfl Az.nd rfl rfl (by decide) rfl rfl (deM Cz hr (AF (AK 0) AN)) (Po [] 1 ["_law_load"] rfl J3 (Vy rfl B.range (AF (FX LC rfl B.len boot_len (AF (Cy IE (AK 0) BD) AN)) AN)) (λs H fp=>⟨Hm 0 J0,Mx,YV (RG (AK 0) (G4 (AF BD (AF BD AN))) Va) (List.cons_ne_nil _ _) (by decide)⟩)))
      (Ay (LV vK rfl (Jw (Cy IE (AK 0) BD)) (Hm 3 Az.nd) (Ay (K6 (HL (Lz hu) (Cy IE (AK 3) BD) Ht) (A1 (HR (LA sv tV ID (AK 2) (AF (YV (RG (FX LC rfl B.len boot_len (AF (AK 2) AN)) (G4 (AF BD (AF BD AN))) Va) (List.cons_ne_nil _ _) (by decide)) AN)))) (A1 (K6 (HL (Lz hu) (Cy IE (AK 3) BD) Ht) (Ay (br (aG (AK 3) BD) (ag rfl (He (Hm 4 Az.nd) (He (Hm 5 Az.nd) QF))))
      (Ay (UU (i:=6) (j:=7) rfl Az.nd rfl rfl (by decide) rfl rfl (Cy IE (Cy IE (Cy IE (AK 1) BD) (AK 4)) BD) (Cy IE (Cy IE (Cy IE (AK 1) BD) (AK 5)) BD))
      (Ay (Jf 8 lA Az.nd)
      (Ay (LV vK rfl (Jw (jb rfl rfl B.sorted rfl B.set (AF (XQ Nj (eJ rfl rfl B.list (AF (Cy IE (AK 2) (AK 4)) AN)) (eJ rfl rfl B.list (AF (Cy IE (AK 2) (AK 5)) AN))) AN))) (Hm 9 Az.nd) (Ay (Jf 10 (deM A8 hr (AF (G4 (AF (AK 6) (AF BD AN))) (AF (Yc hu (Cy IE (AK 2) (AK 4)) (AK 9) (G4 (AF BD (AF BD AN))) ⟨rfl,rfl,rfl,rfl⟩) AN))) Az.nd)
      (Ay (Jf 10 (deM Ba hr (AF (AK 10) (AF (deM A8 hr (AF (G4 (AF (AK 7) (AF BD AN))) (AF (Yc hu (Cy IE (AK 2) (AK 5)) (AK 9) (G4 (AF BD (AF BD AN))) ⟨rfl,rfl,rfl,rfl⟩) AN))) AN))) Az.nd)
      (A1 (Zz hu (deM A8 hr (AF (AK 10) (AF (deM Ax hr (AF BD (AF (XQ Nj (AK 6) (AK 7)) AN))) AN))) (AK 8) (AK 9))))))
      (A1 (HR (LA sv tV ID (AK 2) (AF (AK 8) AN)))))))) (A1 (K6 (HL YB (Cy IE (AK 3) BD) (G4 (AF Ht (AF Ht AN)))) (A1 (HR (LA sv tV ID (AK 2) (AF (jq rfl B.dict Rm (AF (Cy IE (AK 2) (Cy IE (AK 3) (dh Vh BD))) AN)) AN)))) IA)))))
      (A1 (HR (deM GL hr (AF (Cy IE (AK 0) BD) (AF (AK 1) (AF (AK 3) AN))))))))
      (A1 (G8 (AK 2)))))
theorem Ow:AM ["_law_pen_here","_law_train_here","_law_deeds","_law_sizes","_law_turn_here","_law_full","_law_load","_law_same","_law_other","_law_kind","_law_some"] ["_law_pen_here"] (AB CB):=scM
theorem E9  (S:St.Src K mg "_law_pooly" CB)(B:Bts mg)(Am:CI P w K mg base):Kr P w K mg base:=dfW 1 S Ow λ_ _ _=>by
 have:AS ["_law_pen_here","_law_train_here","_law_deeds","_law_sizes","_law_turn_here","_law_full","_law_load","_law_same","_law_other","_law_kind","_law_some"] (AB CB) ["_law_at","_law_row"] (ixC [] 2) (IK CB 0):=csM
 have:(["_law_at","_law_row"]:Wp Str).Nodup:=by decide+kernel
 have:AS ["_law_pen_here","_law_train_here","_law_deeds","_law_sizes","_law_turn_here","_law_full","_law_load","_law_same","_law_other","_law_kind","_law_some"] (AB CB) ["_law_sizes","_law_load","_law_at"] (ixC [3,6] 1) (IK CB 1):=csM
 have:(["_law_sizes","_law_load","_law_at"]:Wp Str).Nodup:=by decide+kernel
 walk_at "d"
theorem EO:AM ["_law_rows","_law_load","_law_found","_law_one"] ["_law_rows","_law_load"] (AB CT):=scM
theorem K0:AS ["_law_rows","_law_load","_law_found","_law_one"] (AB CT) ["_law_load","_law_chain"] (ixC [1] 1) (IK CT 0):=csM
theorem Kn:(["_law_load","_law_chain"]:Wp Str).Nodup:=by decide+kernel
theorem B4  (S:St.Src K mg "_law_chains" CT):∀n:Nat,n<=24->St.Dfn P w K mg base "_law_chains" (1+n) ["_law_rows","_law_load"] (spD K 2 (Bk n))
 |0,_=>Xs S (λf fd F=>F.binds λ_ _ _ _ _ _ us hl=>match us,hl with| [_,_],_=>rfl)
 |n+1,hn=>by
  have B4:=B4 S  n (by lia)
  refine dfM (1+n) S EO λhr hu=>?_
  exact(Ay (K6 (HL (Lz hu) (Cy IE (AK 0) (AK 1)) (HD AN)) (A1 (G8 (HD (AF (G4 (AF (AK 1) AN)) AN)))) IA)
   (Ay (Jf 2 (HD AN) EO.nd)
   (Ay (LV vK rfl (Jw (Cy IE (AK 0) (AK 1))) (Hm 3 EO.nd) (A1 (Jf 2 (XQ Nj (AK 2) (Po [1] 1 ["_law_load","_law_chain"] rfl K0 (Jw (deM B4 hr (AF (AK 0) (AF (AK 3) AN)))) (λs H fp=>⟨Hm 1 Kn,Mx,XQ Nj (AK 1) (G4 (AF (AK 0) AN))⟩))) EO.nd)))
   (A1 (G8 (AK 2))))))
theorem Pa:AM ["_law_book_here","_law_load"] ["_law_book_here","_law_load"] (AB F3):=scM
theorem Fo  (S:St.Src K mg "_law_from" F3)(Ec:LU P w K mg base)(GD:XmD K mg ["NoLoad"] "NoLoad")(Ew:LY P w K mg base):L6 P w K mg base:=by
 refine dfM 7 S Pa λhr hu=>?_
 exact(A1 (eB (A1 (G8 (deM Ec hr (AF (AK 0) (AF (AK 1) AN))))) (ZX (cL (bF Ew (hr.mono (by decide)) rfl (AF (AK 0) (AF (AK 1) AN))))) (ZY GD rfl (λ_=>(A1 (G8 Ht))) dA)))
theorem Dp:AM ["_law_script","_law_k","_law_pen_here","_law_book_here","_law_rows","_law_shares","_law_counts","_law_load","_law_row","_law_first_here","_law_due"] ["_law_script"] (AB Fe):=scM
theorem Sk:AS ["_law_script","_law_k","_law_pen_here","_law_book_here","_law_rows","_law_shares","_law_counts","_law_load","_law_row","_law_first_here","_law_due"] (AB Fe) ["_law_counts","_law_one"] (ixC [6] 1) (IK Fe 0):=csM
theorem SY:(["_law_counts","_law_one"]:Wp Str).Nodup:=by decide+kernel
theorem So:AS ["_law_script","_law_k","_law_pen_here","_law_book_here","_law_rows","_law_shares","_law_counts","_law_load","_law_row","_law_first_here","_law_due"] (AB Fe) ["_law_load","_law_at","_law_some"] (ixC [7] 2) (IK Fe 1):=csM
theorem Lw:(["_law_load","_law_at","_law_some"]:Wp Str).Nodup:=by decide+kernel
end
theorem nr{α:Sort _}{a b:α}(h:a=b):a=b:=h
@[simp high] theorem Ab{α β:Type}(a:α)(f:α->Option β):(some a).bind f=f a:=Eq.mp (congrArg (λz=>z=f a) rfl) (Eq.refl (f a))
@[simp high] theorem kC{α β:Type}(a:α)(f:α->β):(some a).map f=some (f a):=Eq.mp (congrArg (λz=>z=some (f a)) rfl) (Eq.refl (some (f a)))
section
variable{E:En}{S:Sto}{op:OpN}{f g c:Ev}{d:D}{i:Nat}{w:Wv}{a b e h r':D}{r:Wp D}{fs:Wp Ev}
@[simp] theorem qO{o:Option D}{E:En}:at? (o::E) 0=o:=nr rfl
@[simp] theorem qD{o:Option D}{E:En}{i:Nat}:at? (o::E) (i+1)=at? E i:=nr rfl
@[simp] theorem mZ:eC d E S=some (d,S):=nr rfl
@[simp] theorem mB:eV i E S=(at? E i).map λd=>(d,S):=nr rfl
@[simp] theorem aA:evs [] E S=some ([],S):=nr rfl
@[simp] theorem Cq:evs (f::fs) E S=(f E S).bind λr=>(evs fs E r.2).map λq=>(r.1::q.1,q.2):=nr rfl
@[simp] theorem VO{cf:Bool}:Nn cf op fs E S=(evs fs E S).bind λr=>(op (r.1.map (dr r.2))).bind λw=>fin cf w r.2:=nr rfl
@[simp] theorem oZ{cf:Bool}:fin cf (.val d) S=some (d,S):=by cases cf<;>rfl
@[simp] theorem oC:fin false (.own r) S=some (.lst r,S):=nr rfl
@[simp] theorem oM:fin true (.own r) S=some (.ref S.length,S++[.lst r]):=nr rfl
@[simp] theorem mx:dr S .non=.val .non:=nr rfl
@[simp] theorem pP{b:Bool}:dr S (.bl b)=.val (.bl b):=nr rfl
@[simp] theorem nN{i:Int}:dr S (.int i)=.val (.int i):=nr rfl
@[simp] theorem mw{x:Str}:dr S (.str x)=.val (.str x):=nr rfl
@[simp] theorem pY{x:String}:dr S (.ty x)=.val (.ty x):=nr rfl
@[simp] theorem nM:dr S (.tup r)=.val (.tup r):=nr rfl
@[simp] theorem lY:dr S (.lst r)=.val (.lst r):=nr rfl
@[simp] theorem mV{ns:List Int}:dr S (.scr ns)=.val (.scr ns):=nr rfl
theorem AW{n:Nat}(h:S[n]?=Gc (.lst r)):dr S (.ref n)=.own r:=by
 show(match S[n]? with|some (.lst ds)=>Wv.own ds|_=>.val (.ref n))=_
 rw[h]
theorem AJ{n:Nat}(h:S[n]?=Gc (.lst r)):DU S n=Gc r:=by
 unfold DU
 rw[h]
@[simp] theorem mF:fz (.val d)=d:=nr rfl
noncomputable def je(g:Ev)(E:En)(r:D×Sto):qY (D×Sto):=match r.1 with| .bl true=>g E r.2| .bl false=>Gc (.bl false,r.2)|_=>none
noncomputable def orK(g:Ev)(E:En)(r:D×Sto):qY (D×Sto):=match r.1 with| .bl false=>g E r.2| .bl true=>Gc (.bl true,r.2)|_=>none
noncomputable def mK(r:D×Sto):qY (D×Sto):=match r.1 with| .bl b=>Gc (.bl (!b),r.2)|_=>none
noncomputable def ifK(f g:Ev)(E:En)(r:D×Sto):qY (D×Sto):=match r.1 with| .bl true=>f E r.2| .bl false=>g E r.2|_=>none
@[simp] theorem mQ:je g E (.bl true,S)=g E S:=nr rfl
@[simp] theorem lg:je g E (.bl false,S)=some (.bl false,S):=nr rfl
@[simp] theorem pE:orK g E (.bl false,S)=g E S:=nr rfl
@[simp] theorem pU:orK g E (.bl true,S)=some (.bl true,S):=nr rfl
@[simp] theorem mR{b:Bool}:mK (.bl b,S)=some (.bl (!b),S):=nr rfl
@[simp] theorem pZ:ifK f g E (.bl true,S)=f E S:=nr rfl
@[simp] theorem oU:ifK f g E (.bl false,S)=g E S:=nr rfl
@[simp] theorem iO:IM f g E S=(f E S).bind (je g E):=nr rfl
@[simp] theorem P6:eOr f g E S=(f E S).bind (orK g E):=nr rfl
@[simp] theorem gN:Sv f E S=(f E S).bind mK:=nr rfl
@[simp] theorem lP:eIf c f g E S=(c E S).bind (ifK f g E):=nr rfl
@[simp] theorem iC:BH fs E S=(evs fs E S).bind λr=>if r.1.length<=sizeLine then some (.tup r.1,r.2)else none:=nr rfl
@[simp] theorem iG{cf:Bool}:XC cf fs E S=(evs fs E S).bind λr=>if r.1.length<=sizeLine then fin cf (.own r.1) r.2 else none:=nr rfl
@[simp] theorem cJ{F:Fn}:AE F fs E S=(evs fs E S).bind λr=>F r.1 r.2:=nr rfl
noncomputable def lX(op:Mo)(fs:Wp Ev)(E:En)(r:D×Sto):qY (D×Sto):=match r.1 with
 | .ref n=>(DU r.2 n).bind λ_=>(evs fs E r.2).bind λp=>(DU p.2 n).bind λds=>(op p.2 ds p.1).map λq=>(q.1,p.2.set n (.lst q.2))
 |_=>none
@[simp] theorem ik{op:Mo}{n:Nat}:lX op fs E (.ref n,S)=(DU S n).bind λ_=>(evs fs E S).bind λp=>(DU p.2 n).bind λds=>(op p.2 ds p.1).map λq=>(q.1,p.2.set n (.lst q.2)):=nr rfl
@[simp] theorem gi{op:Mo}:EL op f fs E S=(f E S).bind (lX op fs E):=nr rfl
@[simp] theorem jC:EN S r [d]=if r.length<sizeLine then some (.non,r++[d])else none:=nr rfl
variable{x y:Ex}
noncomputable def bN(y:Ex)(r:Fl×En×Sto):qY (Fl×En×Sto):=match r.1 with| .nx=>y r.2.1 r.2.2| .ret w=>Gc (.ret w,r.2)
noncomputable def jL(x y:Ex)(E:En)(r:D×Sto):qY (Fl×En×Sto):=match r.1 with| .bl true=>x E r.2| .bl false=>y E r.2|_=>none
@[simp] theorem BP:bN y (.nx,E,S)=y E S:=nr rfl
@[simp] theorem iA{w:D}:bN y (.ret w,E,S)=some (.ret w,E,S):=nr rfl
@[simp] theorem nP:jL x y E (.bl true,S)=x E S:=nr rfl
@[simp] theorem lV:jL x y E (.bl false,S)=y E S:=nr rfl
@[simp] theorem A6:AU x y E S=(x E S).bind (bN y):=nr rfl
@[simp] theorem gh:DY E S=some (.nx,E,S):=nr rfl
@[simp] theorem TU:xIf c x y E S=(c E S).bind (jL x y E):=nr rfl
@[simp] theorem iW:BG f E S=(f E S).map λr=>(.ret r.1,E,r.2):=nr rfl
@[simp] theorem WT:BC i f E S=(f E S).map λr=>(.nx,E.set i (some r.1),r.2):=nr rfl
@[simp] theorem Ux:Ao f E S=(f E S).map λr=>(.nx,E,r.2):=nr rfl
noncomputable def nI(d b:D)(E:En)(i:D×Sto):qY (Fl×En×Sto):=match b,i.1 with
 | .ref n,.int j=>(DU i.2 n).bind λds=>(ixN ds.length j).map λm=>(.nx,E,i.2.set n (.lst (ds.set m d)))
 |_,_=>none
@[simp] theorem iq{n:Nat}{j:Int}:nI d (.ref n) E (.int j,S)=(DU S n).bind λds=>(ixN ds.length j).map λm=>(.nx,E,S.set n (.lst (ds.set m d))):=nr rfl
@[simp] theorem iM{k o:Ev}:Ja k f o E S=(k E S).bind λr=>(f E r.2).bind λb=>(o E b.2).bind (nI r.1 b.1 E):=nr rfl
@[simp] theorem iS{t:Tf}:PR t f E S=(f E S).bind λr=>(t r.1 E r.2).map λE'=>(.nx,E',r.2):=nr rfl
@[simp] theorem iZ{i j:Nat}:NO i j f g E S=(f E S).bind λr=>(g E r.2).map λq=>(.nx,(E.set i (some r.1)).set j (some q.1),q.2):=by
  unfold NO
  rw[Cq]
  cases f E S with
  |none=>rfl
  |some r=>
   rw[Ab,Ab,Cq]
   cases g E r.2 with
   |none=>rfl
   |some q=>rfl
@[simp] theorem Za:tNm i d E S=some (E.set i (some d)):=nr rfl
@[simp] theorem jo{ts:List Tf}{ds:List D}:tTp ts (.tup ds) E S=tMs ts ds E S:=nr rfl
@[simp] theorem jS{ts:List Tf}{ds:List D}:tTp ts (.lst ds) E S=tMs ts ds E S:=nr rfl
@[simp] theorem j8{ts:List Tf}{n:Nat}:tTp ts (.ref n) E S=(DU S n).bind λds=>tMs ts ds E S:=nr rfl
@[simp] theorem jz:tMs [] [] E S=some E:=nr rfl
@[simp] theorem ig{t:Tf}{ts:List Tf}{ds:List D}:tMs (t::ts) (d::ds) E S=(t d E S).bind λE1=>tMs ts ds E1 S:=nr rfl
@[simp] theorem d8{N:Nat}{ds:List D}:Ap (Av N x) ds S=(x (ds.map some++List.replicate (N-ds.length) none) S).map λr=>(flD r.1,r.2.2):=by rw[Mz];rfl
@[simp] theorem mS:flD .nx=.non:=nr rfl
@[simp] theorem lD:flD (.ret d)=d:=nr rfl
@[simp] theorem lQ{i j:Int}:CP (.val (.int i)) (.val (.int j))=some (.val (.int (i+j))):=nr rfl
@[simp] theorem jV{xs ys:List D}:CP (.val (.tup xs)) (.val (.tup ys))=if xs.length+ys.length<=sizeLine then some (.val (.tup (xs++ys)))else none:=nr rfl
@[simp] theorem kK{xs ys:List D}:CP (.val (.lst xs)) (.val (.lst ys))=if xs.length+ys.length<=sizeLine then some (.own (xs++ys))else none:=nr rfl
@[simp] theorem iw{i j:Int}:EC (.val (.int i)) (.val (.int j))=if Dl i j=true then some (.val (.int (i*j)))else none:=nr rfl
@[simp] theorem gr{k:Int}:EC (.val (.tup r)) (.val (.int k))=if(!r.isEmpty && decide (k<=0) && decide (-(2^63)<=k))=true then some (.val (.tup []))else if(!r.isEmpty && decide (1<=k) && decide (r.length*k.toNat<=sizeLine))=true then some (.val (.tup (List.replicate k.toNat r).flatten))else none:=nr rfl
@[simp] theorem ju:asS (.own r)=some r:=nr rfl
@[simp] theorem jg:asS (.val (.lst r))=some r:=nr rfl
@[simp] theorem kY:asS (.val (.tup r))=some r:=nr rfl
@[simp] theorem lU{ns:List Int}:asS (.val (.scr ns))=some (ns.map .int):=nr rfl
@[simp] theorem kQ{j:Int}:wIx w (.val (.int j))=(asS w).bind λds=>(atI ds j).map .val:=nr rfl
theorem Bf{α:Type}{xs:Wp α}{n:Nat}{x:α}(h:xs[n]?=Gc x):atI xs (n:Int)=Gc x:=Zd h
theorem X9{α:Type}{xs:Wp α}{i:Int}(h0:0<=i)(h1:i<xs.length):atI xs i=Gc (xs[i.toNat]'(by lia)):=by
 have:atI xs ((i.toNat:Nat):Int)=Gc (xs[i.toNat]'(by lia)):=Bf (qW (by lia))
 rwa [sN h0]at this
@[simp] theorem nR:atI (a::r) 0=some a:=Bf (n:=0) rfl
@[simp] theorem oJ:atI (a::b::r) 1=some b:=Bf (n:=1) rfl
@[simp] theorem oX:atI (a::b::e::r) 2=some e:=Bf (n:=2) rfl
@[simp] theorem nT:atI (a::b::e::h::r) 3=some h:=Bf (n:=3) rfl
@[simp] theorem oE{k:D}:atI (a::b::e::h::k::r) 4=some k:=Bf (n:=4) rfl
theorem Pd{n k:Nat}(h:k<n):ixN n (k:Int)=Gc k:=by
 unfold ixN
 simp
 lia
theorem Rh{n:Nat}{i:Int}(h0:0<=i)(h1:i<n):ixN n i=Gc i.toNat:=by
 have:=Pd (n:=n) (k:=i.toNat) (by lia)
 rwa [sN h0]at this
@[simp] theorem ny{n:Nat}:ixN (n+1) 0=some 0:=Rh (by decide) (by lia)
@[simp] theorem pC{n:Nat}:ixN (n+2) 1=some 1:=Rh (by decide) (by lia)
@[simp] theorem oR{n:Nat}:ixN (n+3) 2=some 2:=Rh (by decide) (by lia)
@[simp] theorem nJ{i j:Int}:deq (.int i) (.int j)=(i==j):=nr rfl
@[simp] theorem ku{i j:Int}:MI (.int i) (.int j)=true:=nr rfl
@[simp] theorem jM{w':Wv}:wEq w w'=if MI (fz w) (fz w')=true then some (.val (.bl (deq (fz w) (fz w'))))else none:=nr rfl
@[simp] theorem Mt{w':Wv}:wNe w w'=if MI (fz w) (fz w')=true then some (.val (.bl (!deq (fz w) (fz w'))))else none:=nr rfl
@[simp] theorem ki{i j:Int}:wLt (.val (.int i)) (.val (.int j))=some (.val (.bl (decide (i<j)))):=nr rfl
@[simp] theorem j4{i j:Int}:wLe (.val (.int i)) (.val (.int j))=some (.val (.bl (decide (i<=j)))):=nr rfl
@[simp] theorem ke{i j:Int}:wGt (.val (.int i)) (.val (.int j))=some (.val (.bl (decide (j<i)))):=nr rfl
@[simp] theorem j0{i j:Int}:wGe (.val (.int i)) (.val (.int j))=some (.val (.bl (decide (j<=i)))):=nr rfl
@[simp] theorem iU{i j:Int}:Le (.val (.int i)) (.val (.int j))=some (.val (.int (i-j))):=nr rfl
@[simp] theorem gj{i:Int}:PN (.val (.int i))=some (.val (.int (-i))):=nr rfl
@[simp] theorem iX{i j:Int}:PM (.val (.int i)) (.val (.int j))=(if 0<j then some (.val (.int (i % j)))else none):=by
  show AAX Wv.val (if 0<j then Gc (D.int (i % j))else none)=_
  split<;>rfl
@[simp] theorem dH{i j:Int}:Ma (.val (.int i)) (.val (.int j))=(if(decide (0<j) && decide (j.natAbs<FH))=true then some (.val (.int (i / j)))else none):=by
  show AAX Wv.val (if(decide (0<j) && decide (j.natAbs<FH))=true then Gc (D.int (i / j))else none)=_
  split<;>rfl
@[simp] theorem hV{i j:Int}:gq (.val (.int i)) (.val (.int j))=if(decide (0<=j) && decide (j<=1000) && decide (i.natAbs<2^64))=true then some (.val (.int (i^j.toNat)))else none:=by
  show AAX Wv.val (if(decide (0<=j) && decide (j<=1000) && decide (i.natAbs<2^64))=true then Gc (D.int (i^j.toNat))else none)=_
  split<;>rfl
@[simp] theorem iE{i:Int}:bL (.val (.int i))=some (.val (.int (i.natAbs:Int))):=by
  show Gc (Wv.val (D.int (if i<0 then-i else i)))=_
  congr 3
  split<;>lia
@[simp] theorem iy:DX (.own r)=some (.val (.int r.length)):=nr rfl
@[simp] theorem ND:DX (.val (.lst r))=some (.val (.int r.length)):=nr rfl
@[simp] theorem XX:DX (.val (.tup r))=some (.val (.int r.length)):=nr rfl
@[simp] theorem jD{ns:List Int}:DX (.val (.scr ns))=some (.val (.int ns.length)):=by
  show Gc (Wv.val (D.int ((ns.map D.int).length:Nat)))=_
  rw[qy]
@[simp] theorem bM:EK w=(asS w).map λds=>.val (.tup ds):=nr rfl
@[simp] theorem cw:Pw w=(asS w).map λds=>.own ds:=nr rfl
@[simp] theorem nK{b:Bool}:PV (.val (.bl b))=some (.val (.int (if b then 1 else 0))):=nr rfl
@[simp] theorem gu{i j:Int}:gz (.val (.int i)) (.val (.int j))=some (.val (.int (if j>i then j else i))):=nr rfl
@[simp] theorem gw{i j:Int}:bI (.val (.int i)) (.val (.int j))=some (.val (.int (if j<i then j else i))):=nr rfl
@[simp] theorem iI{T:String}:bQ w (.val (.ty T))=if QD T=true then(kdW w).map λk=>.val (.bl (k.isA T))else none:=nr rfl
@[simp] theorem jw:QD "int"=true:=by decide
@[simp] theorem jE:QD "bool"=true:=by decide
@[simp] theorem fN:QD "tuple"=true:=by decide
@[simp] theorem gv:cj (.val (.lst r))=(bls r).map λbs=>.val (.bl (bs.all id)):=nr rfl
theorem AI{n:Nat}(h:n<=1000):n<=sizeLine:=qh h (by decide)
@[simp] theorem sz1:(1:Nat)<=sizeLine:=AI (by decide)
@[simp] theorem sz2:(2:Nat)<=sizeLine:=AI (by decide)
@[simp] theorem sz3:(3:Nat)<=sizeLine:=AI (by decide)
@[simp] theorem sz4:(4:Nat)<=sizeLine:=AI (by decide)
@[simp] theorem sz5:(5:Nat)<=sizeLine:=AI (by decide)
@[simp] theorem sz6:(6:Nat)<=sizeLine:=AI (by decide)
@[simp] theorem Iw:By E S=some (.bl true,S):=nr rfl
@[simp] theorem gU{s:Sr}{t:Tf}{b:Ex}:IL s t b E S=(s E S).bind λr=>KJ r.1.2 t b r.1.1 E r.2:=nr rfl
@[simp] theorem Aa:gOk [] S:=λ_ h=>(nomatch h)
theorem GQ{gs:Gd}{t:Tf}{b:Ex}(h:gOk gs S):KJ gs t b [] E S=Gc (.nx,E,S):=by
 unfold KJ
 rw[q9 h]
theorem VD {gs : Gd} {t : Tf} {b : Ex} {ds : Wp D} (h : gOk gs S) : KJ gs t b (d :: ds) E S = (t d E S).bind fun E1 => (b E1 S).bind fun r => match r.1 with
    | .nx => KJ gs t b ds r.2.1 r.2.2
    | .ret w => Gc (.ret w, r.2) := by
  rw [KJ, q9 h]
  all_goals rfl
theorem Dk{gs:Gd}{t:Tf}{b:Ex}{ds:Wp D}(h:gOk gs S):KJ gs t b (d::ds) E S=(t d E S).bind λE1=>(b E1 S).bind (bN (KJ gs t b ds)):=by
 rw[VD h]
 rfl
@[simp] theorem hU:Fd f E S=(f E S).bind λr=>(sqD r.2 r.1).map λp=>(p,r.2):=nr rfl
@[simp] theorem lL:sqD S (.tup r)=some (r,[]):=nr rfl
@[simp] theorem lO:sqD S (.lst r)=some (r,[]):=nr rfl
theorem EE{n:Nat}(h:S[n]?=Gc (.lst r)):sqD S (.ref n)=Gc (r,[(n,r)]):=by
 show(DU S n).map (λds=>(ds,[(n,ds)]))=_
 rw[AJ h]
 rfl
@[simp] theorem jA:Qd f E S=(f E S).bind λr=>(sqD r.2 r.1).map λp=>((JD 0 p.1,p.2),r.2):=nr rfl
@[simp] theorem iP:Z2 f g E S=(f E S).bind λr=>(g E r.2).bind λq=>(sqD q.2 r.1).bind λa=>(sqD q.2 q.1).map λb=>((Lh a.1 b.1,a.2++b.2),q.2):=by
  unfold Z2
  rw[Cq]
  cases f E S with
  |none=>rfl
  |some r=>
   rw[Ab,Ab,Cq]
   cases g E r.2 with
   |none=>rfl
   |some q=>rfl
noncomputable def IJ(j:Int):rR:=decide (-(2^62)<=j) && decide (j<2^62)
theorem DQ{j:Int}(h: -1000000<=j)(g:j<=1000000):IJ j=true:=by
 unfold IJ
 rw[qt]
 exact⟨sZ (by lia),sZ (by lia)⟩
noncomputable def nO(S:Sto):D->qY ((Wp D×Gd)×Sto)
 | .int j=>if IJ j=true then Gc ((Ka 0 j.toNat,[]),S)else none
 |_=>none
@[simp] theorem gO{j:Int}:nO S (.int j)=if IJ j=true then some ((Ka 0 j.toNat,[]),S)else none:=nr rfl
@[simp] theorem gg:Mc [f] E S=(f E S).bind λr=>nO r.2 r.1:=by
  unfold Mc
  rw[Cq]
  cases f E S with
  |none=>rfl
  |some r=>
   obtain⟨d,S1⟩:=r
   rw[Ab,aA,kC,Ab,Ab]
   cases d<;>rfl
@[simp] theorem fZ{cf:Bool}{cap:List Nat}{m:Nat}{s:Sr}{t:Tf}:L8 cf cap m s t c f E S=(s E S).bind λr=>(Bs r.1.2 t c f r.1.1 [] (QH cap m E) r.2).bind λq=>fin cf (.own q.1) q.2:=nr rfl
@[simp] theorem iF{cap:List Nat}{m:Nat}:QH cap m E=cap.map (at? E)++List.replicate m none:=nr rfl
theorem Pl{α:Type}(p:α->rR):∀xs:Wp α,bls (xs.map λx=>.bl (p x))=Gc (xs.map p)
 | []=>rfl
 |x::xs=>by
  have ih:=Pl p xs
  unfold bls at ih⊢
  rw[rD,yG,ih]
  rfl
@[simp] theorem R4{i:Int}:Gw (.int i::r)=(Gw r).map λns=>i::ns:=by
  unfold Gw
  rw[yG]
  show(do let r1<-Gc i;let rs<-List.mapM intD r;pure (r1::rs))=_
  cases List.mapM intD r<;>rfl
theorem D3:∀(ns:Wp Int),Gw (ns.map D.int)=Gc ns
 | []=>rfl
 |n::ns=>by rw[rD,R4,D3 ns];rfl
@[simp] theorem gc:Sw (.own r)=(Gw r).map λns=>.val (.int ns.sum):=nr rfl
@[simp] theorem gZ:Sw (.val (.lst r))=(Gw r).map λns=>.val (.int ns.sum):=nr rfl
@[simp] theorem mE:iY true w (.val .non)=some (.val (.bl (!isN w))):=nr rfl
@[simp] theorem pF{i:Int}{w:Wv}:Ln true false [w,.val (.int i)]=wSl (some i) none w:=nr rfl
@[simp] theorem oF{i:Int}{w:Wv}:Ln false true [w,.val (.int i)]=wSl none (some i) w:=nr rfl
@[simp] theorem nk{i j:Int}{w:Wv}:Ln true true [w,.val (.int i),.val (.int j)]=wSl (some i) (some j) w:=nr rfl
@[simp] theorem jn{lo hi:Option Int}:wSl lo hi (.val (.tup r))=some (.val (.tup (Lc r lo hi))):=nr rfl
end
structure Bh(A:Wp Nat)(S S':Sto):Prop where
 len:S.length<=S'.length
 keep:∀n,n<S.length->n∉A->S'[n]?=S[n]?
theorem Bh.refl{A:Wp Nat}{S:Sto}:Bh A S S:=⟨qg _,λ_ _ _=>rfl⟩
theorem Bh.trans{A:Wp Nat}{S S' S2:Sto}(h:Bh A S S')(g:Bh A S' S2):Bh A S S2:=⟨qh h.len g.len,λn hn ha=>(g.keep n (qf hn h.len) ha).trans (h.keep n hn ha)⟩
theorem Bh.mono{A B:Wp Nat}{S S':Sto}(h:Bh A S S')(s:∀n∈A,n∈B):Bh B S S':=⟨h.len,λn hn hb=>h.keep n hn λz=>hb (s n z)⟩
theorem Bh.get{A:Wp Nat}{S S':Sto}(h:Bh A S S'){n:Nat}{c:Cl}(e:S[n]?=Gc c)(ha:n∉A):S'[n]?=Gc c:=by
 rw[h.keep n (qe.mp e).1 ha];exact e
theorem Bh.app{A:Wp Nat}{S T:Sto}:Bh A S (S++T):=⟨by simp,λn hn _=>qZ hn⟩
theorem Bh.set{A:Wp Nat}{S:Sto}{n:Nat}{c:Cl}(h:n∈A):Bh A S (S.set n c):=⟨by simp,λm hm ha=>qc (λz=>ha (by rw[<-z];exact h))⟩
theorem Bh.new{A:Wp Nat}{S S' S2:Sto}(h:Bh A S S')(g:Bh (A++B) S' S2)(hb:∀n∈B,S.length<=n):Bh A S S2:=⟨qh h.len g.len,λn hn ha=>(g.keep n (qf hn h.len) (λz=>by
 rcases rC.mp z with z|z
 .exact ha z
 .have:=hb n z;lia)).trans (h.keep n hn ha)⟩
theorem AL{S:Sto}{n:Nat}{c:Cl}(h:S[n]?=Gc c):n<S.length:=(qe.mp h).1
section
variable{E:En}{S:Sto}{f g h k l m:Ev}{cf:rR}{F:Fn}
@[simp high] theorem iK{op:Op1}:Nn cf (o1 op) [f] E S=(f E S).bind λr=>(op (dr r.2 r.1)).bind λw=>fin cf w r.2:=by
  rw[VO,Cq];cases f E S<;>rfl
@[simp high] theorem X0{op:Op2}:Nn cf (o2 op) [f,g] E S=(f E S).bind λr=>(g E r.2).bind λq=>(op (dr q.2 r.1) (dr q.2 q.1)).bind λw=>fin cf w q.2:=by
  rw[VO,Cq]
  cases f E S with
  |none=>rfl
  |some r=>rw[Ab,Ab,Cq];cases g E r.2<;>rfl
theorem nC:evs [f] E S=(f E S).bind λr=>Gc ([r.1],r.2):=by rw[Cq];cases f E S<;>rfl
theorem nH:evs [f,g] E S=(f E S).bind λr=>(g E r.2).bind λq=>Gc ([r.1,q.1],q.2):=by
 rw[Cq];cases f E S with
 |none=>rfl
 |some r=>rw[Ab,Ab,nC];cases g E r.2<;>rfl
theorem mO:evs [f,g,h] E S=(f E S).bind λr=>(g E r.2).bind λq=>(h E q.2).bind λu=>Gc ([r.1,q.1,u.1],u.2):=by
 rw[Cq];cases f E S with
 |none=>rfl
 |some r=>rw[Ab,Ab,nH];cases g E r.2 with
  |none=>rfl
  |some q=>rw[Ab,Ab];cases h E q.2<;>rfl
theorem oS:evs [f,g,h,k] E S=(f E S).bind λr=>(g E r.2).bind λq=>(h E q.2).bind λu=>(k E u.2).bind λv=>Gc ([r.1,q.1,u.1,v.1],v.2):=by
 rw[Cq];cases f E S with
 |none=>rfl
 |some r=>rw[Ab,Ab,mO];cases g E r.2 with
  |none=>rfl
  |some q=>rw[Ab,Ab];cases h E q.2 with
   |none=>rfl
   |some u=>rw[Ab,Ab];cases k E u.2<;>rfl
@[simp high] theorem pL:evs [f] E S=(f E S).bind λr=>some ([r.1],r.2):=nC
@[simp high] theorem pA:evs [f,g] E S=(f E S).bind λr=>(g E r.2).bind λq=>some ([r.1,q.1],q.2):=nH
@[simp high] theorem pX:evs [f,g,h] E S=(f E S).bind λr=>(g E r.2).bind λq=>(h E q.2).bind λu=>some ([r.1,q.1,u.1],u.2):=mO
@[simp high] theorem ni:evs [f,g,h,k] E S=(f E S).bind λr=>(g E r.2).bind λq=>(h E q.2).bind λu=>(k E u.2).bind λv=>some ([r.1,q.1,u.1,v.1],v.2):=oS
@[simp high] theorem qB{d:D}:eV 0 (some d::E) S=some (d,S):=nr rfl
@[simp high] theorem p9{d:D}{o0:Option D}:eV 1 (o0::some d::E) S=some (d,S):=nr rfl
@[simp high] theorem qG{d:D}{o0 o1:Option D}:eV 2 (o0::o1::some d::E) S=some (d,S):=nr rfl
@[simp high] theorem qE{d:D}{o0 o1 o2:Option D}:eV 3 (o0::o1::o2::some d::E) S=some (d,S):=nr rfl
@[simp high] theorem qF{d:D}{o0 o1 o2 o3:Option D}:eV 4 (o0::o1::o2::o3::some d::E) S=some (d,S):=nr rfl
@[simp high] theorem qN{d:D}{o0 o1 o2 o3 o4:Option D}:eV 5 (o0::o1::o2::o3::o4::some d::E) S=some (d,S):=nr rfl
@[simp high] theorem qC{d:D}{o0 o1 o2 o3 o4 o5:Option D}:eV 6 (o0::o1::o2::o3::o4::o5::some d::E) S=some (d,S):=nr rfl
@[simp high] theorem qH{d:D}{o0 o1 o2 o3 o4 o5 o6:Option D}:eV 7 (o0::o1::o2::o3::o4::o5::o6::some d::E) S=some (d,S):=nr rfl
@[simp high] theorem qQ{d:D}{o0 o1 o2 o3 o4 o5 o6 o7:Option D}:eV 8 (o0::o1::o2::o3::o4::o5::o6::o7::some d::E) S=some (d,S):=nr rfl
@[simp high] theorem qI{d:D}{o0 o1 o2 o3 o4 o5 o6 o7 o8:Option D}:eV 9 (o0::o1::o2::o3::o4::o5::o6::o7::o8::some d::E) S=some (d,S):=nr rfl
@[simp high] theorem pI{d:D}{o0 o1 o2 o3 o4 o5 o6 o7 o8 o9:Option D}:eV 10 (o0::o1::o2::o3::o4::o5::o6::o7::o8::o9::some d::E) S=some (d,S):=nr rfl
@[simp high] theorem oQ{d:D}{o0 o1 o2 o3 o4 o5 o6 o7 o8 o9 o10:Option D}:eV 11 (o0::o1::o2::o3::o4::o5::o6::o7::o8::o9::o10::some d::E) S=some (d,S):=nr rfl
@[simp high] theorem nv{d:D}{o0 o1 o2 o3 o4 o5 o6 o7 o8 o9 o10 o11:Option D}:eV 12 (o0::o1::o2::o3::o4::o5::o6::o7::o8::o9::o10::o11::some d::E) S=some (d,S):=nr rfl
@[simp high] theorem oD{d:D}{o0 o1 o2 o3 o4 o5 o6 o7 o8 o9 o10 o11 o12:Option D}:eV 13 (o0::o1::o2::o3::o4::o5::o6::o7::o8::o9::o10::o11::o12::some d::E) S=some (d,S):=nr rfl
@[simp 20000] theorem l7{op:Op2}{d:D}:Nn cf (o2 op) [f,eC d] E S=(f E S).bind λr=>(op (dr r.2 r.1) (dr r.2 d)).bind λw=>fin cf w r.2:=by
  rw[X0];cases f E S<;>rfl
@[simp high] theorem iB{i:Nat}{y:Ex}:AU (BC i f) y E S=(f E S).bind λr=>y (E.set i (some r.1)) r.2:=by
  rw[A6,WT];cases f E S<;>rfl
@[simp high] theorem gk{y:Ex}:AU (Ao f) y E S=(f E S).bind λr=>y E r.2:=by
  rw[A6,Ux];cases f E S<;>rfl
end
section
theorem mulL{i j:Int}(h: -18446744073709551616<i)(g:i<18446744073709551616):Dl i j=true:=by
 unfold Dl
 rw[tS]
 exact .inl (sZ (by lia))
theorem mulR{i j:Int}(h: -18446744073709551616<j)(g:j<18446744073709551616):Dl i j=true:=by
 unfold Dl
 rw[tS,tS]
 exact .inr (.inl (sZ (by lia)))
theorem Eo{n k:Nat}(h:n<2^k)(hk:k<=8000):n<FH:=qf h (tu (by decide) hk)
theorem Dv{n:Int}(h0:0<n)(h1:n<1152921504606846976):n.natAbs<FH:=Eo (k:=60) (show n.natAbs<2^60 by lia) (by decide)
variable{S:Sto}
noncomputable def PU(a b:Int):Int:=((xu a.natAbs b.natAbs:Nat):Int)
theorem K4{c:Ev}{b:Ex}{k:Nat}{E:En}:Gv c b (k+1) E S=(c E S).bind λr=>match r.1 with
 | .bl true=>(b E r.2).bind λp=>match p.1 with
   | .nx=>Gv c b k p.2.1 p.2.2
   | .ret w=>Gc (.ret w,p.2)
 | .bl false=>Gc (.nx,E,r.2)
 |_=>none:=rfl
theorem Qr{c:Ev}{b:Ex}{k:Nat}{E E2:En}{S1 S2:Sto}(e1:c E S=Gc (.bl true,S1))(e2:b E S1=Gc (.nx,E2,S2)):Gv c b (k+1) E S=Gv c b k E2 S2:=by
 rw[K4,e1]
 show(b E S1).bind _=_
 rw[e2]
 rfl
theorem Q4{c:Ev}{b:Ex}{k:Nat}{E:En}{S1:Sto}(e1:c E S=Gc (.bl false,S1)):Gv c b (k+1) E S=Gc (.nx,E,S1):=by
 rw[K4,e1]
 rfl
theorem RZ:∀(k:Nat) (x y:Nat),y<k->Gv (eOp (o2 wNe) [eV 1,eC (.int 0)]) (NO 0 1 (eV 1) (eOp (o2 PM) [eV 0,eV 1])) k [Gc (.int x),Gc (.int y)] S=Gc (.nx,[Gc (.int (xu x y:Nat)),Gc (.int 0)],S)
 |0,x,y,h=>absurd h (Nat.not_lt_zero _)
 |k+1,x,y,h=>by
  by_cases hy:y=0
  .subst hy
   rw[Q4 (S1:=S) (by simp)]
   simp
  .have hy2:(((y:Nat):Int)==0)=false:=by simpa using hy
   have ih:=RZ k y (x % y) (by have:=AAa x (vn hy);lia)
   rw[show((x % y:Nat):Int)=(x:Int) % (y:Int) by lia]at ih
   have hy4:0<y:=vn hy
   rw[Qr (S1:=S) (S2:=S) (E2:=[Gc (.int y),Gc (.int ((x:Int) % (y:Int)))]) (by simp[hy2]) (by simp[hy4]),ih]
   rw[zK x y,Nat.gcd_rec y x,zK]
theorem cP(a b:Int):Bt [.int a,.int b] S=Gc (.int (PU a b),S):=by
 have:=RZ (S:=S) (b.natAbs+2) a.natAbs b.natAbs (by lia)
 simp[Bt,EH,OP,VG,this,PU]
theorem Ko:∀(k:Nat) (x y:Nat),y<k->Gv (eOp (o2 wGt) [eV 1,eC (.int 0)]) (NO 0 1 (eV 1) (eOp (o2 PM) [eV 0,eV 1])) k [Gc (.int x),Gc (.int y)] S=Gc (.nx,[Gc (.int (xu x y:Nat)),Gc (.int 0)],S)
 |0,x,y,h=>absurd h (Nat.not_lt_zero _)
 |k+1,x,y,h=>by
  by_cases hy:y=0
  .subst hy
   rw[Q4 (S1:=S) (by simp)]
   simp
  .have ih:=Ko k y (x % y) (by have:=AAa x (vn hy);lia)
   rw[show((x % y:Nat):Int)=(x:Int) % (y:Int) by lia]at ih
   have hy4:0<y:=vn hy
   rw[Qr (S1:=S) (S2:=S) (E2:=[Gc (.int y),Gc (.int ((x:Int) % (y:Int)))]) (by simp[hy4]) (by simp[hy4]),ih]
   rw[zK x y,Nat.gcd_rec y x,zK]
theorem TN(a b:Int)(ha:0<=a)(hb:0<=b):FG [.int a,.int b] S=Gc (.int (PU a b),S):=by
 have:=Ko (S:=S) (b.natAbs+2) a.natAbs b.natAbs (by lia)
 have e1:((a.natAbs:Nat):Int)=a:=by lia
 have e2:((b.natAbs:Nat):Int)=b:=by lia
 rw[e1,e2]at this
 simp[FG,Jl,OP,VG,this,PU]
noncomputable def lowP(t b:Int):Int×Int:=(t / PU t b,b / PU t b)
theorem Rb{t b:Int}(h:0<b):0<PU t b:=by
 unfold PU
 have:0<xu t.natAbs b.natAbs:=Nat.gcd_pos_of_pos_right _ (by lia)
 lia
theorem TB{t b:Int}(h:0<b):(PU t b).natAbs<=b.natAbs:=by
 unfold PU
 have:xu t.natAbs b.natAbs<=b.natAbs:=Nat.gcd_le_right _ (by lia)
 lia
noncomputable def amD(p:Int×Int):D:=.tup [.int p.1,.int p.2]
theorem UH{t b:Int}(h:0<b)(hb:b.natAbs<FH):Fx [.int t,.int b] S=Gc (amD (lowP t b),S):=by
 have h1:=Rb (t:=t) h
 have h2:(PU t b).natAbs<FH:=tw (TB h) hb
 simp[Fx,MM,cP,h1,h2,amD,lowP]
theorem Xn{t b:Int}:PU (t.natAbs:Int) b=PU t b:=by
 unfold PU
 rw[ua]
theorem Pe{t b:Int}(h:0<b)(hb:b.natAbs<FH):A9 [.int t,.int b] S=Gc (amD (lowP t b),S):=by
 have h1:=Rb (t:=t) h
 have h2:(PU t b).natAbs<FH:=tw (TB h) hb
 have h3:=TN (S:=S) (t.natAbs:Int) b (by lia) (by lia)
 rw[Xn]at h3
 simp[A9,MN,h3,h1,h2,amD,lowP]
noncomputable def aD(q:Rat):D:=.tup [.int q.num,.int q.den]
def Sz(k:Nat)(q:Rat):Prop:=q.num.natAbs<2^k/\q.den<2^k
theorem Dr(q:Rat):(q.num:Rat) / (q.den:Rat)=q:=by
 rw[<-Rat.mkRat_eq_div,Rat.mkRat_self]
theorem IY(q:Rat):(q.den:Rat)≠0:=by
 have:=q.den_nz
 exact_mod_cast this
theorem K7(t:Int)(n:Nat)(h:0<n):((t:Rat) / (n:Rat)).num=t / (xu t.natAbs n:Nat)/\((t:Rat) / (n:Rat)).den=n / xu t.natAbs n:=by
 have e:(t:Rat) / (n:Rat)=mkRat t n:=by rw[Rat.mkRat_eq_div]
 rw[e,Rat.mkRat_def,dif_neg (by lia),Rat.normalize_eq]
 exact⟨rfl,rfl⟩
theorem NT{t b:Int}(h:0<b):amD (lowP t b)=aD ((t:Rat) / (b:Rat)):=by
 obtain⟨n,rfl⟩:∃n:Nat,b=n:=⟨b.natAbs,by lia⟩
 obtain⟨h1,h2⟩:=K7 t n (by lia)
 unfold amD aD lowP PU
 rw[show(((n:Nat):Int):Rat)=((n:Nat):Rat)from rfl,h1,h2]
 simp
theorem LM{t b:Int}{k:Nat}(h:0<b)(ht:t.natAbs<2^k)(hb:b.natAbs<2^k):Sz k ((t:Rat) / (b:Rat)):=by
 obtain⟨n,rfl⟩:∃n:Nat,b=n:=⟨b.natAbs,by lia⟩
 obtain⟨h1,h2⟩:=K7 t n (by lia)
 unfold Sz
 rw[show(((n:Nat):Int):Rat)=((n:Nat):Rat)from rfl,h1,h2]
 exact⟨tw (Int.natAbs_ediv_le_natAbs _ _) ht,tw (Nat.div_le_self _ _) (by simpa using hb)⟩
theorem EV{a b j k:Nat}(ha:a<2^j)(hb:b<2^k):a*b<2^(j+k):=by
 rw[Nat.pow_add]
 exact Nat.mul_lt_mul'' ha hb
theorem GO{i j:Int}{k m:Nat}(hi:i.natAbs<2^k)(hj:j.natAbs<2^m)(h:k<=60000)(g:m<=60000):Dl i j=true:=by
 unfold Dl
 rw[tS,tS,qt]
 exact .inr (.inr ⟨sZ (qf hi (tu (by decide) h)),sZ (qf hj (tu (by decide) g))⟩)
theorem den_pos(q:Rat):0<(q.den:Int):=by have:=q.den_pos;lia
theorem eF{x:Int}{n m:Nat}(h:x.natAbs<2^n)(g:n<=m):x.natAbs<2^m:=qf h (tu (by decide) g)
section
variable{p q:Rat}{j k:Nat}
theorem GB(hp:Sz j p)(hq:Sz k q):(p.num*q.den+q.num*p.den).natAbs<2^(j+k+1)/\((p.den:Int)*q.den).natAbs<2^(j+k)/\(p.num*q.den-q.num*p.den).natAbs<2^(j+k+1):=by
 have a1:=EV hp.1 hq.2
 have a2:=EV hq.1 hp.2
 have a3:=EV hp.2 hq.2
 rw[Nat.add_comm k j]at a2
 have e:2^(j+k+1)=2^(j+k)+2^(j+k):=by rw[Nat.pow_succ];lia
 refine⟨?_,?_,?_⟩
 .refine tw (Int.natAbs_add_le _ _) ?_
  rw[vb,vb,ua,ua,e]
  lia
 .rw[vb,ua,ua];exact a3
 .refine tw (Int.natAbs_sub_le _ _) ?_
  rw[vb,vb,ua,ua,e]
  lia
theorem RB:(((p.num*q.den+q.num*p.den:Int):Rat) / (((p.den:Int)*q.den:Int):Rat))=p+q:=by
 have h1:=Dr p;have h2:=Dr q
 have d1:=IY p;have d2:=IY q
 push_cast
 grind
theorem W3:(((p.num*q.den-q.num*p.den:Int):Rat) / (((p.den:Int)*q.den:Int):Rat))=p-q:=by
 have h1:=Dr p;have h2:=Dr q
 have d1:=IY p;have d2:=IY q
 push_cast
 grind
theorem Ny:(((p.num*q.num:Int):Rat) / (((p.den:Int)*q.den:Int):Rat))=p*q:=by
 have h1:=Dr p;have h2:=Dr q
 have d1:=IY p;have d2:=IY q
 push_cast
 grind
theorem Yh(hp:Sz j p)(hq:Sz k q):Sz (j+k+1) (p+q):=by
 rw[<-RB]
 have:=GB hp hq
 exact LM (uf (den_pos _) (den_pos _)) this.1 (eF this.2.1 (by lia))
theorem cE(hp:Sz j p)(hq:Sz k q):Sz (j+k+1) (p-q):=by
 rw[<-W3]
 have:=GB hp hq
 exact LM (uf (den_pos _) (den_pos _)) this.2.2 (eF this.2.1 (by lia))
theorem LZ(hp:Sz j p)(hq:Sz k q):Sz (j+k) (p*q):=by
 rw[<-Ny]
 have:=GB hp hq
 exact LM (uf (den_pos _) (den_pos _)) (by rw[vb];exact EV hp.1 hq.1) this.2.1
end
section
variable{p q:Rat}{j k:Nat}
theorem Vn(hp:Sz j p)(hq:Sz k q)(hj:j+k<=7990):Dl p.num q.den=true/\Dl q.num p.den=true/\Dl p.den q.den=true/\Dl p.num q.num=true:=by
 refine⟨GO hp.1 (by simpa using hq.2) (by lia) (by lia),GO hq.1 (by simpa using hp.2) (by lia) (by lia),GO (by simpa using hp.2) (by simpa using hq.2) (by lia) (by lia),GO hp.1 hq.1 (by lia) (by lia)⟩
theorem OG(hp:Sz j p)(hq:Sz k q)(hj:j+k<=7990):BX [aD p,aD q] S=Gc ((aD (p+q)),S):=by
 obtain⟨m1,m2,m3,m4⟩:=Vn hp hq (by lia)
 have b:=GB hp hq
 have l:=Pe (S:=S) (t:=p.num*q.den+q.num*p.den) (b:=p.den*q.den) (uf (den_pos _) (den_pos _)) (Eo b.2.1 (by lia))
 rw[NT (uf (den_pos _) (den_pos _)),RB]at l
 simp only[aD]at l⊢
 simp[BX,MS,m1,m2,m3,l]
theorem GY(hp:Sz j p)(hq:Sz k q)(hj:j+k<=7990):AZ [aD p,aD q] S=Gc ((aD (p*q)),S):=by
 obtain⟨m1,m2,m3,m4⟩:=Vn hp hq (by lia)
 have b:=GB hp hq
 have l:=Pe (S:=S) (t:=p.num*q.num) (b:=p.den*q.den) (uf (den_pos _) (den_pos _)) (Eo b.2.1 (by lia))
 rw[NT (uf (den_pos _) (den_pos _)),Ny]at l
 simp only[aD]at l⊢
 simp[AZ,Kh,m3,m4,l]
theorem de:aD (-q)=.tup [.int (0-q.num),.int q.den]:=by
 unfold aD
 rw[show(-q).num=0-q.num by simp,show(-q).den=q.den by simp]
theorem dg(hq:Sz k q):Sz k (-q):=by
 unfold Sz
 rw[show(-q).num= -q.num by simp,show(-q).den=q.den by simp,Int.natAbs_neg]
 exact hq
theorem YR(hp:Sz j p)(hq:Sz k q)(hj:j+k<=7990):C5 [aD p,aD q] S=Gc ((aD (p-q)),S):=by
 have l:=OG (S:=S) hp (dg hq) hj
 rw[de]at l
 rw[Rat.sub_eq_add_neg]
 simp only[aD]at l⊢
 simp at l
 simp[C5,L5,l]
end
theorem aJ{t b:Int}(h:0<b)(hb:b.natAbs<FH):Fx [.int t,.int b] S=Gc ((aD (t / b)),S):=by
 rw[UH h hb,NT h]
theorem Ub{t b:Int}(h:0<b)(hb:b.natAbs<FH):A9 [.int t,.int b] S=Gc ((aD (t / b)),S):=by
 rw[Pe h hb,NT h]
theorem GA{a b:Int}{k:Nat}(ha:a.natAbs<2^k)(hb:b.natAbs<2^k):(a+b).natAbs<2^(k+1):=by
 have e:2^(k+1)=2^k+2^k:=by rw[Nat.pow_succ];lia
 have:=Int.natAbs_add_le a b
 lia
theorem Iz{a b:Int}{j k:Nat}(ha:a.natAbs<2^j)(hb:b.natAbs<2^k):(a*b).natAbs<2^(j+k):=by
 rw[vb];exact EV ha hb
theorem VA{p q:Rat}{w m:Int}(h:0<w+m):((p.num*q.den*w+q.num*p.den*m:Int):Rat) / (((p.den:Int)*q.den*(w+m):Int):Rat)=(p*w+q*m) / (w+m):=by
 have h1:=Dr p;have h2:=Dr q
 have d1:=IY p;have d2:=IY q
 have d3:((w:Rat)+(m:Rat))≠0:=by
  intro e
  have:((w+m:Int):Rat)=0:=by push_cast;exact e
  have:=uh.mp this
  lia
 push_cast
 grind
section
variable{p q:Rat}{w m:Int}{j k n:Nat}
theorem Wl(hp:Sz j p)(hq:Sz k q)(hw:w.natAbs<2^n)(hm:m.natAbs<2^n):(p.num*q.den*w+q.num*p.den*m).natAbs<2^(j+k+n+1)/\((p.den:Int)*q.den*(w+m)).natAbs<2^(j+k+(n+1)):=by
 have d1:((p.den:Int)).natAbs<2^j:=by simpa using hp.2
 have d2:((q.den:Int)).natAbs<2^k:=by simpa using hq.2
 refine⟨GA (Iz (Iz hp.1 d2) hw) ?_,Iz (Iz d1 d2) (GA hw hm)⟩
 have:=Iz (Iz hq.1 d1) hm
 rwa [Nat.add_comm k j]at this
theorem eN(hp:Sz j p)(hq:Sz k q)(hw:w.natAbs<2^n)(hm:m.natAbs<2^n)(h:0<w+m)(hj:j+k+n+1<=7990):HJ [aD p,.int w,aD q,.int m] S=Gc ((aD ((p*w+q*m) / (w+m))),S):=by
 obtain⟨m1,m2,m3,m4⟩:=Vn hp hq (by lia)
 have d1:((p.den:Int)).natAbs<2^j:=by simpa using hp.2
 have d2:((q.den:Int)).natAbs<2^k:=by simpa using hq.2
 have b:=Wl hp hq hw hm
 have m5:Dl (p.num*q.den) w=true:=GO (Iz hp.1 d2) hw (by lia) (by lia)
 have m6:Dl (q.num*p.den) m=true:=GO (Iz hq.1 d1) hm (by lia) (by lia)
 have m7:Dl ((p.den:Int)*q.den) (w+m)=true:=GO (Iz d1 d2) (GA hw hm) (by lia) (by lia)
 have l:=aJ (S:=S) (t:=p.num*q.den*w+q.num*p.den*m) (b:=p.den*q.den*(w+m)) (uf (uf (den_pos _) (den_pos _)) h) (Eo b.2 (by lia))
 rw[VA h]at l
 simp only[aD]at l⊢
 simp[HJ,OI,m1,m2,m3,m5,m6,m7,l]
end
end
section
variable{S:Sto}{p:Nat}
theorem Ym{r:Wp D}(h:p<S.length):dr (S.set p (.lst r)) (.ref p)=.own r:=AW (qo h)
def Pen(ds:Wp D):Prop:=∃a b c d:Int,ds=[.int a,.int b,.int c,.int d]/\0<=d/\d<1000000007
def B9(p:Nat)(S:Sto):Prop:=∃ds,S[p]?=Gc (.lst ds)/\Pen ds
structure Pn(p:Nat)(S S':Sto):Prop where
 same:Bh [p] S S'
 pen:B9 p S'
theorem Pn.trans{S S' S2:Sto}(h:Pn p S S')(g:Pn p S' S2):Pn p S S2:=⟨h.same.trans g.same,g.pen⟩
theorem Pn.get{S S':Sto}(h:Pn p S S'){n:Nat}{c:Cl}(e:S[n]?=Gc c)(ha:n≠p):S'[n]?=Gc c:=h.same.get e (by simpa using ha)
theorem Pn.refl(h:B9 p S):Pn p S S:=⟨.refl,h⟩
theorem B9.lt(h:B9 p S):p<S.length:=by obtain⟨ds,e,_⟩:=h;exact AL e
theorem B9.app(h:B9 p S)(T:Sto):B9 p (S++T):=by obtain⟨ds,e,hp⟩:=h;exact⟨ds,by rw[qZ (AL e)];exact e,hp⟩
theorem Ah(h:B9 p S){n:Int}(h0:0<n)(h1:n<1152921504606846976):∃r S',AD [.ref p,.int n] S=Gc (.int r,S')/\0<=r/\r<n/\Pn p S S':=by
 obtain⟨ds,hp,a,b,c,d,rfl,hd0,hd1⟩:=h
 have hl:=AL hp
 have hs:=Dv h0 h1
 have hr:=AW hp
 have hc:=AJ hp
 by_cases hb:b=1/\0<a
 .obtain⟨rfl,ha⟩:=hb
  refine⟨a % n,S.set p (.lst [.int (a / n),.int 1,.int c,.int d]),?_,vL _ (by lia),vo _ h0,.set (by simp),_,qo hl,_,_,_,_,rfl,hd0,hd1⟩
  simp[AD,Hf,ha,h0,hs,hr,hc]
 .have m1:Dl (d+17) (69621+2*(c+1))=true:=mulL (by lia) (by lia)
  have m2:Dl 2 (c+1)=true:=mulL (by decide) (by decide)
  generalize ht:(d+17)*(69621+2*(c+1)) % 2147483647=t at*
  have t0:0<=t:=by rw[<-ht];exact vL _ (by decide)
  have t1:t<2147483647:=by rw[<-ht];exact vo _ (by decide)
  have m3:Dl t t=true:=mulL (by lia) (by lia)
  have m4:Dl 40503 (c+1)=true:=mulL (by decide) (by decide)
  generalize hu:(t*t+40503*(c+1)+5) % 2147483629=u at*
  have u0:0<=u:=by rw[<-hu];exact vL _ (by decide)
  have u1:u<2147483629:=by rw[<-hu];exact vo _ (by decide)
  have m5:Dl u 48271=true:=mulL (by lia) (by lia)
  have d32:(32:Int).natAbs<FH:=Dv (by decide) (by decide)
  have d32':(32:Nat)<FH:=d32
  refine⟨u*48271 % 2147483647 / 32 % n,S.set p (.lst [.int a,.int b,.int (c+1),.int d]),?_,vL _ (by lia),vo _ h0,.set (by simp),_,qo hl,_,_,_,_,rfl,hd0,hd1⟩
  by_cases hb1:b=1
  .subst hb1
   have ha:¬0<a:=λz=>hb ⟨rfl,z⟩
   simp[AD,Hf,ha,h0,hs,hr,hc,Ym,hl,m1,m2,m3,m4,m5,ht,hu,d32']
  .have hb2:(b==1)=false:=by simpa using hb1
   simp[AD,Hf,hb2,h0,hs,hr,hc,Ym,hl,m1,m2,m3,m4,m5,ht,hu,d32']
theorem fe(c:Int):∃p S',G5 [.int c] S=Gc (.ref p,S')/\B9 p S'/\Bh [] S S'/\S.length<=p:=by
 refine⟨S.length,S++[.lst [.int c,.int (if(10:Int)^18<=c then 1 else 0),.int 0,.int (c % 1000000007)]],?_,⟨_,qm,_,_,_,_,rfl,vL _ (by decide),vo _ (by decide)⟩,.app,qg _⟩
 simp[G5,Og]
theorem F2{gs:Gd}{t:Tf}{c f:Ev}{acc:Wp D}{E:En}(h:gOk gs S):Bs gs t c f [] acc E S=Gc (acc,S):=by
 unfold Bs
 rw[q9 h]
theorem MK {gs : Gd} {t : Tf} {c f : Ev} {d : D} {ds acc : Wp D} {E : En} (h : gOk gs S) (hz : acc.length < sizeLine) : Bs gs t c f (d :: ds) acc E S = (t d E S).bind fun E1 => (c E1 S).bind fun r => match r.1 with
      | .bl true => (f E1 r.2).bind fun p => Bs gs t c f ds (acc ++ [p.1]) E1 p.2
      | .bl false => Bs gs t c f ds acc E1 r.2
      | _ => none := by
  rw [Bs, q9 h, q9 hz]
  all_goals rfl
theorem JW{gs:Gd}{t:Tf}{c f:Ev}{d:D}{ds acc:Wp D}{E E1:En}{S1:Sto}(h:gOk gs S)(hz:acc.length<sizeLine)(e1:t d E S=Gc E1)(e2:c E1 S=Gc (.bl true,S1)):Bs gs t c f (d::ds) acc E S=(f E1 S1).bind λp=>Bs gs t c f ds (acc++[p.1]) E1 p.2:=by
 rw[MK h hz,e1]
 show(c E1 S).bind _=_
 rw[e2]
 rfl
theorem IH{gs:Gd}{t:Tf}{c f:Ev}{d:D}{ds acc:Wp D}{E E1:En}{S1:Sto}(h:gOk gs S)(hz:acc.length<sizeLine)(e1:t d E S=Gc E1)(e2:c E1 S=Gc (.bl false,S1)):Bs gs t c f (d::ds) acc E S=Bs gs t c f ds acc E1 S1:=by
 rw[MK h hz,e1]
 show(c E1 S).bind _=_
 rw[e2]
 rfl
theorem Mu{gs:Gd}{t:Tf}{f:Ev}{C:En}{m:Nat}{I:Sto->Prop}{R:D->D->Prop}(hg:∀S,I S->gOk gs S):∀{ds acc:Wp D} {os:En} {S:Sto},os.length=m->I S->acc.length+ds.length<=sizeLine->(∀d∈ds,∀os S,os.length=m->I S->∃us y S',us.length=m/\t d (C++os) S=Gc (C++us)/\f (C++us) S=Gc (y,S')/\I S'/\R d y)->∃ys S',Bs gs t By f ds acc (C++os) S=Gc (acc++ys,S')/\I S'/\ys.length=ds.length/\Paired R ds ys
 | [],acc,os,S,ho,hI,hz,h=>⟨[],S,by rw[F2 (hg S hI)];simp,hI,rfl,.nil⟩
 |d::ds,acc,os,S,ho,hI,hz,h=>by
  obtain⟨us,y,S1,hu,e1,e2,I1,r1⟩:=h d qp os S ho hI
  obtain⟨ys,S2,e3,I2,l2,r2⟩:=Mu hg (ds:=ds) (acc:=acc++[y]) (os:=us) (S:=S1) hu I1 (by simp at hz ⊢; lia) λd' hd=>h d' (qi _ hd)
  refine⟨y::ys,S2,?_,I2,by simp[l2],.cons r1 r2⟩
  rw[JW (hg S hI) (by simp at hz;lia) e1 Iw,e2,Ab,e3]
  simp
theorem comp_map{gs:Gd}{t:Tf}{f:Ev}{C:En}{m:Nat}{g:D->D}{S:Sto}(hg:gOk gs S):∀{ds acc:Wp D} {os:En},os.length=m->acc.length+ds.length<=sizeLine->(∀d∈ds,∀os,os.length=m->∃us,us.length=m/\t d (C++os) S=Gc (C++us)/\f (C++us) S=Gc (g d,S))->Bs gs t By f ds acc (C++os) S=Gc (acc++ds.map g,S)
 | [],acc,os,ho,hz,h=>by rw[F2 hg];simp
 |d::ds,acc,os,ho,hz,h=>by
  obtain⟨us,hu,e1,e2⟩:=h d qp os ho
  rw[JW hg (by simp at hz;lia) e1 Iw,e2,Ab]
  rw[comp_map hg hu (by simp at hz ⊢; lia) λd' hd=>h d' (qi _ hd)]
  simp
theorem Ed{gs:Gd}{t:Tf}{b:Ex}{I:Wp D->En->Sto->Prop}(hg:∀ds E S,I ds E S->gOk gs S):∀{ds:Wp D} {E:En} {S:Sto},I ds E S->(∀d ds E S,I (d::ds) E S->∃E1 E2 S2,t d E S=Gc E1/\b E1 S=Gc (.nx,E2,S2)/\I ds E2 S2)->∃E' S',KJ gs t b ds E S=Gc (.nx,E',S')/\I [] E' S'
 | [],E,S,hI,h=>⟨E,S,GQ (hg _ _ _ hI),hI⟩
 |d::ds,E,S,hI,h=>by
  obtain⟨E1,E2,S2,e1,e2,I2⟩:=h d ds E S hI
  obtain⟨E',S',e3,I3⟩:=Ed hg I2 h
  exact⟨E',S',by rw[Dk (hg _ _ _ hI),e1];simp[e2,e3],I3⟩
theorem pick{xs:Wp D}{r:Int}(h0:0<=r)(h1:r<xs.length):∃x,atI xs r=Gc x/\x∈xs:=⟨_,X9 h0 h1,uE _⟩
theorem JX{α β:Type}{P:β->Prop}:∀{xs:Wp α} {ys:Wp β},Paired (λ_ y=>P y) xs ys->∀y∈ys,P y
 |_,_,.nil,y,h=>by cases h
 |_,_,.cons r t,y,h=>by
  rcases qj.mp h with h|h
  .rw[h];exact r
  .exact JX t y h
theorem GH{lo:Int}{n:Nat}:(Ka lo n).length=n:=by simp[Ka]
end
def Ok(G B:Nat)(r:Rat):Prop:=∃z:Nat,r*(G:Rat)=(z:Rat)/\z<=B
theorem L9{n:Nat}(h:0<n):(n:Rat)≠0:=by
 have:n≠0:=by lia
 exact_mod_cast this
theorem Ok.sz{G B k:Nat}{r:Rat}(h:Ok G B r)(hG:0<G)(g:G<2^k)(b:B<2^k):Sz k r:=by
 obtain⟨z,e,hz⟩:=h
 have e2:r=((z:Int):Rat) / ((G:Int):Rat):=by
  have:=L9 hG
  rw[show(((z:Nat):Int):Rat)=(z:Rat)from rfl,show(((G:Nat):Int):Rat)=(G:Rat)from rfl,<-e]
  grind
 rw[e2]
 exact LM (by lia) (by simpa using tw hz b) (by simpa using g)
theorem Ok.up{G B t B':Nat}{r:Rat}(h:Ok G B r)(hB:B*t<=B'):Ok (G*t) B' r:=by
 obtain⟨z,e,hz⟩:=h
 refine⟨z*t,?_,qh (t8 t hz) hB⟩
 push_cast
 rw[<-e]
 grind
theorem Ok.zero{G B:Nat}:Ok G B 0:=⟨0,by simp,sf _⟩
theorem Ok.one{G B:Nat}(h:G<=B):Ok G B 1:=⟨G,by simp,h⟩
theorem Ok.mix{G B a b t:Nat}{r o:Rat}(hr:Ok G B r)(ho:Ok G B o)(ht:a+b=t)(h0:0<t):Ok (G*t) (B*t) ((r*(a:Rat)+o*(b:Rat)) / (t:Rat)):=by
 obtain⟨z,e1,h1⟩:=hr
 obtain⟨y,e2,h2⟩:=ho
 refine⟨z*a+y*b,?_,?_⟩
 .have:=L9 h0
  push_cast
  rw[<-e1,<-e2]
  grind
 .rw[<-ht,Nat.mul_add]
  exact Nat.add_le_add (t8 a h1) (t8 b h2)
structure Tr where
 p:Nat
 k:Nat
 b:Nat
 ho:Wp Rat
 h:Int
 l:Int
structure Ld where
 k:Nat
 n:Int
 ow:Wp Rat
structure Stt where
 AA:Wp Ld
 hold:Wp Rat
 nums:Wp Int
inductive AO where
 |DV (p k:Nat) (n:Int)
 |DR (a b:Nat)
 |swap (l:Nat) (g:Int) (k:Nat) (n:Int)
 |C8 (t:Int) (l:Nat) (g:Int) (k:Nat) (n:Int)
 |FA (l:Nat) (n:Int)
 |thr (l:Nat) (n:Int) (ws:Wp Int)
 |JC (p q:Nat) (s:Rat)
noncomputable def shD(rs:Wp Rat):D:=.tup (rs.map aD)
noncomputable def Tr.d(t:Tr):D:=.tup [.int t.p,.int t.k,.int t.b,shD t.ho,.int t.h,.int t.l]
noncomputable def Ld.d(l:Ld):D:=.tup [.int l.k,.int l.n,shD l.ow]
noncomputable def AO.d:AO->D
 | .DV p k n=>.tup [.str "bring",.int p,.int k,.int n]
 | .DR a b=>.tup [.str "pool",.int a,.int b]
 | .swap l g k n=>.tup [.str "swap",.int l,.int g,.int k,.int n]
 | .C8 t l g k n=>.tup [.str "trade",.int t,.int l,.int g,.int k,.int n]
 | .FA l n=>.tup [.str "spoil",.int l,.int n]
 | .thr l n ws=>.tup [.str "throw",.int l,.int n,.tup (ws.map .int)]
 | .JC p q s=>.tup [.str "sell",.int p,.int q,aD s]
noncomputable def Im(x:Rat)(os ss:Wp Rat):Wp Rat:=xC (λs o=>s*(1-x)+o*x) ss os
noncomputable def G9(p q:Nat)(s:Rat)(ss:Wp Rat):Wp Rat:=(ss.set p (ss.getD p 0-ss.getD p 0*s)).set q (ss.getD q 0+ss.getD p 0*s)
noncomputable def Aq(n m:Int)(ss os:Wp Rat):Wp Rat:=xC (λs o=>(s*n+o*m) / (n+m:Int)) ss os
noncomputable def Ep(t:Tr)(ls:Wp Ld)(ws:Wp Int):Int:=(ls.map λl=>l.n*ws.getD l.k 0).sum+t.b*ws.getD t.k 0
noncomputable def Lf(t:Tr)(ls:Wp Ld)(l:Nat)(n:Int)(ws:Wp Int):Rat:=((n*ws.getD ((ls[l]?.map (·.k)).getD 0) 0:Int):Rat) / (Ep t ls ws:Rat)
noncomputable def AH(ls:Wp Ld)(l:Nat):Ld:=ls.getD l ⟨0,0,[]⟩
noncomputable def less(ls:Wp Ld)(l:Nat)(n:Int):Wp Ld:=ls.set l {AH ls l with n:=(AH ls l).n-n}
noncomputable def JV(p i:Nat):Wp Rat:=(rO p).map λj=>if j=i then 1 else 0
noncomputable def step(t:Tr)(s:Stt):AO->Stt
 | .DV p k n=>{s with AA:=s.AA++[⟨k,n,JV t.p p⟩]}
 | .DR a b=>{s with AA:=less (less s.AA a (AH s.AA a).n) b (AH s.AA b).n++[⟨(AH s.AA a).k,(AH s.AA a).n+(AH s.AA b).n,Aq (AH s.AA a).n (AH s.AA b).n (AH s.AA a).ow (AH s.AA b).ow⟩]}
 | .swap l g k n=>{s with AA:=less s.AA l g++[⟨k,n,(AH s.AA l).ow⟩]}
 | .C8 u l g k n=>{s with AA:=less s.AA l g++[⟨k,n,(AH s.AA l).ow⟩],nums:=s.nums++[u]}
 | .FA l n=>{s with AA:=less s.AA l n}
 | .thr l n ws=>{s with AA:=(less s.AA l n).map λx=>{x with ow:=Im (Lf t s.AA l n ws) (AH s.AA l).ow x.ow},hold:=Im (Lf t s.AA l n ws) (AH s.AA l).ow s.hold}
 | .JC p q x=>{s with AA:=s.AA.map λy=>{y with ow:=G9 p q x y.ow},hold:=G9 p q x s.hold}
def Jg(t:Tr):Prop:=1<=t.p/\t.p<=4/\1<=t.k/\t.k<=5/\1<=t.b/\t.b<=20
def Can(t:Tr)(s:Stt):AO->Prop
 | .DV p k n=>p<t.p/\k<t.k/\1<=n/\n<2^131
 | .DR a b=>a≠b/\a<s.AA.length/\b<s.AA.length/\0<(AH s.AA a).n/\0<(AH s.AA b).n/\(AH s.AA a).k=(AH s.AA b).k
 | .swap l g k n=>l<s.AA.length/\1<=g/\g<=(AH s.AA l).n/\k<t.k/\k≠(AH s.AA l).k/\1<=n/\n<2^131
 | .C8 u l g k n=>l<s.AA.length/\1<=g/\g<=(AH s.AA l).n/\k<t.k/\k≠(AH s.AA l).k/\1<=n/\n<2^131/\u∉s.nums/\0<=u/\u<=9
 | .FA l n=>l<s.AA.length/\1<=n/\n<=(AH s.AA l).n
 | .thr l n ws=>l<s.AA.length/\1<=n/\n<=(AH s.AA l).n/\ws.length=t.k+1/\∀w∈ws,1<=w/\w<=99
 | .JC p q x=>p≠q/\p<t.p/\q<t.p/\0<x.num/\x.num<=x.den/\x.den<=12
structure CQ(t:Tr)(k:Nat)(s:Stt):Prop where
 len:s.AA.length<=4+k
 kind:∀l∈s.AA,l.k<t.k
 pcs:∀l∈s.AA,0<=l.n/\l.n<2^(131+k)
 own:∀l∈s.AA,l.ow.length=t.p
 hold:s.hold.length=t.p
 nm:s.nums.length<=k
 gb:∃G B:Nat,0<G/\G<=B/\B<2^(30+170*k)/\(∀l∈s.AA,∀r∈l.ow,Ok G B r)/\∀r∈s.hold,Ok G B r
theorem CQ.sz{t:Tr}{k:Nat}{s:Stt}(h:CQ t k s):(∀l∈s.AA,∀r∈l.ow,Sz (30+170*k) r)/\∀r∈s.hold,Sz (30+170*k) r:=by
 obtain⟨G,B,g0,gb,b,h1,h2⟩:=h.gb
 exact⟨λl hl r hr=>(h1 l hl r hr).sz g0 (tw gb b) b,λr hr=>(h2 r hr).sz g0 (tw gb b) b⟩
theorem AQ{ls:Wp Ld}{l:Nat}(h:l<ls.length):AH ls l∈ls:=by
 unfold AH
 rw[qV,qW h]
 exact uE h
theorem Ct{ls:Wp Ld}{l:Nat}(h:l<ls.length):ls[l]?=Gc (AH ls l):=by
 unfold AH
 rw[qV,qW h]
 rfl
theorem JA{ls:Wp Ld}{l:Nat}{n:Int}{x:Ld}(h:x∈less ls l n)(hl:l<ls.length):x∈ls\/x={AH ls l with n:=(AH ls l).n-n}:=by
 unfold less at h
 rcases vH h with h|h
 .exact .inl h
 .exact .inr h
theorem AV{ls:Wp Ld}{l:Nat}{n:Int}:(less ls l n).length=ls.length:=by simp[less]
section
variable{S:Sto}{p:Nat}
theorem P5{P:Int->Prop}:∀{ys:Wp D},(∀y∈ys,∃i:Int,y=.int i/\P i)->∃ns:Wp Int,ys=ns.map D.int/\∀n∈ns,P n
 | [],_=>⟨[],rfl,λn h=>by cases h⟩
 |y::ys,h=>by
  obtain⟨i,rfl,hi⟩:=h y qp
  obtain⟨ns,rfl,hn⟩:=P5 (P:=P) (ys:=ys) λz hz=>h z (qi _ hz)
  exact⟨i::ns,rfl,λn hn'=>by
   rcases qj.mp hn' with e|e
   .rw[e];exact hi
   .exact hn n e⟩
theorem Om{ns:Wp Int}(h:∀n∈ns,0<=n/\n<=8):0<=ns.sum/\ns.sum<=8*ns.length/\∀n∈ns,n<=ns.sum:=by
 induction ns with
 |nil=>simp
 |cons a l ih=>
  have h1:=h a qp
  obtain⟨i1,i2,i3⟩:=ih λn hn=>h n (qi _ hn)
  rw[tK,rV]
  refine⟨by lia,by push_cast;lia,λn hn=>?_⟩
  rcases qj.mp hn with e|e
  .lia
  .have:=i3 n e;lia
theorem SJ (h : B9 p S) {n : Nat} (hn : n ≤ 20) : ∃ (ns : Wp Int) (S' : Sto), Bs [] (tNm 1) By (eOp (o2 wIx) [(FD [(eC (.int 0)), (eC (.int 1)), (AE AD [(eV 0), (eC (.int 4))]), (AE AD [(eV 0), (eC (.int 9))])]), (AE AD [(eV 0), (eC (.int 4))])]) (Ka 0 n) [] [Gc (.ref p), none] S = Gc (ns.map D.int, S') /\ Pn p S S' /\ ns.length = n /\ ∀ i ∈ ns, 0 ≤ i /\ i ≤ 8 := by
  obtain ⟨ys, S', e, hI, l, r⟩ := Mu (gs := []) (t := tNm 1) (f := eOp (o2 wIx) [(FD [(eC (.int 0)), (eC (.int 1)), (AE AD [(eV 0), (eC (.int 4))]), (AE AD [(eV 0), (eC (.int 9))])]), (AE AD [(eV 0), (eC (.int 4))])]) (C := [Gc (.ref p)]) (m := 1) (I := Pn p S) (R := fun _ y => ∃ i : Int, y = .int i /\ 0 ≤ i /\ i ≤ 8)
    (fun _ _ => Aa) (ds := Ka 0 n) (acc := []) (os := [none]) rfl (Pn.refl h) (by rw [GH]; simp; exact AI (by lia)) fun d _ os S0 ho I0 => by
      obtain ⟨o, rfl⟩ := V9 ho
      obtain ⟨r1, S1, e1, a1, b1, p1⟩ := Ah I0.pen (n := 4) (by decide) (by decide)
      obtain ⟨r2, S2, e2, a2, b2, p2⟩ := Ah p1.pen (n := 9) (by decide) (by decide)
      obtain ⟨r3, S3, e3, a3, b3, p3⟩ := Ah p2.pen (n := 4) (by decide) (by decide)
      obtain ⟨x, ex, hx⟩ := pick (xs := [.int 0, .int 1, .int r1, .int r2]) (r := r3) a3 (by simpa using b3)
      refine ⟨[Gc d], x, S3, rfl, by simp, by simp [e1, e2, e3, ex], ((I0.trans p1).trans p2).trans p3, ?_⟩
      simp only [qj, rH, tm] at hx
      rcases hx with rfl | rfl | rfl | rfl
      · exact ⟨0, rfl, by decide, by decide⟩
      · exact ⟨1, rfl, by decide, by decide⟩
      · exact ⟨r1, rfl, by lia, by lia⟩
      · exact ⟨r2, rfl, by lia, by lia⟩
  obtain ⟨ns, rfl, hns⟩ := P5 (JX r)
  exact ⟨ns, S', by simpa using e, hI, by simpa [GH] using l, hns⟩
noncomputable def Hr(ns:Wp Int):Wp Rat:=ns.map λ(n:Int)=>(n:Rat) / (ns.sum:Rat)
theorem LS{ns:Wp Int}(h:∀n∈ns,0<=n/\n<=8)(hs:0<ns.sum):∀r∈Hr ns,Ok ns.sum.toNat ns.sum.toNat r:=by
 intro r hr
 obtain⟨n,hn,rfl⟩:=rW.mp hr
 have h1:=h n hn
 have h2:=(Om h).2.2 n hn
 refine⟨n.toNat,?_,by lia⟩
 have e1:((ns.sum.toNat:Nat):Rat)=(ns.sum:Rat):=by
  have:((ns.sum.toNat:Nat):Int)=ns.sum:=by lia
  exact congrArg (λz:Int=>(z:Rat)) this
 have e2:((n.toNat:Nat):Rat)=(n:Rat):=by
  have:((n.toNat:Nat):Int)=n:=by lia
  exact congrArg (λz:Int=>(z:Rat)) this
 rw[e1,e2]
 have:(ns.sum:Rat)≠0:=by
  intro z
  have:=uh.mp z
  lia
 grind
theorem Uc{s:Rat}:∀{ns:Wp Int},(ns.map λ(n:Int)=>(n:Rat) / s).sum=(ns.sum:Rat) / s
 | []=>by simp;grind
 |n::ns=>by
  rw[rD,tK,tK,Uc (ns:=ns)]
  push_cast
  grind
theorem Oe{ns:Wp Int}(hs:0<ns.sum):(Hr ns).sum=1:=by
 unfold Hr
 rw[Uc]
 have:(ns.sum:Rat)≠0:=by
  intro z
  have:=uh.mp z
  lia
 grind
theorem Qw{ns:Wp Int}{q:Nat}(hq:S[q]?=Gc (.lst (ns.map D.int)))(hl:ns.length<=20)(hn:∀n∈ns,0<=n/\n<=8)(hs:0<ns.sum):Bs [(q,ns.map D.int)] (tNm 1) By (AE A9 [eV 1,eOp (o1 Sw) [eV 0]]) (ns.map D.int) [] [Gc (.ref q),none] S=Gc ((Hr ns).map aD,S):=by
 obtain⟨s1,s2,s3⟩:=Om hn
 have:=comp_map (gs:=[(q,ns.map D.int)]) (t:=tNm 1) (f:=AE A9 [eV 1,eOp (o1 Sw) [eV 0]]) (C:=[Gc (.ref q)]) (m:=1) (g:=λd=>match d with| .int n=>aD ((n:Rat) / (ns.sum:Rat))|d=>d) (S:=S) (λg hg=>by rw[q8.mp hg];exact AJ hq) (ds:=ns.map D.int) (acc:=[]) (os:=[none]) rfl (by simp;exact AI (by lia)) λd hd os ho=>by
  obtain⟨o,rfl⟩:=V9 ho
  obtain⟨i,hi,rfl⟩:=rW.mp hd
  have m:=Ub (S:=S) (t:=i) hs (Dv (by lia) (by lia))
  exact⟨[Gc (.int i)],rfl,by simp,by simp[AW hq,D3,m]⟩
 have e2:(ns.map D.int).map (λd=>match d with| .int n=>aD ((n:Rat) / (ns.sum:Rat))|d=>d)=(Hr ns).map aD:=by
  unfold Hr
  rw[r9,r9]
  rfl
 rw[e2]at this
 simpa using this
theorem RC(h:B9 p S){n:Nat}(h1:1<=n)(h2:n<=4):∃rs S',C1 [.ref p,.int n] S=Gc (shD rs,S')/\Pn p S S'/\(rs.length=n/\rs.sum=1)/\∃G:Nat,0<G/\G<=32/\∀r∈rs,Ok G G r:=by
 obtain⟨ns,S1,e1,p1,l1,i1⟩:=SJ (n:=n) h (by lia)
 obtain⟨s1,s2,s3⟩:=Om i1
 have hq:(S1++[Cl.lst (ns.map D.int)])[S1.length]?=Gc (.lst (ns.map D.int)):=qm
 have pp:B9 p (S1++[Cl.lst (ns.map D.int)]):=p1.pen.app _
 have hlt:=p1.pen.lt
 have r1:IJ (n:Int)=true:=DQ (by lia) (by lia)
 by_cases hz:ns.sum=0
 .obtain⟨r,S2,e2,a2,b2,p2⟩:=Ah pp (n:=n) (by lia) (by lia)
  have hq2:S2[S1.length]?=Gc (.lst (ns.map D.int)):=p2.get hq (by lia)
  have hn':∀x∈ns.set r.toNat 1,0<=x/\x<=8:=λx hx=>by
   rcases vH hx with hx|rfl
   .exact i1 x hx
   .exact⟨by decide,by decide⟩
  have hs':0<(ns.set r.toNat 1).sum:=by
   have:=(Om hn').2.2 1 (List.mem_set (by lia) 1)
   lia
  have hq3:(S2.set S1.length (.lst ((ns.set r.toNat 1).map D.int)))[S1.length]?=Gc (.lst ((ns.set r.toNat 1).map D.int)):=qo (AL hq2)
  have e3:=Qw hq3 (by simp;lia) hn' hs'
  have ix:ixN ns.length r=Gc r.toNat:=Rh a2 (by lia)
  refine⟨Hr (ns.set r.toNat 1),S2.set S1.length (.lst ((ns.set r.toNat 1).map D.int)),?_,⟨?_,?_⟩,⟨by simp[Hr,l1],Oe hs'⟩,_,(show 0<(ns.set r.toNat 1).sum.toNat by lia),?_,LS hn' hs'⟩
  .have sq3:=EE hq3
   rw[xD]at e3 sq3 hq3
   simp[C1,IB,r1,e1,AW hq,D3,hz,e2,AJ hq2,ix,sq3,e3,shD]
  .have g:Bh [p] S (S1++[Cl.lst (ns.map D.int)]):=p1.same.trans .app
   refine⟨qh (g.trans p2.same).len (by simp),λm hm hmp=>?_⟩
   rw[qc (by have:=p1.same.len;lia)]
   exact(g.trans p2.same).keep m hm hmp
  .obtain⟨ds,ed,hd⟩:=p2.pen
   exact⟨ds,by rw[qc (by lia)];exact ed,hd⟩
  .have:=(Om hn').2.1
   rw[uS]at this
   lia
 .have hz':(ns.sum==0)=false:=by simpa using hz
  have e3:=Qw hq (by lia) i1 (by lia)
  refine⟨Hr ns,S1++[Cl.lst (ns.map D.int)],?_,⟨p1.same.trans .app,pp⟩,⟨by simp[Hr,l1],Oe (by lia)⟩,_,(show 0<ns.sum.toNat by lia),by lia,LS i1 (by lia)⟩
  have sq3:=EE hq
  simp[C1,IB,r1,e1,AW hq,D3,hz',sq3,e3,shD]
end
section
variable{S:Sto}{p:Nat}
theorem aU:(2:Nat)<FH:=Dv (n:=2) (by decide) (by decide)
theorem ME(h:B9 p S):∃n S',Aw [.ref p] S=Gc (.int n,S')/\Pn p S S'/\1<=n/\n<2^130:=by
 obtain⟨r1,S1,e1,a1,b1,p1⟩:=Ah h (n:=99) (by decide) (by decide)
 obtain⟨r2,S2,e2,a2,b2,p2⟩:=Ah p1.pen (n:=4) (by decide) (by decide)
 obtain⟨r3,S3,e3,a3,b3,p3⟩:=Ah p2.pen (n:=40) (by decide) (by decide)
 obtain⟨r4,S4,e4,a4,b4,p4⟩:=Ah p3.pen (n:=999) (by decide) (by decide)
 obtain⟨r5,S5,e5,a5,b5,p5⟩:=Ah p4.pen (n:=7) (by decide) (by decide)
 have pp:=(((p1.trans p2).trans p3).trans p4).trans p5
 have d2:=aU
 have go:∀g:Int,1<=g->g<2^130->∃n:Int,atI [D.int (1+r2),.int (1+r3),.int (1+r4),.int g] (r5 / 2)=Gc (.int n)/\1<=n/\n<2^130:=λg g1 g2=>by
  obtain⟨x,ex,hx⟩:=pick (xs:=[D.int (1+r2),.int (1+r3),.int (1+r4),.int g]) (r:=r5 / 2) (by lia) (by simp;lia)
  simp only[qj,rH,tm]at hx
  rcases hx with rfl|rfl|rfl|rfl
  .exact⟨_,ex,by lia,by lia⟩
  .exact⟨_,ex,by lia,by lia⟩
  .exact⟨_,ex,by lia,by lia⟩
  .exact⟨_,ex,g1,g2⟩
 first
  |(obtain⟨n,en,n1,n2⟩:=go (10^39+r1) (by lia) (by lia)
    exact⟨n,S5,by simp[Aw,HQ,e1,e2,e3,e4,e5,d2]at en ⊢; simp[en],pp,n1,n2⟩)
  |(obtain⟨n,en,n1,n2⟩:=go (10^30+r1) (by lia) (by lia)
    exact⟨n,S5,by simp[Aw,HQ,e1,e2,e3,e4,e5,d2]at en ⊢; simp[en],pp,n1,n2⟩)
theorem La(h:B9 p S):∃n S',Aw [.ref p] S=Gc (.int n,S')/\Pn p S S'/\1<=n/\n<2^131:=by
 obtain⟨n,S',a,b,c,d⟩:=ME h
 exact⟨n,S',a,b,c,Int.lt_trans d (by decide)⟩
theorem FY{r:Int}(h:0<=r):∃m:Nat,r=m:=⟨r.toNat,by lia⟩
def lW(t:Tr):Prop:=0<=t.h/\t.h<=9/\0<=t.l/\t.l<=9
theorem Tw(h:B9 p S):∃t S',GV [.ref p] S=Gc (Tr.d t,S')/\Pn p S S'/\Jg t/\((t.ho.length=t.p/\t.ho.sum=1)/\lW t)/\∃G:Nat,0<G/\G<=32/\∀r∈t.ho,Ok G G r:=by
 obtain⟨r1,S1,e1,a1,b1,p1⟩:=Ah h (n:=4) (by decide) (by decide)
 obtain⟨r2,S2,e2,a2,b2,p2⟩:=Ah p1.pen (n:=5) (by decide) (by decide)
 obtain⟨r3,S3,e3,a3,b3,p3⟩:=Ah p2.pen (n:=3) (by decide) (by decide)
 obtain⟨r4,S4,e4,a4,b4,p4⟩:=Ah p3.pen (n:=20) (by decide) (by decide)
 obtain⟨r5,S5,e5,a5,b5,p5⟩:=Ah p4.pen (n:=2) (by decide) (by decide)
 obtain⟨m1,rfl⟩:=FY a1
 obtain⟨m2,rfl⟩:=FY a2
 obtain⟨b,eb,hb1,hb2⟩:∃b:Nat,atI [D.int (1+r3),.int (1+r4)] r5=Gc (.int b)/\1<=b/\b<=20:=by
  obtain⟨x,ex,hx⟩:=pick (xs:=[D.int (1+r3),.int (1+r4)]) (r:=r5) a5 (by simpa using b5)
  obtain⟨m3,rfl⟩:=FY a3
  obtain⟨m4,rfl⟩:=FY a4
  simp only[qj,rH,tm]at hx
  rcases hx with rfl|rfl
  .exact⟨1+m3,by rw[ex];simp,by lia,by lia⟩
  .exact⟨1+m4,by rw[ex];simp,by lia,by lia⟩
 obtain⟨rs,S6,e6,p6,l6,G,g0,g1,g2⟩:=RC p5.pen (n:=1+m1) (by lia) (by lia)
 obtain⟨r7,S7,e7,a7,b7,p7⟩:=Ah p6.pen (n:=10) (by decide) (by decide)
 obtain⟨r8,S8,e8,a8,b8,p8⟩:=Ah p7.pen (n:=10) (by decide) (by decide)
 rw[show((1+m1:Nat):Int)=1+(m1:Int) by lia]at e6
 refine⟨⟨1+m1,1+m2,b,rs,r7,r8⟩,S8,?_,((((((p1.trans p2).trans p3).trans p4).trans p5).trans p6).trans p7).trans p8,⟨by simp,by simp;lia,by simp,by simp;lia,hb1,hb2⟩,⟨l6,a7,by show r7<=9;lia,a8,by show r8<=9;lia⟩,G,g0,g1,g2⟩
 simp[GV,LN,e1,e2,e3,e4,e5,eb,e6,e7,e8,Tr.d]
theorem Wy(h:B9 p S):∃x S',Et [.ref p] S=Gc (aD x,S')/\Pn p S S'/\0<x.num/\x.num<=x.den/\x.den<=12:=by
 obtain⟨r1,S1,e1,a1,b1,p1⟩:=Ah h (n:=12) (by decide) (by decide)
 obtain⟨r2,S2,e2,a2,b2,p2⟩:=Ah p1.pen (n:=1+r1) (by lia) (by lia)
 have m:=Ub (S:=S2) (t:=1+r2) (b:=1+r1) (by lia) (Dv (by lia) (by lia))
 obtain⟨m1,rfl⟩:=FY a1
 obtain⟨m2,rfl⟩:=FY a2
 have rp:=K7 (1+(m2:Int)) (1+m1) (by lia)
 have eb:(((1+(m1:Int):Int)):Rat)=(((1+m1:Nat)):Rat):=by
  have:(1+(m1:Int))=((1+m1:Nat):Int):=by lia
  rw[this];rfl
 have en:(1+(m2:Int)).natAbs=1+m2:=by lia
 have gp:0<xu (1+m2) (1+m1):=Nat.gcd_pos_of_pos_left _ (by lia)
 obtain⟨q,hq⟩:=Nat.gcd_dvd_left (1+m2) (1+m1)
 obtain⟨q',hq'⟩:=Nat.gcd_dvd_right (1+m2) (1+m1)
 refine⟨((1+(m2:Int):Int):Rat) / ((1+(m1:Int):Int):Rat),S2,?_,p1.trans p2,?_,?_,?_⟩
 .simp[Et,LX,e1,e2,m]
 .rw[eb,rp.1,en]
  generalize xu (1+m2) (1+m1)=g at*
  have:(1+(m2:Int))=((g*q:Nat):Int):=by lia
  rw[this,zT,yj _ (by lia)]
  have:q≠0:=λz=>by subst z;lia
  lia
 .rw[eb,rp.1,rp.2,en]
  generalize xu (1+m2) (1+m1)=g at*
  have t1:(1+(m2:Int))=((g*q:Nat):Int):=by lia
  rw[t1,zT,yj _ (by lia),hq',Nat.mul_div_cancel_left _ gp]
  have:q<=q':=by
   have:g*q<=g*q':=by lia
   exact Nat.le_of_mul_le_mul_left this gp
  lia
 .rw[eb,rp.2]
  exact qh (Nat.div_le_self _ _) (by lia)
theorem Ve (h : B9 p S) {n : Nat} (hn : n ≤ 6) : ∃ (ws : Wp Int) (S' : Sto), C7 [.ref p, .int n] S = Gc (.tup (ws.map .int), S') /\ Pn p S S' /\ ws.length = n /\ ∀ w ∈ ws, 1 ≤ w /\ w ≤ 99 := by
  obtain ⟨ys, S', e, hI, l, r⟩ := Mu (gs := []) (t := tNm 1) (f := (eOp (o2 CP) [(eC (.int 1)), (eOp (o2 wIx) [(FD [(AE AD [(eV 0), (eC (.int 3))]), (AE AD [(eV 0), (eC (.int 99))])]), (AE AD [(eV 0), (eC (.int 2))])])])) (C := [Gc (.ref p)]) (m := 1) (I := Pn p S) (R := fun _ y => ∃ i : Int, y = .int i /\ 1 ≤ i /\ i ≤ 99)
    (fun _ _ => Aa) (ds := Ka 0 n) (acc := []) (os := [none]) rfl (Pn.refl h) (by rw [GH]; simp; exact AI (by lia)) fun d _ os S0 ho I0 => by
      obtain ⟨o, rfl⟩ := V9 ho
      obtain ⟨r1, S1, e1, a1, b1, p1⟩ := Ah I0.pen (n := 3) (by decide) (by decide)
      obtain ⟨r2, S2, e2, a2, b2, p2⟩ := Ah p1.pen (n := 99) (by decide) (by decide)
      obtain ⟨r3, S3, e3, a3, b3, p3⟩ := Ah p2.pen (n := 2) (by decide) (by decide)
      obtain ⟨x, ex, hx⟩ := pick (xs := [.int r1, .int r2]) (r := r3) a3 (by simpa using b3)
      simp only [qj, rH, tm] at hx
      rcases hx with rfl | rfl
      · exact ⟨[Gc d], .int (1 + r1), S3, rfl, by simp, by simp [e1, e2, e3, ex], ((I0.trans p1).trans p2).trans p3, _, rfl, by lia, by lia⟩
      · exact ⟨[Gc d], .int (1 + r2), S3, rfl, by simp, by simp [e1, e2, e3, ex], ((I0.trans p1).trans p2).trans p3, _, rfl, by lia, by lia⟩
  obtain ⟨ns, rfl, hns⟩ := P5 (JX r)
  have r1 : IJ (n : Int) = true := DQ (by lia) (by lia)
  have e' : Bs [] (tNm 1) By (eOp (o2 CP) [(eC (.int 1)), (eOp (o2 wIx) [(FD [(AE AD [(eV 0), (eC (.int 3))]), (AE AD [(eV 0), (eC (.int 99))])]), (AE AD [(eV 0), (eC (.int 2))])])]) (Ka 0 n) [] [Gc (.ref p), none] S = Gc (ns.map D.int, S') := by simpa using e
  exact ⟨ns, S', by simp [C7, Jp, r1, e'], hI, by simpa [GH] using l, hns⟩
def GS(t:Tr)(ls:Wp Ld):Prop:=(∀l∈ls,l.k<t.k/\1<=l.n/\l.n<2^131/\l.ow.length=t.p/\l.ow.sum=1)/\∃G:Nat,0<G/\G<=32^ls.length/\∀l∈ls,∀r∈l.ow,Ok G G r
theorem GS.snoc{t:Tr}{ls:Wp Ld}{l:Ld}(h:GS t ls)(h1:l.k<t.k/\1<=l.n/\l.n<2^131/\l.ow.length=t.p/\l.ow.sum=1){g:Nat}(g0:0<g)(g1:g<=32)(g2:∀r∈l.ow,Ok g g r):GS t (ls++[l]):=by
 obtain⟨ha,G,G0,G1,G2⟩:=h
 refine⟨λx hx=>?_,G*g,xY G0 g0,?_,λx hx r hr=>?_⟩
 .rcases rC.mp hx with hx|hx
  .exact ha x hx
  .rw[q8.mp hx];exact h1
 .rw[rZ,zX,Nat.pow_succ]
  exact zy G1 g1
 .rcases rC.mp hx with hx|hx
  .exact(G2 x hx r hr).up (qg _)
  .rw[q8.mp hx]at hr
   have:=(g2 r hr).up (t:=G) (B':=G*g) (by rw[ve];exact qg _)
   rwa [ve g G]at this
end
section
variable{S:Sto}{p:Nat}
theorem GS.nil{t:Tr}:GS t []:=⟨λl hl=>(nomatch hl),1,by decide,by simp,λl hl=>(nomatch hl)⟩
theorem XT(h:B9 p S){t:Tr}(ht:Jg t):∃(ls:Wp Ld) (S':Sto),Gf [.ref p,t.d] S=Gc (.tup (ls.map Ld.d),S')/\Pn p S S'/\GS t ls/\ls.length<=4:=by
 obtain⟨t1,t2,t3,t4,t5,t6⟩:=ht
 have hlt:=h.lt
 have hq:(S++[Cl.lst []])[S.length]?=Gc (.lst []):=qm
 obtain⟨r1,S1,e1,a1,b1,p1⟩:=Ah (h.app [Cl.lst []]) (n:=5) (by decide) (by decide)
 obtain⟨r2,S2,e2,a2,b2,p2⟩:=Ah p1.pen (n:=3) (by decide) (by decide)
 obtain⟨n,en,hn⟩:∃n:Nat,atI [D.int 0,.int 1,.int r1] r2=Gc (.int n)/\n<=4:=by
  obtain⟨x,ex,hx⟩:=pick (xs:=[D.int 0,.int 1,.int r1]) (r:=r2) a2 (by simpa using b2)
  simp only[qj,rH,tm]at hx
  rcases hx with rfl|rfl|rfl
  .exact⟨0,ex,by decide⟩
  .exact⟨1,ex,by decide⟩
  .exact⟨r1.toNat,by rw[ex,sN a1],by lia⟩
 have q2:S2[S.length]?=Gc (.lst []):=(p1.trans p2).get hq (by lia)
 have rn:IJ (n:Int)=true:=DQ (by lia) (by lia)
 obtain⟨E',S',ef,ls,o,rfl,f1,f2,f3,f4,f5⟩:=Ed (gs:=[]) (t:=tNm 3) (b:=Ao (EL EN (eV 2) [BH [AE AD [eV 0,eOp (o2 wIx) [eV 1,eC (.int 1)]],AE Aw [eV 0],AE C1 [eV 0,eOp (o2 wIx) [eV 1,eC (.int 0)]]]]))
  (I:=λds E S'=>∃(ls:Wp Ld) (o:qY D),E=[Gc (.ref p),Gc t.d,Gc (.ref S.length),o]/\S'[S.length]?=Gc (.lst (ls.map Ld.d))/\B9 p S'/\Bh [p] S S'/\GS t ls/\ls.length+ds.length<=4)
  (λ_ _ _ _=>Aa) (ds:=Ka 0 n) (E:=[Gc (.ref p),Gc t.d,Gc (.ref S.length),none]) (S:=S2)
  ⟨[],none,rfl,q2,p2.pen,Bh.app.trans (p1.trans p2).same,GS.nil,by simp[GH];exact hn⟩ (by
    rintro d ds E S0 ⟨ls,o,rfl,i1,i2,i3,i4,i5⟩
    obtain⟨x1,T1,g1,c1,d1,k1⟩:=Ah i2 (n:=t.k) (by lia) (by lia)
    obtain⟨x2,T2,g2,k2,c2,d2⟩:=La k1.pen
    obtain⟨rs,T3,g3,k3,l3,G,G0,G1,G2⟩:=RC k2.pen (n:=t.p) t1 t2
    obtain⟨m1,rfl⟩:=FY c1
    have kk:=(k1.trans k2).trans k3
    have j1:T3[S.length]?=Gc (.lst (ls.map Ld.d)):=kk.get i1 (by lia)
    have hz:ls.length<sizeLine:=qf (show ls.length<5 by lia) (AI (by decide))
    refine⟨[Gc (.ref p),Gc t.d,Gc (.ref S.length),Gc d],[Gc (.ref p),Gc t.d,Gc (.ref S.length),Gc d],T3.set S.length (.lst ((ls++[Ld.mk m1 x2 rs]).map Ld.d)),by simp,?_,ls++[Ld.mk m1 x2 rs],Gc d,rfl,qo (AL j1),?_,?_,i4.snoc (l:=Ld.mk m1 x2 rs) ⟨show m1<t.k by lia,c2,d2,l3⟩ G0 G1 G2,by simp at i5 ⊢; lia⟩
    .have e3:atI [D.int t.p,.int t.k,.int t.b,shD t.ho,.int t.h,.int t.l] 1=Gc (.int t.k):=by simp
     simp[Tr.d,g1,g2,g3,AJ i1,AJ j1,hz,Ld.d]
    .obtain⟨ds',ed,hd⟩:=kk.pen
     exact⟨ds',by rw[qc (by lia)];exact ed,hd⟩
    .refine⟨qh (i3.trans kk.same).len (by simp),λm hm hmp=>?_⟩
     rw[qc (by lia)]
     exact(i3.trans kk.same).keep m hm hmp)
 refine⟨ls,S',?_,⟨f3,f2⟩,f4,by simpa using f5⟩
 simp[Gf,Kw,e1,e2,en,rn,ef,AW f1]
noncomputable def B3(x:Ld):Cl:=.lst [.int x.k,.int x.n,shD x.ow]
structure SAt(S:Sto)(s l m:Nat)(as:Wp Nat)(st:Stt):Prop where
 root:S[s]?=Gc (.lst [.ref l,shD st.hold,.ref m])
 lo:S[l]?=Gc (.lst (as.map .ref))
 nu:S[m]?=Gc (.lst (st.nums.map .int))
 ld:∀(i a:Nat) (x:Ld),as[i]?=Gc a->st.AA[i]?=Gc x->S[a]?=Gc (B3 x)
 len:as.length=st.AA.length
 nd:(s::l::m::as).Nodup
theorem YK:∀{ls:Wp Ld} {acc:Wp D} {o:qY D} {S:Sto},acc.length+ls.length<=100->Bs [] (tNm 0) By (iH (o1 Pw) [eV 0]) (ls.map Ld.d) acc [o] S=Gc (acc++(List.range' S.length ls.length).map D.ref,S++ls.map B3)
 | [],acc,o,S,h=>by rw[uC,F2 Aa];simp
 |x::ls,acc,o,S,h=>by
  rw[rD,JW (E1:=[Gc x.d]) Aa (qf (show acc.length<101 by simp at h;lia) (AI (by decide))) (by simp) Iw]
  have:iH (o1 Pw) [eV 0] [Gc x.d] S=Gc (.ref S.length,S++[B3 x]):=by simp[Ld.d,B3]
  rw[this,Ab,YK (by simp at h ⊢; lia)]
  simp[List.range'_succ]
theorem getElem?_at{α:Type}{xs:Wp α}{x:α}{n:Nat}(h:n=xs.length):(xs++[x])[n]?=Gc x:=by subst h;exact qm
theorem Qh{t:Tr}{ls:Wp Ld}{x:D}(hl:ls.length<=20):∃s l m as S',Dj [.tup [t.d,.tup (ls.map Ld.d),x]] S=Gc (.ref s,S')/\SAt S' s l m as ⟨ls,t.ho,[]⟩/\Bh [] S S'/\(∀n∈s::l::m::as,S.length<=n):=by
 have e:=YK (ls:=ls) (acc:=[]) (o:=none) (S:=S) (by simp;lia)
 refine⟨S.length+ls.length+2,S.length+ls.length,S.length+ls.length+1,List.range' S.length ls.length,S++ls.map B3++[.lst ((List.range' S.length ls.length).map D.ref)]++[.lst []]++[.lst [.ref (S.length+ls.length),shD t.ho,.ref (S.length+ls.length+1)]],?_,⟨?_,?_,?_,?_,?_,?_⟩,?_,?_⟩
 .simp[Dj,Kf,Tr.d,e,shD]
  lia
 .exact getElem?_at (by simp;lia)
 .rw[qZ (by simp),qZ (by simp)]
  exact getElem?_at (by simp)
 .rw[qZ (by simp;lia)]
  exact getElem?_at (by simp;lia)
 .intro i a y ha hy
  have hi:i<ls.length:=(qe.mp hy).1
  have:a=S.length+i:=by
   rw[List.getElem?_range' hi]at ha
   simp at ha;lia
  subst this
  rw[qZ (by simp;lia),qZ (by simp;lia),qZ (by simp;lia),rL (by lia)]
  have hy':ls[i]?=Gc y:=hy
  simp[hy']
 .simp
 .rw[uk,uk,uk]
  refine⟨?_,?_,?_,List.nodup_range'⟩
  .simp only[qj,xE];lia
  .simp only[qj,xE];lia
  .simp only[xE];lia
 .rw[vO,vO,vO]
  exact .app
 .intro n hn
  simp only[qj,xE]at hn
  lia
end
section
variable{S:Sto}{p:Nat}
@[simp] theorem pO{rs:List Rat}{S:Sto}:sqD S (shD rs)=some (rs.map aD,[]):=nr rfl
@[simp] theorem lC{S:Sto}{r:List D}:dr (S++[.lst r]) (.ref S.length)=.own r:=AW List.getElem?_concat_length
@[simp] theorem bO{S:Sto}{r:List D}:DU (S++[.lst r]) S.length=some r:=AJ List.getElem?_concat_length
theorem set_same{S:Sto}{q:Nat}{c:Cl}(h:S[q]?=Gc c):S.set q c=S:=by
 apply ya
 intro i
 by_cases e:q=i
 .subst e;rw[qo (AL h),h]
 .rw[qc e]
theorem Pq{gs:Gd}{t:Tf}{b:Ex}{C:En}{m q:Nat}{h:D->D}{I:Sto->Prop}(hg:∀S,I S->gOk gs S)(hI:∀S c,I S->I (S.set q c)):∀{ds acc:Wp D} {os:En} {S:Sto},os.length=m->I S->S[q]?=Gc (.lst acc)->acc.length+ds.length<=1000->(∀d∈ds,∀os S acc,os.length=m->I S->S[q]?=Gc (.lst acc)->acc.length<sizeLine->∃us us',t d (C++os) S=Gc (C++us)/\b (C++us) S=Gc (.nx,C++us',S.set q (.lst (acc++[h d])))/\us'.length=m)->∃os',os'.length=m/\KJ gs t b ds (C++os) S=Gc (.nx,C++os',S.set q (.lst (acc++ds.map h)))
 | [],acc,os,S,ho,hS,hq,hz,H=>⟨os,ho,by
     rw[GQ (hg S hS)]
     have:S.set q (.lst (acc++List.map h []))=S:=by
      rw[uC,uL]
      exact set_same hq
     rw[this]⟩
 |d::ds,acc,os,S,ho,hS,hq,hz,H=>by
  have hl:=AL hq
  obtain⟨us,us',e1,e2,hu⟩:=H d qp os S acc ho hS hq (qf (show acc.length<1001 by simp at hz;lia) (qh (by decide) (show 1001<=sizeLine by decide)))
  obtain⟨os',ho',e3⟩:=Pq hg hI (ds:=ds) (acc:=acc++[h d]) (os:=us') (S:=S.set q (.lst (acc++[h d]))) hu (hI S _ hS) (qo hl) (by simp at hz ⊢; lia) λd' hd=>H d' (qi _ hd)
  refine⟨os',ho',?_⟩
  rw[Dk (hg S hS),e1,Ab,e2,Ab,BP,e3,List.set_set]
  simp
noncomputable def un:D->Rat
 | .tup [.int n,.int d]=>(n:Rat) / (d:Rat)
 |_=>0
theorem Zc(r:Rat):un (aD r)=r:=Dr r
noncomputable def Qa(f:Rat->Rat->Rat):D->D
 | .tup [a,b]=>aD (f (un a) (un b))
 |d=>d
theorem NP{f:Rat->Rat->Rat}:∀{ss os:Wp Rat},(Lh (ss.map aD) (os.map aD)).map (Qa f)=(xC f ss os).map aD
 | [],os=>by simp[Lh]
 |s::ss,[]=>by simp[Lh]
 |s::ss,o::os=>by
  have ih:=NP (f:=f) (ss:=ss) (os:=os)
  unfold Lh at ih⊢
  simp only[rD,yA,zL]at ih⊢
  rw[ih]
  simp[Qa,Zc]
theorem UE{ss os:Wp Rat}{d:D}(h:d∈Lh (ss.map aD) (os.map aD)):∃s∈ss,∃o∈os,d=.tup [aD s,aD o]:=by
 unfold Lh at h
 obtain⟨⟨a,b⟩,h1,rfl⟩:=rW.mp h
 have h2:=vJ h1
 obtain⟨s,hs,rfl⟩:=rW.mp h2.1
 obtain⟨o,ho,rfl⟩:=rW.mp h2.2
 exact⟨s,hs,o,ho,rfl⟩
theorem YA:aD 1=.tup [.int 1,.int 1]:=rfl
theorem Yf(n:Int):aD (n:Rat)=.tup [.int n,.int 1]:=by
 unfold aD
 simp
theorem RJ{n:Int}{k:Nat}(h:n.natAbs<2^k)(hk:1<=k):Sz k (n:Rat):=by
 unfold Sz
 have:1<2^k:=yL (by lia)
 simp[h,this]
theorem YL{k:Nat}(hk:1<=k):Sz k (1:Rat):=by
 have:1<2^k:=yL (by lia)
 exact⟨by simpa using this,by simpa using this⟩
theorem Qu{x:Rat}{ss os:Wp Rat}{j i:Nat}(hs:∀r∈ss,Sz j r)(ho:∀r∈os,Sz j r)(hx:Sz i x)(hj:2*j+2*i<=7900)(hl:ss.length<=10):∃S',DZ [shD ss,aD x,shD os] S=Gc (shD (Im x os ss),S')/\Bh [] S S':=by
 have hq:(S++[Cl.lst []])[S.length]?=Gc (.lst []):=qm
 obtain⟨os',ho',e⟩:=Pq (gs:=[]) (t:=tTp [tNm 4,tNm 5]) (b:=Ao (EL EN (eV 3) [AE BX [AE AZ [eV 4,AE C5 [BH [eC (.int 1),eC (.int 1)],eV 1]],AE AZ [eV 5,eV 1]]])) (C:=[Gc (shD ss),Gc (aD x),Gc (shD os),Gc (.ref S.length)]) (m:=2) (q:=S.length) (h:=Qa λs o=>s*(1-x)+o*x) (I:=λ_=>ze) (λ_ _=>Aa) (λ_ _ _=>trivial)
  (ds:=Lh (ss.map aD) (os.map aD)) (acc:=[]) (os:=[none,none]) (S:=S++[Cl.lst []]) rfl trivial hq (by simp[KQ];lia) (by
    intro d hd os0 S0 acc h0 _ hq0 hz
    obtain⟨o1,o2,rfl⟩:=kc h0
    obtain⟨s,hs',o,ho',rfl⟩:=UE hd
    have l1:=YR (S:=S0) (YL (k:=1) (by decide)) hx (by lia)
    have s1:=(cE (YL (k:=1) (by decide)) hx)
    have l2:=GY (S:=S0) (hs s hs') s1 (by lia)
    have l3:=GY (S:=S0) (ho o ho') hx (by lia)
    have l4:=OG (S:=S0) (LZ (hs s hs') s1) (LZ (ho o ho') hx) (by lia)
    rw[YA]at l1
    refine⟨[Gc (aD s),Gc (aD o)],[Gc (aD s),Gc (aD o)],by simp,?_,rfl⟩
    simp[l1,l2,l3,l4,AJ hq0,hz,Qa,Zc])
 rw[NP]at e
 refine⟨(S++[Cl.lst []]).set S.length (.lst ((Im x os ss).map aD)),?_,?_⟩
 .have e':KJ [] (tTp [tNm 4,tNm 5]) (Ao (EL EN (eV 3) [AE BX [AE AZ [eV 4,AE C5 [BH [eC (.int 1),eC (.int 1)],eV 1]],AE AZ [eV 5,eV 1]]])) (Lh (ss.map aD) (os.map aD)) [Gc (shD ss),Gc (aD x),Gc (shD os),Gc (.ref S.length),none,none] (S++[Cl.lst []])=Gc (.nx,[Gc (shD ss),Gc (aD x),Gc (shD os),Gc (.ref S.length)]++os',(S++[Cl.lst []]).set S.length (.lst ((Im x os ss).map aD))):=by simpa[Im]using e
  simp[DZ,K1,e']
  rfl
 .refine⟨by simp,λn hn _=>?_⟩
  rw[qc (by lia),qZ hn]
end
section
variable{S:Sto}{p:Nat}
theorem getD_get{α:Type}{xs:Wp α}{n:Nat}{d:α}(h:n<xs.length):xs[n]?=Gc (xs.getD n d):=by
 rw[qV,qW h]
 rfl
theorem getD_mem{α:Type}{xs:Wp α}{n:Nat}{d:α}(h:n<xs.length):xs.getD n d∈xs:=qx (getD_get h)
theorem fU{ss:Wp Rat}{n:Nat}(h:n<ss.length):atI (ss.map aD) (n:Int)=Gc (aD (ss.getD n 0)):=Bf (by rw[ql,getD_get h];rfl)
theorem fP{ss:Wp Rat}{n:Nat}(h:n<ss.length):ixN (ss.map aD).length (n:Int)=Gc n:=Pd (by simpa using h)
theorem U1{p q:Nat}{x:Rat}{ss:Wp Rat}{j i:Nat}(hs:∀r∈ss,Sz j r)(hx:Sz i x)(hj:2*j+i<=7900)(hp:p<ss.length)(hq:q<ss.length)(hpq:p≠q):∃S',EX [shD ss,(AO.JC p q x).d] S=Gc (shD (G9 p q x ss),S')/\Bh [] S S':=by
 have sp:=hs _ (getD_mem (d:=0) hp)
 have sq:=hs _ (getD_mem (d:=0) hq)
 have l1:∀S,AZ [aD (ss.getD p 0),aD x] S=Gc (aD (ss.getD p 0*x),S):=λS=>GY sp hx (by lia)
 have s1:=LZ sp hx
 have l2:∀S,C5 [aD (ss.getD p 0),aD (ss.getD p 0*x)] S=Gc (aD (ss.getD p 0-ss.getD p 0*x),S):=λS=>YR sp s1 (by lia)
 have l3:∀S,BX [aD (ss.getD q 0),aD (ss.getD p 0*x)] S=Gc (aD (ss.getD q 0+ss.getD p 0*x),S):=λS=>OG sq s1 (by lia)
 have a1:=fU hp
 have i1:=fP hp
 have i2:ixN (((ss.map aD).set p (aD (ss.getD p 0-ss.getD p 0*x))).length) (q:Int)=Gc q:=Pd (by simpa using hq)
 have a2:atI ((ss.map aD).set p (aD (ss.getD p 0-ss.getD p 0*x))) (q:Int)=Gc (aD (ss.getD q 0)):=Bf (by
  rw[qc hpq,ql,getD_get hq];rfl)
 refine⟨S++[.lst ((G9 p q x ss).map aD)],?_,.app⟩
 simp only[uS,qy]at i1 i2
 have em:(G9 p q x ss).map aD=((ss.map aD).set p (aD (ss.getD p 0-ss.getD p 0*x))).set q (aD (ss.getD q 0+ss.getD p 0*x)):=by rw[G9,xD,xD]
 unfold shD
 rw[em]
 generalize aD (ss.getD p 0-ss.getD p 0*x)=d1 at*
 generalize aD (ss.getD q 0+ss.getD p 0*x)=d2 at*
 generalize aD (ss.getD p 0*x)=d3 at*
 generalize aD (ss.getD p 0)=d4 at*
 generalize aD (ss.getD q 0)=d5 at*
 simp[EX,MP,AO.d,a1,l1,l2,l3,i1,i2,a2]
theorem TF{x y:Ld}{a b:Nat}{j i:Nat}(ha:S[a]?=Gc (B3 x))(hb:S[b]?=Gc (B3 y))(hs:∀r∈x.ow,Sz j r)(ho:∀r∈y.ow,Sz j r)(hx:x.n.natAbs<2^i)(hy:y.n.natAbs<2^i)(h0:0<x.n+y.n)(h1:1<=i)(hj:2*j+4*i<=7900)(hl:x.ow.length<=10):∃S',FF [.ref a,.ref b] S=Gc (shD (Aq x.n y.n x.ow y.ow),S')/\Bh [] S S':=by
 have la:=AL ha
 have lb:=AL hb
 have hq:(S++[Cl.lst []])[S.length]?=Gc (.lst []):=qm
 have ha':(S++[Cl.lst []])[a]?=Gc (B3 x):=by rw[qZ la];exact ha
 have hb':(S++[Cl.lst []])[b]?=Gc (B3 y):=by rw[qZ lb];exact hb
 obtain⟨os',ho',e⟩:=Pq (gs:=[]) (t:=tTp [tNm 3,tNm 4]) (b:=AU (BC 5 (AE BX [AE AZ [BH [eOp (o2 wIx) [eV 0,eC (.int 1)],eC (.int 1)],eV 3],AE AZ [BH [eOp (o2 wIx) [eV 1,eC (.int 1)],eC (.int 1)],eV 4]]))
  (Ao (EL EN (eV 2) [AE AZ [eV 5,AE A9 [eC (.int 1),eOp (o2 CP) [eOp (o2 wIx) [eV 0,eC (.int 1)],eOp (o2 wIx) [eV 1,eC (.int 1)]]]]]))) (C:=[Gc (.ref a),Gc (.ref b),Gc (.ref S.length)]) (m:=3) (q:=S.length) (h:=Qa λs o=>(s*x.n+o*y.n) / (x.n+y.n:Int)) (I:=λS'=>S'[a]?=Gc (B3 x)/\S'[b]?=Gc (B3 y)) (λ_ _=>Aa) (λS' c h=>⟨by rw[qc (by lia)];exact h.1,by rw[qc (by lia)];exact h.2⟩)
  (ds:=Lh (x.ow.map aD) (y.ow.map aD)) (acc:=[]) (os:=[none,none,none]) (S:=S++[Cl.lst []]) rfl ⟨ha',hb'⟩ hq (by simp[KQ];lia) (by
    intro d hd os0 S0 acc h0' hI hq0 hz
    obtain⟨o1,o2,o3,rfl⟩:=mq h0'
    obtain⟨s,hs',o,ho',rfl⟩:=UE hd
    have d1:=AW hI.1
    have d2:=AW hI.2
    have z1:=RJ hx h1
    have z2:=RJ hy h1
    have l1:=GY (S:=S0) z1 (hs s hs') (by lia)
    have l2:=GY (S:=S0) z2 (ho o ho') (by lia)
    have s1:=LZ z1 (hs s hs')
    have s2:=LZ z2 (ho o ho')
    have l3:=OG (S:=S0) s1 s2 (by lia)
    have b1:=GA hx hy
    have l4:=Ub (S:=S0) (t:=1) h0 (Eo b1 (by lia))
    have s4:Sz (i+1) (((1:Int):Rat) / ((x.n+y.n:Int):Rat)):=LM h0 (show(1:Int).natAbs<2^(i+1)from yL (by lia)) b1
    have l5:=GY (S:=S0) (Yh s1 s2) s4 (by lia)
    rw[Yf]at l1 l2
    refine⟨[Gc (aD s),Gc (aD o),o3],[Gc (aD s),Gc (aD o),Gc (aD (x.n*s+y.n*o))],by simp,?_,rfl⟩
    have ev:(((x.n:Rat)*s+(y.n:Rat)*o)*(((1:Int):Rat) / ((x.n+y.n:Int):Rat)))=(s*x.n+o*y.n) / (x.n+y.n:Int):=by
     push_cast
     grind
    rw[ev]at l5
    have lf:(Qa λs o=>(s*x.n+o*y.n) / (x.n+y.n:Int)) (.tup [aD s,aD o])=aD ((s*x.n+o*y.n) / (x.n+y.n:Int)):=by simp only[Qa,Zc]
    rw[lf]
    generalize aD ((s*x.n+o*y.n) / (x.n+y.n:Int))=e5 at*
    generalize aD (((1:Int):Rat) / ((x.n+y.n:Int):Rat))=e4 at*
    generalize aD (x.n*s+y.n*o)=e3 at*
    simp[d1,d2,B3,l1,l2,l3,l4,l5,AJ hq0,hz])
 rw[NP]at e
 refine⟨(S++[Cl.lst []]).set S.length (.lst ((Aq x.n y.n x.ow y.ow).map aD)),?_,?_⟩
 .have e':=e
  simp only[sY,sF]at e'
  have d1:=AW ha'
  have d2:=AW hb'
  change KJ _ _ _ _ _ _=Gc (_,_,List.set _ _ (Cl.lst (List.map aD (Aq x.n y.n x.ow y.ow))))at e'
  generalize Aq x.n y.n x.ow y.ow=rs at*
  simp[FF,Ji,d1,d2,e',shD]
 .refine⟨by simp,λn hn _=>?_⟩
  rw[qc (by lia),qZ hn]
end
section
variable{S:Sto}{p:Nat}
theorem CL{α:Type}{gs:Gd}{t:Tf}{f:Ev}{C:En}{m:Nat}{e g:α->D}{S:Sto}(hg:gOk gs S):∀{xs:Wp α} {acc:Wp D} {os:En},os.length=m->acc.length+xs.length<=sizeLine->(∀x∈xs,∀os,os.length=m->∃us,us.length=m/\t (e x) (C++os) S=Gc (C++us)/\f (C++us) S=Gc (g x,S))->Bs gs t By f (xs.map e) acc (C++os) S=Gc (acc++xs.map g,S)
 | [],acc,os,ho,hz,h=>by rw[uC,F2 hg];simp
 |x::xs,acc,os,ho,hz,h=>by
  obtain⟨us,hu,e1,e2⟩:=h x qp os ho
  rw[rD,JW hg (by simp at hz;lia) e1 Iw,e2,Ab]
  rw[CL hg hu (by simp at hz ⊢; lia) λx' hx=>h x' (qi _ hx)]
  simp
theorem CG{α:Type}{gs:Gd}{t:Tf}{c f:Ev}{C:En}{m:Nat}{e g:α->D}{b:α->rR}{S:Sto}(hg:gOk gs S):∀{xs:Wp α} {acc:Wp D} {os:En},os.length=m->acc.length+xs.length<=sizeLine->(∀x∈xs,∀os,os.length=m->∃us,us.length=m/\t (e x) (C++os) S=Gc (C++us)/\c (C++us) S=Gc (.bl (b x),S)/\f (C++us) S=Gc (g x,S))->Bs gs t c f (xs.map e) acc (C++os) S=Gc (acc++(xs.filter b).map g,S)
 | [],acc,os,ho,hz,h=>by rw[uC,F2 hg];simp
 |x::xs,acc,os,ho,hz,h=>by
  obtain⟨us,hu,e1,e2,e3⟩:=h x qp os ho
  cases hb:b x with
  |true=>
   rw[hb]at e2
   rw[rD,JW hg (by simp at hz;lia) e1 e2,e3,Ab,CG hg hu (by simp at hz ⊢; lia) λd' hd=>h d' (qi _ hd)]
   simp[hb]
  |false=>
   rw[hb]at e2
   rw[rD,IH hg (by simp at hz;lia) e1 e2,CG hg hu (by simp at hz ⊢; lia) λd' hd=>h d' (qi _ hd)]
   simp[hb]
theorem Xq{as:Wp Nat}{ls:Wp Ld}(h:as.length=ls.length):as.map D.ref=(as.zip ls).map λz=>D.ref z.1:=by
 have:as=(as.zip ls).map Prod.fst:=(List.map_fst_zip (by lia)).symm
 conv=>lhs;rw[this]
 rw[r9];rfl
theorem Zr{β:Type}{as:Wp Nat}{ls:Wp Ld}(h:as.length=ls.length)(g:Ld->β):ls.map g=(as.zip ls).map λz=>g z.2:=by
 have:ls=(as.zip ls).map Prod.snd:=(List.map_snd_zip (by lia)).symm
 conv=>lhs;rw[this]
 rw[r9];rfl
section
variable{s l m:Nat}{as:Wp Nat}{st:Stt}
theorem SAt.pV(h:SAt S s l m as st){z:Nat×Ld}(hz:z∈as.zip st.AA):S[z.1]?=Gc (B3 z.2):=by
 obtain⟨i,hi⟩:=vx.mp hz
 have:=yN.mp hi
 exact h.ld i z.1 z.2 this.1 this.2
theorem SAt.at(h:SAt S s l m as st){i:Nat}(hi:i<st.AA.length):∃a,as[i]?=Gc a/\S[a]?=Gc (B3 (AH st.AA i))/\atI (as.map D.ref) (i:Int)=Gc (.ref a):=by
 have h1:i<as.length:=by rw[h.len];exact hi
 refine⟨as[i],qW h1,h.ld i _ _ (qW h1) (Ct hi),Bf (by rw[ql,qW h1];rfl)⟩
theorem SAt.guard(h:SAt S s l m as st):gOk [(l,as.map D.ref)] S:=by
 intro g hg
 simp only[qj,rH,tm]at hg
 subst hg
 exact AJ h.lo
end
theorem TK{M:Int}(hM:0<=M):∀{xs:Wp Int},(∀x∈xs,0<=x/\x<=M)->0<=xs.sum/\xs.sum<=xs.length*M
 | [],_=>by simp
 |x::xs,h=>by
  have h1:=h x qp
  have h2:=TK hM λy hy=>h y (qi _ hy)
  simp only[tK,rV]
  refine⟨by lia,?_⟩
  have:((xs.length+1:Nat):Int)*M=xs.length*M+M:=by push_cast;grind
  lia
theorem MA:∀{xs:Wp Int} {y:Int},(∀x∈xs,0<=x)->y∈xs->y<=xs.sum
 |x::xs,y,h,hy=>by
  have h1:=h x qp
  have h2:0<=xs.sum:=by
   clear hy
   induction xs with
   |nil=>simp
   |cons z zs ih=>
    have:=h z (by simp)
    have:=ih λw hw=>h w (by simp at hw ⊢; rcases hw with hw|hw<;>simp[hw])
    simp only[tK];lia
  simp only[tK]
  rcases qj.mp hy with e|e
  .lia
  .have:=MA (λz hz=>h z (qi _ hz)) e
   lia
section
variable{t:Tr}{k:Nat}{st:Stt}{ws:Wp Int}{n:Int}{l:Nat}
theorem OT{i:Nat}(hw:∀w∈ws,1<=w/\w<=99)(hi:i<ws.length):1<=ws.getD i 0/\ws.getD i 0<=99:=hw _ (getD_mem hi)
theorem Yl{i:Nat}(hi:i<ws.length):atI (ws.map D.int) (i:Int)=Gc (.int (ws.getD i 0)):=Bf (by rw[ql,getD_get hi];rfl)
theorem Qg(hi:ws.length=k+1):atI (ws.map D.int) (-1:Int)=Gc (.int (ws.getD k 0)):=by
 have ix:ixN (ws.map D.int).length (-1)=Gc k:=by
  rw[qy,hi]
  unfold ixN
  simp
  lia
 unfold atI
 rw[ix]
 show(ws.map D.int)[k]?=_
 rw[ql,getD_get (d:=(0:Int)) (by lia)]
 rfl
theorem KG(ht:Jg t)(h:CQ t k st)(hk:k<=20)(hl:ws.length=t.k+1)(hw:∀w∈ws,1<=w/\w<=99):0<Ep t st.AA ws/\Ep t st.AA ws<2^(145+k):=by
 obtain⟨t1,t2,t3,t4,t5,t6⟩:=ht
 have hP:(0:Int)<=2^(131+k):=Int.le_of_lt (Int.pow_pos (by decide))
 have hs:=TK (M:=2^(131+k)*99) (by lia) (xs:=st.AA.map λl=>l.n*ws.getD l.k 0) (by
  intro x hx
  obtain⟨y,hy,rfl⟩:=rW.mp hx
  have h1:=h.pcs y hy
  have h2:=OT hw (i:=y.k) (by have:=h.kind y hy;lia)
  refine⟨Int.mul_nonneg h1.1 (by lia),Int.mul_le_mul (by lia) h2.2 (by lia) hP⟩)
 have hb:=OT hw (i:=t.k) (by lia)
 have hlen:=h.len
 rw[qy]at hs
 have h3:(st.AA.length:Int)*(2^(131+k)*99)<=24*(2^(131+k)*99):=xQ (by lia) (by lia)
 have h4:(1:Int)<=t.b*ws.getD t.k 0:=by
  have:0<(t.b:Int)*ws.getD t.k 0:=uf (by lia) (by lia)
  lia
 have h5:t.b*ws.getD t.k 0<=20*99:=Int.mul_le_mul (by lia) hb.2 (by lia) (by decide)
 have h6:(2:Int)^(145+k)=2^(131+k)*16384:=by rw[show 145+k=(131+k)+14 by lia,Int.pow_add];rfl
 have h7:(1:Int)<=2^(131+k):=by have:(0:Int)<2^(131+k):=Int.pow_pos (by decide);lia
 have h7':(2:Int)^11<=2^(131+k):=by
  have:(2^11:Nat)<=2^(131+k):=tu (by decide) (by lia)
  exact_mod_cast this
 unfold Ep
 rw[h6]
 generalize (2:Int)^(131+k)=P at*
 lia
theorem Uu(ht:Jg t)(h:CQ t k st)(hl:ws.length=t.k+1)(hw:∀w∈ws,1<=w/\w<=99)(hi:l<st.AA.length)(h1:1<=n)(h2:n<=(AH st.AA l).n):0<n*ws.getD (AH st.AA l).k 0/\n*ws.getD (AH st.AA l).k 0<Ep t st.AA ws:=by
 obtain⟨t1,t2,t3,t4,t5,t6⟩:=ht
 have hw1:=OT hw (i:=(AH st.AA l).k) (by have:=h.kind _ (AQ hi);lia)
 have hb:=OT hw (i:=t.k) (by lia)
 have h4:(1:Int)<=t.b*ws.getD t.k 0:=by
  have:0<(t.b:Int)*ws.getD t.k 0:=uf (by lia) (by lia)
  lia
 have h5:=MA (xs:=st.AA.map λl=>l.n*ws.getD l.k 0) (y:=(AH st.AA l).n*ws.getD (AH st.AA l).k 0) (by
  intro x hx
  obtain⟨y,hy,rfl⟩:=rW.mp hx
  have h1:=h.pcs y hy
  have h2:=OT hw (i:=y.k) (by have:=h.kind y hy;lia)
  exact Int.mul_nonneg h1.1 (by lia)) (rW.mpr ⟨_,AQ hi,rfl⟩)
 have h6:n*ws.getD (AH st.AA l).k 0<=(AH st.AA l).n*ws.getD (AH st.AA l).k 0:=xQ h2 (by lia)
 refine⟨uf (by lia) (by lia),?_⟩
 unfold Ep
 lia
theorem Nf(hi:l<st.AA.length):Lf t st.AA l n ws=((n*ws.getD (AH st.AA l).k 0:Int):Rat) / (Ep t st.AA ws:Rat):=by
 unfold Lf
 rw[Ct hi]
 rfl
theorem Ff{x:Int}{j:Nat}(h0:0<=x)(h1:x<2^j):x.natAbs<2^j:=by
 have:((x.natAbs:Nat):Int)<((2^j:Nat):Int):=by
  rw[Int.natAbs_of_nonneg h0];push_cast;exact h1
 exact_mod_cast this
theorem ZU(ht:Jg t)(h:CQ t k st)(hk:k<=20)(hl:ws.length=t.k+1)(hw:∀w∈ws,1<=w/\w<=99)(hi:l<st.AA.length)(h1:1<=n)(h2:n<=(AH st.AA l).n):Sz (145+k) (Lf t st.AA l n ws):=by
 have a:=KG ht h hk hl hw
 have b:=Uu ht h hl hw hi h1 h2
 rw[Nf hi]
 exact LM a.1 (Ff (by lia) (by lia)) (Ff (by lia) a.2)
theorem Yq{s r m:Nat}{as:Wp Nat}(hS:SAt S s r m as st)(ht:Jg t)(h:CQ t k st)(hk:k<=20)(hl:ws.length=t.k+1)(hw:∀w∈ws,1<=w/\w<=99)(hi:l<st.AA.length)(h1:1<=n)(h2:n<=(AH st.AA l).n):Hh [t.d,.ref r,(AO.thr l n ws).d] S=Gc (aD (Lf t st.AA l n ws),S):=by
 have a:=KG ht h hk hl hw
 obtain⟨x,x1,x2,x3⟩:=hS.at hi
 have hlen:=h.len
 have e:=CL (gs:=[(r,as.map D.ref)]) (t:=tTp [tNm 1,tNm 2,tNm 3]) (f:=eOp (o2 EC) [eV 2,eOp (o2 wIx) [eV 0,eV 1]]) (C:=[Gc (.tup (ws.map D.int))]) (m:=3) (e:=λz:Nat×Ld=>D.ref z.1) (g:=λz=>D.int (z.2.n*ws.getD z.2.k 0)) hS.guard (xs:=as.zip st.AA) (acc:=[]) (os:=[none,none,none]) rfl (qh (show _<=24 by simp;lia) (AI (by decide))) (by
  intro z hz os ho
  obtain⟨q1,q2,q3,rfl⟩:=mq ho
  have c1:=hS.pV hz
  have hm:z.2∈st.AA:=(vJ (a:=z.1) (b:=z.2) hz).2
  have hk:=h.kind _ hm
  have w1:=Yl (ws:=ws) (i:=z.2.k) (by lia)
  have w2:=OT hw (i:=z.2.k) (by lia)
  have m1:Dl z.2.n (ws.getD z.2.k 0)=true:=mulR (by lia) (by lia)
  generalize ws.getD z.2.k 0=wz at*
  refine⟨[Gc (.int z.2.k),Gc (.int z.2.n),Gc (shD z.2.ow)],rfl,?_,?_⟩
  .simp[AJ c1,B3]
  .simp[w1,m1])
 rw[<-Xq hS.len,<-Zr hS.len (λx=>D.int (x.n*ws.getD x.k 0))]at e
 have e':=e
 simp only[sY,sF]at e'
 rw[Nf hi]
 have es:Gw (st.AA.map λx=>D.int (x.n*ws.getD x.k 0))=Gc (st.AA.map λx=>x.n*ws.getD x.k 0):=by
  have:=D3 (st.AA.map λx=>x.n*ws.getD x.k 0)
  rwa [r9]at this
 have w1:=Yl (ws:=ws) (i:=(AH st.AA l).k) (by have:=h.kind _ (AQ hi);lia)
 have w3:=OT hw (i:=(AH st.AA l).k) (by have:=h.kind _ (AQ hi);lia)
 have w2:=Qg hl
 have w4:=OT hw (i:=t.k) (by lia)
 have m1:Dl n (ws.getD (AH st.AA l).k 0)=true:=mulR (by lia) (by lia)
 have m2:Dl (t.b:Int) (ws.getD t.k 0)=true:=mulR (by lia) (by lia)
 have l1:=Ub (S:=S) (t:=n*ws.getD (AH st.AA l).k 0) a.1 (Eo (Ff (by lia) a.2) (by lia))
 have e2:Ep t st.AA ws=(st.AA.map λx=>x.n*ws.getD x.k 0).sum+t.b*ws.getD t.k 0:=rfl
 rw[e2]at l1⊢
 generalize aD (((n*ws.getD (AH st.AA l).k 0:Int):Rat) / (((st.AA.map λx=>x.n*ws.getD x.k 0).sum+t.b*ws.getD t.k 0:Int):Rat))=R at*
 generalize (st.AA.map λx=>x.n*ws.getD x.k 0)=es' at*
 generalize (st.AA.map λx=>D.int (x.n*ws.getD x.k 0))=es2 at*
 generalize ws.getD (AH st.AA l).k 0=wa at*
 generalize ws.getD t.k 0=wb at*
 have dx:=AW x2
 have dl:=AW hS.lo
 simp[Hh,MW,AO.d,Tr.d,EE hS.lo,e',es,w2,m2,dl,x3,dx,B3,w1,m1,l1]
theorem V4{G B:Nat}(ht:Jg t)(h:CQ t k st)(hk:k<=20)(hl:ws.length=t.k+1)(hw:∀w∈ws,1<=w/\w<=99)(hi:l<st.AA.length)(h1:1<=n)(h2:n<=(AH st.AA l).n){os ss:Wp Rat}(ho:∀r∈os,Ok G B r)(hs:∀r∈ss,Ok G B r):∀r∈Im (Lf t st.AA l n ws) os ss,Ok (G*(Ep t st.AA ws).toNat) (B*(Ep t st.AA ws).toNat) r:=by
 have a:=KG ht h hk hl hw
 have b:=Uu ht h hl hw hi h1 h2
 intro r hr
 unfold Im at hr
 rw[vx]at hr
 obtain⟨i,hi'⟩:=hr
 rw[xZ]at hi'
 obtain⟨x,y,hx,hy,rfl⟩:=hi'
 rw[Nf hi]
 generalize n*ws.getD (AH st.AA l).k 0=c at*
 generalize Ep t st.AA ws=W at*
 have:=Ok.mix (a:=(W-c).toNat) (b:=c.toNat) (t:=W.toNat) (hs x (qx hx)) (ho y (qx hy)) (by lia) (by lia)
 have e1:(((W-c).toNat:Nat):Rat)=(W:Rat)-(c:Rat):=by
  have:(((W-c).toNat:Nat):Int)=W-c:=sN (by lia)
  have:((((W-c).toNat:Nat):Int):Rat)=((W-c:Int):Rat):=by rw[this]
  push_cast at this
  exact this
 have e2:((c.toNat:Nat):Rat)=(c:Rat):=by
  have:((c.toNat:Nat):Int)=c:=sN (by lia)
  have:(((c.toNat:Nat):Int):Rat)=(c:Rat):=by rw[this]
  exact this
 have e3:((W.toNat:Nat):Rat)=(W:Rat):=by
  have:((W.toNat:Nat):Int)=W:=sN (by lia)
  have:(((W.toNat:Nat):Int):Rat)=(W:Rat):=by rw[this]
  exact this
 rw[e1,e2,e3]at this
 have ne:(W:Rat)≠0:=by
  intro z
  have:=uh.mp z
  lia
 have ev:(x*((W:Rat)-(c:Rat))+y*(c:Rat)) / (W:Rat)=x*(1-(c:Rat) / (W:Rat))+y*((c:Rat) / (W:Rat)):=by grind
 rw[ev]at this
 exact this
end
end
section
variable{S:Sto}
theorem Vb{x y:Str}(h:vw x=true)(g:vw y=true):MI (.str x) (.str y)=true:=by
 unfold MI
 show(vw x && vw y && _)=true
 rw[h,g]
 rfl
theorem aW(c:Char):c.toNat<1114112:=by
 have h:c.toNat.isValidChar:=c.valid
 rcases h with h|h
 .exact vg h (by decide)
 .exact h.2
theorem Qs{x:uO}:vw (tM x)=true:=by
 unfold vw tM
 simp
 intro c hc
 rw[cpsOfBytes_string]at hc
 obtain⟨ch,_,rfl⟩:=rW.mp hc
 exact aW ch
theorem Ou:∀{a b:Wp Char},a.map Char.toNat=b.map Char.toNat->a=b
 | [],[],_=>rfl
 |x::a,y::b,h=>by
  rw[rD,rD]at h
  injection h with h1 h2
  rw[Char.toNat_inj.mp h1,Ou h2]
 | [],_::_,h=>nomatch h
 |_::_,[],h=>nomatch h
theorem Z8{x y:uO}(h:tM x=tM y):x=y:=by
 rw[zM,zM]at h
 injection h with h
 exact String.toList_inj.mp (Ou (by simpa using h))
@[simp] theorem qP(x y:String):MI (.str (Str.ofString x)) (.str (Str.ofString y))=true:=Vb Qs Qs
@[simp] theorem pz(x y:String):deq (.str (Str.ofString x)) (.str (Str.ofString y))=decide (x=y):=by
  show(tM x==tM y)=_
  rw[xl,vf,yb]
  exact⟨Z8,λz=>by rw[z]⟩
@[simp] theorem YW:wIn false (.val (.str "bring")) (.val (.tup [.str "swap",.str "trade"]))=some (.val (.bl false)):=nr rfl
@[simp] theorem X2:wIn false (.val (.str "bring")) (.val (.tup [.str "spoil",.str "throw"]))=some (.val (.bl false)):=nr rfl
@[simp] theorem jm:wIn false (.val (.str "bring")) (.val BK)=some (.val (.bl true)):=nr rfl
@[simp] theorem mv:wIn false (.val (.str "pool")) (.val BK)=some (.val (.bl true)):=nr rfl
@[simp] theorem Zv:wIn false (.val (.str "swap")) (.val (.tup [.str "swap",.str "trade"]))=some (.val (.bl true)):=nr rfl
@[simp] theorem mW:wIn false (.val (.str "swap")) (.val BK)=some (.val (.bl true)):=nr rfl
@[simp] theorem YD:wIn false (.val (.str "trade")) (.val (.tup [.str "swap",.str "trade"]))=some (.val (.bl true)):=nr rfl
@[simp] theorem jJ:wIn false (.val (.str "trade")) (.val BK)=some (.val (.bl true)):=nr rfl
@[simp] theorem YI:wIn false (.val (.str "spoil")) (.val (.tup [.str "swap",.str "trade"]))=some (.val (.bl false)):=nr rfl
@[simp] theorem Wo:wIn false (.val (.str "spoil")) (.val (.tup [.str "spoil",.str "throw"]))=some (.val (.bl true)):=nr rfl
@[simp] theorem kB:wIn false (.val (.str "spoil")) (.val BK)=some (.val (.bl false)):=nr rfl
@[simp] theorem YH:wIn false (.val (.str "throw")) (.val (.tup [.str "swap",.str "trade"]))=some (.val (.bl false)):=nr rfl
@[simp] theorem WU:wIn false (.val (.str "throw")) (.val (.tup [.str "spoil",.str "throw"]))=some (.val (.bl true)):=nr rfl
@[simp] theorem jZ:wIn false (.val (.str "throw")) (.val BK)=some (.val (.bl false)):=nr rfl
@[simp] theorem ZT:wIn false (.val (.str "sell")) (.val (.tup [.str "swap",.str "trade"]))=some (.val (.bl false)):=nr rfl
@[simp] theorem YO:wIn false (.val (.str "sell")) (.val (.tup [.str "spoil",.str "throw"]))=some (.val (.bl false)):=nr rfl
@[simp] theorem mY:wIn false (.val (.str "sell")) (.val BK)=some (.val (.bl false)):=nr rfl
@[simp] theorem d9:dr S BK=.val BK:=nr rfl
section
variable{a b c d e f:D}{r:Wp D}
@[simp] theorem gf:Lc [a,b,c,d,e] (some (-4)) none=[b,c,d,e]:=nr rfl
@[simp] theorem gR:Lc [a,b,c,d,e,f] (some (-4)) none=[c,d,e,f]:=nr rfl
@[simp] theorem ic:Lc [a,b,c,d,e] (some 1) (some 2)=[b]:=nr rfl
@[simp] theorem jF:Lc [a,b,c,d,e,f] (some 1) (some 2)=[b]:=nr rfl
@[simp] theorem gn{ds zs:List D}:gW S ds [.tup zs]=if ds.length+zs.length<=sizeLine then some (.non,ds++zs)else none:=nr rfl
end
end
section
variable{S S':Sto}{s l m:Nat}{as:Wp Nat}{st:Stt}
theorem SAt.same(h:SAt S s l m as st)(g:Bh A S S')(hA:∀n∈A,n∉s::l::m::as):SAt S' s l m as st where
 root:=g.get h.root λz=>hA _ z (by simp)
 lo:=g.get h.lo λz=>hA _ z (by simp)
 nu:=g.get h.nu λz=>hA _ z (by simp)
 ld:=λi a x ha hx=>g.get (h.ld i a x ha hx) λz=>hA _ z (by simp[qx ha])
 len:=h.len
 nd:=h.nd
theorem SAt.SN(h:SAt S s l m as st)(g:Bh [] S S'):SAt S' s l m as st:=h.same g λ_ z=>(nomatch z)
theorem SAt.ne(h:SAt S s l m as st):s≠l/\s≠m/\l≠m/\s∉as/\l∉as/\m∉as/\as.Nodup:=by
 have:=h.nd
 simp only[uk,qj,yf]at this
 obtain⟨⟨a,b,c⟩,⟨d,e⟩,f,g⟩:=this
 exact⟨a,b,d,c,e,f,g⟩
theorem SAt.P4(h:SAt S s l m as st){i a:Nat}{y:Ld}(ha:as[i]?=Gc a):SAt (S.set a (B3 y)) s l m as {st with AA:=st.AA.set i y}:=by
 obtain⟨n1,n2,n3,n4,n5,n6,n7⟩:=h.ne
 have ma:=qx ha
 have q1:a≠s:=λe=>n4 (e▸ma)
 have q2:a≠l:=λe=>n5 (e▸ma)
 have q3:a≠m:=λe=>n6 (e▸ma)
 have hi:i<as.length:=(qe.mp ha).1
 have hi':i<st.AA.length:=by rw[<-h.len];exact hi
 refine⟨by rw[qc q1];exact h.root,by rw[qc q2];exact h.lo,by rw[qc q3];exact h.nu,?_,by simp[h.len],h.nd⟩
 intro j b x hb hx
 by_cases e:i=j
 .subst e
  rw[ha]at hb
  cases hb
  have hx':(st.AA.set i y)[i]?=Gc x:=hx
  rw[qo hi']at hx'
  cases hx'
  have hl:a<S.length:=AL (h.ld i a _ ha (qW hi'))
  exact qo hl
 .have hx':(st.AA.set i y)[j]?=Gc x:=hx
  rw[qc e]at hx'
  have:a≠b:=by
   intro z
   subst z
   exact e ((wy hi n7).mp (ha.trans hb.symm))
  rw[qc this]
  exact h.ld j b x hb hx'
theorem SAt.lts(h:SAt S s l m as st):∀n∈s::l::m::as,n<S.length:=by
 intro n hn
 simp only[qj]at hn
 rcases hn with rfl|rfl|rfl|hn
 .exact AL h.root
 .exact AL h.lo
 .exact AL h.nu
 .obtain⟨i,hi⟩:=vx.mp hn
  have:i<st.AA.length:=by rw[<-h.len];exact(qe.mp hi).1
  exact AL (h.ld i n _ hi (qW this))
theorem SAt.app(h:SAt S s l m as st)(y:Ld):SAt ((S++[B3 y]).set l (.lst (as.map D.ref++[.ref S.length]))) s l m (as++[S.length]) {st with AA:=st.AA++[y]}:=by
 obtain⟨n1,n2,n3,n4,n5,n6,n7⟩:=h.ne
 have lt:=h.lts
 have ls:=lt s (by simp);have ll:=lt l (by simp);have lm:=lt m (by simp)
 have la:∀a∈as,a<S.length:=λa ha=>lt a (by simp[ha])
 refine⟨?_,?_,?_,?_,by simp[h.len],?_⟩
 .rw[qc (rh n1),qZ ls];exact h.root
 .rw[qo (by simp;lia)];simp
 .rw[qc n3,qZ lm];exact h.nu
 .intro i a x ha hx
  by_cases e:i<as.length
  .rw[qZ e]at ha
   have hx':(st.AA++[y])[i]?=Gc x:=hx
   rw[qZ (by rw[<-h.len];exact e)]at hx'
   have ma:=qx ha
   rw[qc (show l≠a by rintro rfl;exact n5 ma),qZ (la a ma)]
   exact h.ld i a x ha hx'
  .have hx':(st.AA++[y])[i]?=Gc x:=hx
   have:i=as.length:=by
    have:=(qe.mp ha).1
    simp at this;lia
   subst this
   rw[qm]at ha
   cases ha
   rw[h.len,qm]at hx'
   cases hx'
   rw[qc (by lia),qm]
 .have:(s::l::m::(as++[S.length]))=(s::l::m::as)++[S.length]:=by simp
  rw[this,vQ]
  refine⟨h.nd,by simp,?_⟩
  intro a ha b hb e
  simp only[qj,rH,tm]at hb
  have:=lt a ha
  lia
theorem SAt.hold(h:SAt S s l m as st)(rs:Wp Rat):SAt (S.set s (.lst [.ref l,shD rs,.ref m])) s l m as {st with hold:=rs}:=by
 obtain⟨n1,n2,n3,n4,n5,n6,n7⟩:=h.ne
 refine⟨qo (h.lts s (by simp)),by rw[qc n1];exact h.lo,by rw[qc n2];exact h.nu,?_,h.len,h.nd⟩
 intro i a x ha hx
 rw[qc (show s≠a by rintro rfl;exact n4 (qx ha))]
 exact h.ld i a x ha hx
theorem SAt.nums(h:SAt S s l m as st)(us:Wp Int):SAt (S.set m (.lst (us.map D.int))) s l m as {st with nums:=us}:=by
 obtain⟨n1,n2,n3,n4,n5,n6,n7⟩:=h.ne
 refine⟨by rw[qc (rh n2)];exact h.root,by rw[qc (rh n3)];exact h.lo,qo (h.lts m (by simp)),?_,h.len,h.nd⟩
 intro i a x ha hx
 rw[qc (show m≠a by rintro rfl;exact n6 (qx ha))]
 exact h.ld i a x ha hx
theorem N6{f:Ld->Ld}{body:Ex}{C:En}{i8:Nat}{o0:qY D}(h:SAt S s l m as st)(hi:C.length=i8)(hb:∀(S':Sto) (a:Nat) (x:Ld),x∈st.AA->S'[a]?=Gc (B3 x)->∃S2,body (C++[Gc (.ref a)]) S'=Gc (.nx,C++[Gc (.ref a)],S2.set a (B3 (f x)))/\Bh [] S' S2):∃o S',KJ [(l,as.map D.ref)] (tNm i8) body (as.map D.ref) (C++[o0]) S=Gc (.nx,C++[o],S')/\SAt S' s l m as {st with AA:=st.AA.map f}/\Bh as S S':=by
 obtain⟨E',S',e,i,o,i1,i2,rfl,i3,i4⟩:=Ed (gs:=[(l,as.map D.ref)]) (t:=tNm i8) (b:=body)
  (I:=λds E S'=>∃(i:Nat) (o:qY D),ds=(as.drop i).map D.ref/\i<=as.length/\E=C++[o]/\SAt S' s l m as {st with AA:=(st.AA.take i).map f++st.AA.drop i}/\Bh as S S')
  (λds E S' hI=>by obtain⟨i,o,_,_,_,h1,_⟩:=hI;exact h1.guard) (ds:=as.map D.ref) (E:=C++[o0]) (S:=S)
  ⟨0,o0,by simp,sf _,rfl,by simpa using h,.refl⟩ (by
    rintro d ds E S1 ⟨i,o,i1,i2,rfl,i3,i4⟩
    have hlt:i<as.length:=by
     rcases ux i as.length with w|w
     .exact w
     .rw[uR w]at i1;cases i1
    rw[sW hlt,rD]at i1
    injection i1 with e1 e2
    subst e1 e2
    have hl2:i<st.AA.length:=by rw[<-h.len];exact hlt
    have ha:=qW hlt
    have hx:((st.AA.take i).map f++st.AA.drop i)[i]?=Gc st.AA[i]:=by
     rw[rL (by simp;lia)]
     simp[Nat.min_eq_left (vM hl2)]
    obtain⟨S2,e3,g3⟩:=hb S1 as[i] st.AA[i] (uE hl2) (i3.ld i _ _ ha hx)
    have k:=(i3.SN g3).P4 (y:=f st.AA[i]) ha
    refine⟨C++[Gc (.ref as[i])],C++[Gc (.ref as[i])],S2.set as[i] (B3 (f st.AA[i])),?_,e3,i+1,Gc (.ref as[i]),rfl,hlt,rfl,?_,?_⟩
    .rw[Za]
     congr 1
     subst hi
     rw[zb _ _ (qg _)]
     simp
    .have:((st.AA.take i).map f++st.AA.drop i).set i (f st.AA[i])=(st.AA.take (i+1)).map f++st.AA.drop (i+1):=by
      rw[zb _ _ (by simp;lia)]
      have e0:i-((st.AA.take i).map f).length=0:=by simp;lia
      rw[e0,sW hl2,AAc,List.take_succ_eq_append_getElem hl2,tU]
      simp
     rw[<-this]
     exact k
    .exact(i4.trans (g3.mono λ_ z=>(nomatch z))).trans (.set (uE hlt)))
 refine⟨o,S',e,?_,i4⟩
 have hz:i=as.length:=by
  have:=congrArg yT i1
  simp at this
  lia
 have:(st.AA.take i).map f++st.AA.drop i=st.AA.map f:=by
  rw[hz,h.len];simp
 rw[this]at i3
 exact i3
end
section
variable{S S':Sto}{s l m:Nat}{as:Wp Nat}{st:Stt}{t:Tr}{k:Nat}
theorem ZD{i:Nat}{n:Int}{j:Nat}(hi:i<st.AA.length)(h:∀x∈st.AA,∀r∈x.ow,Sz j r):∀x∈less st.AA i n,∀r∈x.ow,Sz j r:=by
 intro x hx
 rcases JA hx hi with h1|h1
 .exact h x h1
 .rw[h1];exact h (AH st.AA i) (AQ hi)
theorem UJ{i:Nat}{n:Int}{j:Nat}(hi:i<st.AA.length)(h:∀x∈st.AA,x.ow.length=j):∀x∈less st.AA i n,x.ow.length=j:=by
 intro x hx
 rcases JA hx hi with h1|h1
 .exact h x h1
 .rw[h1];exact h (AH st.AA i) (AQ hi)
theorem Wf(hS:SAt S s l m as st)(ht:Jg t)(h:CQ t k st)(hk:k<=16){i:Nat}{n:Int}{ws:Wp Int}(hc:Can t st (.thr i n ws)):∃S',EU [t.d,.ref s,(AO.thr i n ws).d] S=Gc (.non,S')/\SAt S' s l m as (step t st (.thr i n ws))/\Bh (s::l::m::as) S S':=by
 obtain⟨hi,h1,h2,hl,hw⟩:=hc
 have cO:=Yq hS ht h (by lia) hl hw hi h1 h2
 have cz:=ZU ht h (by lia) hl hw hi h1 h2
 have sz:=h.sz
 obtain⟨a,a1,a2,a3⟩:=hS.at hi
 have hS1:=hS.P4 (y:=⟨(AH st.AA i).k,(AH st.AA i).n-n,(AH st.AA i).ow⟩) a1
 have o1:=sz.1 _ (AQ hi)
 have tp:=ht.2.1
 have hdef:step t st (.thr i n ws)={st with AA:=(less st.AA i n).map λx=>{x with ow:=Im (Lf t st.AA i n ws) (AH st.AA i).ow x.ow},hold:=Im (Lf t st.AA i n ws) (AH st.AA i).ow st.hold}:=rfl
 rw[hdef]
 generalize hX:Lf t st.AA i n ws=X at*
 obtain⟨o,S2,f1,f2,f3⟩:=N6 (f:=λx=>{x with ow:=Im X (AH st.AA i).ow x.ow}) (body:=Ja (AE DZ [eOp (o2 wIx) [eV 8,eC (.int 2)],eV 6,eV 7]) (eV 8) (eC (.int 2))) (C:=[Gc t.d,Gc (.ref s),Gc (AO.thr i n ws).d,Gc (.ref l),Gc (shD st.hold),Gc (.ref m),Gc (aD X),Gc (shD (AH st.AA i).ow)]) (i8:=8) (o0:=none) hS1 rfl (by
  intro S' b x hx hb
  obtain⟨S2,e2,g2⟩:=Qu (S:=S') (x:=X) (ss:=x.ow) (os:=(AH st.AA i).ow) (j:=30+170*k) (i:=145+k) (ZD (n:=n) hi sz.1 x hx) o1 cz (by lia) (by rw[UJ (n:=n) hi h.own x hx];lia)
  have hb2:=g2.get hb (by simp)
  refine⟨S2,?_,g2⟩
  simp[AW hb,B3,e2,AJ hb2])
 obtain⟨S3,e3,g3⟩:=Qu (S:=S2) (x:=X) (ss:=st.hold) (os:=(AH st.AA i).ow) (j:=30+170*k) (i:=145+k) sz.2 o1 cz (by lia) (by rw[h.hold];lia)
 have f4:=(f2.SN g3)
 have rt:=f4.root
 refine⟨S3.set s (.lst [.ref l,shD (Im X (AH st.AA i).ow st.hold),.ref m]),?_,f4.hold _,?_⟩
 .have f1':=f1
  simp only[sY,sF]at f1'
  have rt':DU S3 s=Gc [.ref l,shD st.hold,.ref m]:=AJ rt
  have r0:=AJ hS.root
  have lo:=AW hS.lo
  have xx:=AW a2
  have c2:=AJ a2
  have sq1:=EE hS1.lo
  simp only[B3]at f1' sq1 c2 xx
  simp only[AO.d]at f1' cO⊢
  simp[EU,JM,r0,cO,lo,a3,xx,c2,sq1,f1',e3,rt']
 .have q1:Bh (s::l::m::as) S (S.set a (B3 ⟨(AH st.AA i).k,(AH st.AA i).n-n,(AH st.AA i).ow⟩)):=.set (by simp[qx a1])
  exact((q1.trans (f3.mono λn hn=>by simp[hn])).trans (g3.mono λ_ z=>(nomatch z))).trans (.set (by simp))
theorem UN(hS:SAt S s l m as st)(ht:Jg t)(h:CQ t k st)(hk:k<=16){p q:Nat}{x:Rat}(hc:Can t st (.JC p q x)):∃S',EU [t.d,.ref s,(AO.JC p q x).d] S=Gc (.non,S')/\SAt S' s l m as (step t st (.JC p q x))/\Bh (s::l::m::as) S S':=by
 obtain⟨hpq,hp,hq,x1,x2,x3⟩:=hc
 have sz:=h.sz
 have hx:Sz 4 x:=by
  refine⟨?_,by lia⟩
  show x.num.natAbs<16
  lia
 have hdef:step t st (.JC p q x)={st with AA:=st.AA.map λy=>{y with ow:=G9 p q x y.ow},hold:=G9 p q x st.hold}:=rfl
 rw[hdef]
 obtain⟨o,S2,f1,f2,f3⟩:=N6 (f:=λy=>{y with ow:=G9 p q x y.ow}) (body:=Ja (AE EX [eOp (o2 wIx) [eV 8,eC (.int 2)],eV 2]) (eV 8) (eC (.int 2))) (C:=[Gc t.d,Gc (.ref s),Gc (AO.JC p q x).d,Gc (.ref l),Gc (shD st.hold),Gc (.ref m),none,none]) (i8:=8) (o0:=none) hS rfl (by
  intro S' b y hy hb
  obtain⟨S2,e2,g2⟩:=U1 (S:=S') (p:=p) (q:=q) (x:=x) (ss:=y.ow) (j:=30+170*k) (i:=4) (sz.1 y hy) hx (by lia) (by rw[h.own y hy];exact hp) (by rw[h.own y hy];exact hq) hpq
  have hb2:=g2.get hb (by simp)
  refine⟨S2,?_,g2⟩
  simp[AW hb,B3,e2,AJ hb2])
 obtain⟨S3,e3,g3⟩:=U1 (S:=S2) (p:=p) (q:=q) (x:=x) (ss:=st.hold) (j:=30+170*k) (i:=4) sz.2 hx (by lia) (by rw[h.hold];exact hp) (by rw[h.hold];exact hq) hpq
 have f4:=(f2.SN g3)
 have rt:=f4.root
 refine⟨S3.set s (.lst [.ref l,shD (G9 p q x st.hold),.ref m]),?_,f4.hold _,?_⟩
 .have f1':=f1
  simp only[sY,sF]at f1'
  have rt':DU S3 s=Gc [.ref l,shD st.hold,.ref m]:=AJ rt
  have r0:=AJ hS.root
  have sq1:=EE hS.lo
  simp only[AO.d]at f1' e3⊢
  simp[EU,JM,r0,sq1,f1',e3,rt']
 .exact((f3.mono λn hn=>by simp[hn]).trans (g3.mono λ_ z=>(nomatch z))).trans (.set (by simp))
end
section
variable{S S':Sto}{s l m:Nat}{as:Wp Nat}{st:Stt}{t:Tr}{k:Nat}
theorem UQ{ls:Wp Ld}{l:Nat}{n:Int}:less ls l n=ls.set l ⟨(AH ls l).k,(AH ls l).n-n,(AH ls l).ow⟩:=rfl
theorem RY{P p:Nat}{cond:Int}{C:En}{dd:D}{f:Ev}(hP:P<=50)(hf:∀(i:Nat),f [Gc dd,Gc (.int i)] S=Gc (aD (if i=p then 1 else 0),S)):Bs [] (tNm 1) By f (Ka 0 P) [] [Gc dd,none] S=Gc ((JV P p).map aD,S):=by
 have:=CL (gs:=[]) (t:=tNm 1) (f:=f) (C:=[Gc dd]) (m:=1) (e:=λi:Nat=>D.int (0+(i:Int))) (g:=λi=>aD (if i=p then 1 else 0)) (S:=S) Aa (xs:=rO P) (acc:=[]) (os:=[none]) rfl (qh (show _<=50 by simp;lia) (AI (by decide))) (by
  intro i _ os ho
  obtain⟨o,rfl⟩:=V9 ho
  refine⟨[Gc (.int i)],rfl,by simp,hf i⟩)
 simp only[sY,sF]at this
 rw[JV,r9]
 exact this
theorem Xv(hS:SAt S s l m as st)(ht:Jg t)(h:CQ t k st)(hk:k<=16){p kd:Nat}{n:Int}(hc:Can t st (.DV p kd n)):∃S' as',BI [t.d,.ref s,(AO.DV p kd n).d] S=Gc (.non,S')/\SAt S' s l m as' (step t st (.DV p kd n))/\Bh (s::l::m::as) S S'/\∀n∈as',n∈as\/S.length<=n:=by
 have tp:=ht.2.1
 have e:=RY (S:=S) (P:=t.p) (p:=p) (cond:=0) (C:=[]) (dd:=(AO.DV p kd n).d) (f:=BH [eOp (o1 PV) [eOp (o2 wEq) [eV 1,eOp (o2 wIx) [eV 0,eC (.int 1)]]],eC (.int 1)]) (by lia) (by
  intro i
  by_cases hi:i=p
  .subst hi;simp[AO.d];rfl
  .have:((i:Int)==(p:Int))=false:=by simp;lia
   simp[AO.d,this,hi];rfl)
 have rn:IJ (t.p:Int)=true:=DQ (by lia) (by lia)
 have hz:as.length<sizeLine:=qf (show as.length<50 by rw[hS.len];have:=h.len;lia) (AI (by decide))
 refine⟨_,_,?_,hS.app ⟨kd,n,JV t.p p⟩,?_,?_⟩
 .have r0:=AJ hS.root
  have c0:=AJ hS.lo
  have c1:DU (S++[B3 ⟨kd,n,JV t.p p⟩]) l=Gc (as.map D.ref):=AJ (by rw[qZ (AL hS.lo)];exact hS.lo)
  simp only[B3]at c1⊢
  simp only[AO.d]at e⊢
  simp[BI,FJ,r0,Tr.d,rn,e,c0,shD]at c1⊢
  simp[c1,hz]
 .exact Bh.app.trans (.set (by simp))
 .intro n hn
  rcases rC.mp hn with w|w
  .exact .inl w
  .simp at w;exact .inr (by lia)
theorem WS(hS:SAt S s l m as st)(ht:Jg t)(h:CQ t k st)(hk:k<=16){i:Nat}{n:Int}(hc:Can t st (.FA i n)):∃S' as',BI [t.d,.ref s,(AO.FA i n).d] S=Gc (.non,S')/\SAt S' s l m as' (step t st (.FA i n))/\Bh (s::l::m::as) S S'/\∀n∈as',n∈as\/S.length<=n:=by
 obtain⟨hi,h1,h2⟩:=hc
 obtain⟨a,a1,a2,a3⟩:=hS.at hi
 refine⟨_,as,?_,hS.P4 (y:=⟨(AH st.AA i).k,(AH st.AA i).n-n,(AH st.AA i).ow⟩) a1,.set (by simp[qx a1]),λn hn=>.inl hn⟩
 have r0:=AJ hS.root
 have lo:=AW hS.lo
 have xx:=AW a2
 have c2:=AJ a2
 simp only[B3]at c2 xx⊢
 simp[BI,FJ,AO.d,r0,lo,a3,xx,c2]
theorem eG(hS:SAt S s l m as st)(ht:Jg t)(h:CQ t k st)(hk:k<=16){i:Nat}{n:Int}{ws:Wp Int}(hc:Can t st (.thr i n ws)):∃S' as',BI [t.d,.ref s,(AO.thr i n ws).d] S=Gc (.non,S')/\SAt S' s l m as' (step t st (.thr i n ws))/\Bh (s::l::m::as) S S'/\∀n∈as',n∈as\/S.length<=n:=by
 obtain⟨S',e,g1,g2⟩:=Wf hS ht h hk hc
 refine⟨S',as,?_,g1,g2,λn hn=>.inl hn⟩
 have r0:=AJ hS.root
 simp only[AO.d]at e⊢
 simp[BI,FJ,r0,e]
theorem Yx(hS:SAt S s l m as st)(ht:Jg t)(h:CQ t k st)(hk:k<=16){p q:Nat}{x:Rat}(hc:Can t st (.JC p q x)):∃S' as',BI [t.d,.ref s,(AO.JC p q x).d] S=Gc (.non,S')/\SAt S' s l m as' (step t st (.JC p q x))/\Bh (s::l::m::as) S S'/\∀n∈as',n∈as\/S.length<=n:=by
 obtain⟨S',e,g1,g2⟩:=UN hS ht h hk hc
 refine⟨S',as,?_,g1,g2,λn hn=>.inl hn⟩
 have r0:=AJ hS.root
 simp only[AO.d]at e⊢
 simp[BI,FJ,r0,e]
theorem aB(hS:SAt S s l m as st)(ht:Jg t)(h:CQ t k st)(hk:k<=16){i kd:Nat}{g n:Int}(hc:Can t st (.swap i g kd n)):∃S' as',BI [t.d,.ref s,(AO.swap i g kd n).d] S=Gc (.non,S')/\SAt S' s l m as' (step t st (.swap i g kd n))/\Bh (s::l::m::as) S S'/\∀n∈as',n∈as\/S.length<=n:=by
 obtain⟨hi,h1,h2,h3,h4,h5,h6⟩:=hc
 obtain⟨a,a1,a2,a3⟩:=hS.at hi
 have hS1:=hS.P4 (y:=⟨(AH st.AA i).k,(AH st.AA i).n-g,(AH st.AA i).ow⟩) a1
 have hS2:=hS1.app ⟨kd,n,(AH st.AA i).ow⟩
 have hz:as.length<sizeLine:=qf (show as.length<50 by rw[hS.len];have:=h.len;lia) (AI (by decide))
 have hz2:st.nums.length<=sizeLine:=qh (show _<=20 by have:=h.nm;lia) (AI (by decide))
 refine⟨_,_,?_,hS2,?_,?_⟩
 .have r0:=AJ hS.root
  have lo:=AW hS.lo
  have xx:=AW a2
  have c2:=AJ a2
  have lo1:=AW hS1.lo
  have co1:=AJ hS1.lo
  have x1:=AW (qo (a:=B3 ⟨(AH st.AA i).k,(AH st.AA i).n-g,(AH st.AA i).ow⟩) (AL a2))
  have c4:DU ((S.set a (B3 ⟨(AH st.AA i).k,(AH st.AA i).n-g,(AH st.AA i).ow⟩))++[B3 ⟨kd,n,(AH st.AA i).ow⟩]) l=Gc (as.map D.ref):=AJ (by rw[qZ (AL hS1.lo)];exact hS1.lo)
  have nu:=hS2.nu
  have c5:=AJ nu
  have st5:∀{T:Sto},T[m]?=Gc (.lst (st.nums.map D.int))->T.set m (.lst (st.nums.map D.int))=T:=λh=>set_same h
  have st6:=st5 nu
  simp only[B3]at c2 xx lo1 co1 x1 c4 c5 st6⊢
  have hz':(as.map D.ref).length<sizeLine:=by simpa using hz
  generalize (as.map D.ref)=refs at*
  simp[BI,FJ,AO.d,r0,lo,a3,xx,c2,lo1,x1,co1]at c4 c5 st6⊢
  simp[c4,hz',c5,hz2,st6]
 .exact((Bh.set (by simp[qx a1])).trans .app).trans (.set (by simp))
 .intro n hn
  rcases rC.mp hn with w|w
  .exact .inl w
  .simp at w;exact .inr (by lia)
theorem XE(hS:SAt S s l m as st)(ht:Jg t)(h:CQ t k st)(hk:k<=16){i kd:Nat}{u g n:Int}(hc:Can t st (.C8 u i g kd n)):∃S' as',BI [t.d,.ref s,(AO.C8 u i g kd n).d] S=Gc (.non,S')/\SAt S' s l m as' (step t st (.C8 u i g kd n))/\Bh (s::l::m::as) S S'/\∀n∈as',n∈as\/S.length<=n:=by
 obtain⟨hi,h1,h2,h3,h4,h5,h6,h7,h8⟩:=hc
 obtain⟨a,a1,a2,a3⟩:=hS.at hi
 have hS1:=hS.P4 (y:=⟨(AH st.AA i).k,(AH st.AA i).n-g,(AH st.AA i).ow⟩) a1
 have hS2:=hS1.app ⟨kd,n,(AH st.AA i).ow⟩
 have hz:as.length<sizeLine:=qf (show as.length<50 by rw[hS.len];have:=h.len;lia) (AI (by decide))
 have hz2:st.nums.length+1<=sizeLine:=qh (show _<=20 by have:=h.nm;lia) (AI (by decide))
 refine⟨_,_,?_,hS2.nums (st.nums++[u]),?_,?_⟩
 .have r0:=AJ hS.root
  have lo:=AW hS.lo
  have xx:=AW a2
  have c2:=AJ a2
  have lo1:=AW hS1.lo
  have co1:=AJ hS1.lo
  have x1:=AW (qo (a:=B3 ⟨(AH st.AA i).k,(AH st.AA i).n-g,(AH st.AA i).ow⟩) (AL a2))
  have c4:DU ((S.set a (B3 ⟨(AH st.AA i).k,(AH st.AA i).n-g,(AH st.AA i).ow⟩))++[B3 ⟨kd,n,(AH st.AA i).ow⟩]) l=Gc (as.map D.ref):=AJ (by rw[qZ (AL hS1.lo)];exact hS1.lo)
  have nu:=hS2.nu
  have c5:=AJ nu
  simp only[B3]at c2 xx lo1 co1 x1 c4 c5⊢
  have hz':(as.map D.ref).length<sizeLine:=by simpa using hz
  generalize (as.map D.ref)=refs at*
  simp[BI,FJ,AO.d,r0,lo,a3,xx,c2,lo1,x1,co1]at c4 c5⊢
  simp[c4,hz',c5,hz2]
 .exact(((Bh.set (by simp[qx a1])).trans .app).trans (.set (by simp))).trans (.set (by simp))
 .intro n hn
  rcases rC.mp hn with w|w
  .exact .inl w
  .simp at w;exact .inr (by lia)
theorem aT(hS:SAt S s l m as st)(ht:Jg t)(h:CQ t k st)(hk:k<=16){i j:Nat}(hc:Can t st (.DR i j)):∃S' as',BI [t.d,.ref s,(AO.DR i j).d] S=Gc (.non,S')/\SAt S' s l m as' (step t st (.DR i j))/\Bh (s::l::m::as) S S'/\∀n∈as',n∈as\/S.length<=n:=by
 obtain⟨hij,hi,hj,h1,h2,h3⟩:=hc
 obtain⟨a,a1,a2,a3⟩:=hS.at hi
 obtain⟨b,b1,b2,b3⟩:=hS.at hj
 have sz:=h.sz
 have pi:=h.pcs _ (AQ hi)
 have pj:=h.pcs _ (AQ hj)
 obtain⟨S1,e1,g1⟩:=TF (S:=S) (x:=AH st.AA i) (y:=AH st.AA j) (j:=30+170*k) (i:=131+k) a2 b2 (sz.1 _ (AQ hi)) (sz.1 _ (AQ hj)) (Ff pi.1 pi.2) (Ff pj.1 pj.2) (by lia) (by lia) (by lia) (by rw[h.own _ (AQ hi)];have:=ht.2.1;lia)
 have hS1:=hS.SN g1
 have hab:a≠b:=by
  rintro rfl
  exact hij ((wy (qe.mp a1).1 hS.ne.2.2.2.2.2.2).mp (a1.trans b1.symm))
 have hS2:=hS1.app ⟨(AH st.AA i).k,(AH st.AA i).n+(AH st.AA j).n,Aq (AH st.AA i).n (AH st.AA j).n (AH st.AA i).ow (AH st.AA j).ow⟩
 have ai:i<as.length:=(qe.mp a1).1
 have bj:j<as.length:=(qe.mp b1).1
 have a1':(as++[S1.length])[i]?=Gc a:=by rw[qZ ai];exact a1
 have b1':(as++[S1.length])[j]?=Gc b:=by rw[qZ bj];exact b1
 have hS3:=hS2.P4 (y:=⟨(AH st.AA i).k,0,(AH st.AA i).ow⟩) a1'
 have hS4:=hS3.P4 (y:=⟨(AH st.AA j).k,0,(AH st.AA j).ow⟩) b1'
 have hz:as.length<sizeLine:=qf (show as.length<50 by rw[hS.len];have:=h.len;lia) (AI (by decide))
 have est:step t st (.DR i j)={st with AA:=((st.AA++[Ld.mk (AH st.AA i).k ((AH st.AA i).n+(AH st.AA j).n) (Aq (AH st.AA i).n (AH st.AA j).n (AH st.AA i).ow (AH st.AA j).ow)]).set i ⟨(AH st.AA i).k,0,(AH st.AA i).ow⟩).set j ⟨(AH st.AA j).k,0,(AH st.AA j).ow⟩}:=by
  have e0:AH (less st.AA i (AH st.AA i).n) j=AH st.AA j:=by
   unfold AH less
   rw[qV,qc hij,<-qV]
  have e1:less st.AA i (AH st.AA i).n=st.AA.set i ⟨(AH st.AA i).k,0,(AH st.AA i).ow⟩:=by
   unfold less
   rw[Int.sub_self]
  have e2:less (less st.AA i (AH st.AA i).n) j (AH st.AA j).n=(st.AA.set i ⟨(AH st.AA i).k,0,(AH st.AA i).ow⟩).set j ⟨(AH st.AA j).k,0,(AH st.AA j).ow⟩:=by
   rw[UQ (ls:=less st.AA i (AH st.AA i).n),e0,Int.sub_self,e1]
  show{st with AA:=less (less st.AA i (AH st.AA i).n) j (AH st.AA j).n++_}=_
  rw[e2,z0 _ _ hi,z0 _ _ (by simpa using hj)]
 refine⟨_,_,?_,est▸hS4,?_,?_⟩
 .have r0:=AJ hS.root
  have lo:=AW hS.lo
  have c0:=AJ hS.lo
  have xa:=AW a2
  have xb:=AW b2
  have c1:=AJ hS1.lo
  have c4:DU (S1++[B3 ⟨(AH st.AA i).k,(AH st.AA i).n+(AH st.AA j).n,Aq (AH st.AA i).n (AH st.AA j).n (AH st.AA i).ow (AH st.AA j).ow⟩]) l=Gc (as.map D.ref):=AJ (by rw[qZ (AL hS1.lo)];exact hS1.lo)
  have c5:=AJ (hS2.ld i a (AH st.AA i) a1' (by show(st.AA++_)[i]?=_;rw[qZ hi];exact Ct hi))
  have c6:=AJ (hS3.ld j b (AH st.AA j) b1' (by show((st.AA++_).set i _)[j]?=_;rw[qc hij,qZ hj];exact Ct hj))
  simp only[B3]at xa xb c4 c5 c6⊢
  have hz':(as.map D.ref).length<sizeLine:=by simpa using hz
  generalize (as.map D.ref)=refs at*
  generalize Aq (AH st.AA i).n (AH st.AA j).n (AH st.AA i).ow (AH st.AA j).ow=pr at*
  simp[BI,FJ,AO.d,r0,lo,a3,b3,xa,xb,c0,e1]at c4 c5 c6⊢
  simp[c4,hz',c5,c6]
 .exact(((g1.mono λ_ z=>(nomatch z)).trans .app).trans (.set (by simp))).trans ((Bh.set (by simp[qx a1])).trans (.set (by simp[qx b1])))
 .intro n hn
  rcases rC.mp hn with w|w
  .exact .inl w
  .simp at w;subst w;exact .inr g1.len
theorem eX(hS:SAt S s l m as st)(ht:Jg t)(h:CQ t k st)(hk:k<=16){d:AO}(hc:Can t st d):∃S' as',BI [t.d,.ref s,d.d] S=Gc (.non,S')/\SAt S' s l m as' (step t st d)/\Bh (s::l::m::as) S S'/\∀n∈as',n∈as\/S.length<=n:=by
 cases d with
 |DV=>exact Xv hS ht h hk hc
 |DR=>exact aT hS ht h hk hc
 |swap=>exact aB hS ht h hk hc
 |C8=>exact XE hS ht h hk hc
 |FA=>exact WS hS ht h hk hc
 |thr=>exact eG hS ht h hk hc
 |JC=>exact Yx hS ht h hk hc
end
section
variable{st:Stt}{t:Tr}{k:Nat}
theorem Gu{a b:Nat}(h:a<=b):2^a<=2^b:=tu (by decide) h
theorem F1{a b:Nat}(h:a<=b):(2:Int)^a<=2^b:=by
 have:=Gu h
 exact_mod_cast this
theorem Ie{c:Int}(h:0<=c):((c.toNat:Nat):Rat)=(c:Rat):=by
 have:((c.toNat:Nat):Int)=c:=sN h
 have:(((c.toNat:Nat):Int):Rat)=(c:Rat):=by rw[this]
 exact this
theorem RK{B T k j:Nat}(hB:B<2^(30+170*k))(hT:T<2^j)(hj:j<=170):B*T<2^(30+170*(k+1)):=by
 have:=EV hB hT
 exact qf this (Gu (by lia))
theorem U0{G B P p:Nat}(h:G<=B):∀r∈JV P p,Ok G B r:=by
 intro r hr
 obtain⟨i,_,rfl⟩:=rW.mp hr
 split
 .exact Ok.one h
 .exact Ok.zero
theorem Oq{G B:Nat}{n m:Int}{ss os:Wp Rat}(hn:0<n)(hm:0<m)(hs:∀r∈ss,Ok G B r)(ho:∀r∈os,Ok G B r):∀r∈Aq n m ss os,Ok (G*(n+m).toNat) (B*(n+m).toNat) r:=by
 intro r hr
 unfold Aq at hr
 rw[vx]at hr
 obtain⟨i,hi'⟩:=hr
 rw[xZ]at hi'
 obtain⟨x,y,hx,hy,rfl⟩:=hi'
 have:=Ok.mix (a:=n.toNat) (b:=m.toNat) (t:=(n+m).toNat) (hs x (qx hx)) (ho y (qx hy)) (by lia) (by lia)
 rwa [Ie (by lia),Ie (by lia),Ie (by lia)]at this
theorem TZ{G B p q:Nat}{x:Rat}{ss:Wp Rat}(hp:p<ss.length)(hq:q<ss.length)(x1:0<x.num)(x2:x.num<=x.den)(hs:∀r∈ss,Ok G B r):∀r∈G9 p q x ss,Ok (G*x.den) (2*B*x.den) r:=by
 have dp:=x.den_pos
 have hsp:=hs _ (getD_mem (d:=0) hp)
 have hsq:=hs _ (getD_mem (d:=0) hq)
 have xs:=Dr x
 have ex:(x.num:Rat)=((x.num.toNat:Nat):Rat):=(Ie (by lia)).symm
 have nz:=IY x
 intro r hr
 unfold G9 at hr
 rcases vH hr with hr|hr
 .rcases vH hr with hr|hr
  .exact(hs r hr).up (by rw[yk];lia)
  .rw[hr]
   obtain⟨z,e,hz⟩:=Ok.mix (a:=x.den-x.num.toNat) (b:=x.num.toNat) (t:=x.den) hsp (Ok.zero (G:=G) (B:=B)) (by lia) dp
   refine⟨z,?_,qh hz (by rw[yk];lia)⟩
   rw[<-e]
   have e2:((x.den-x.num.toNat:Nat):Rat)=(x.den:Rat)-(x.num:Rat):=by
    have:(((x.den-x.num.toNat:Nat):Int):Rat)=((x.den-x.num:Int):Rat):=by
     congr 1;lia
    push_cast at this
    exact this
   rw[e2]
   generalize ss.getD p 0=sp at*
   congr 1
   grind
 .rw[hr]
  obtain⟨z,e1,hz⟩:=hsp
  obtain⟨y,e2,hy⟩:=hsq
  refine⟨y*x.den+z*x.num.toNat,?_,?_⟩
  .generalize ss.getD p 0=sp at*
   generalize ss.getD q 0=sq at*
   push_cast
   rw[<-ex,<-e1,<-e2]
   grind
  .have h1:y*x.den<=B*x.den:=t8 _ hy
   have h2:z*x.num.toNat<=B*x.den:=zy hz (by lia)
   rw[yk];lia
theorem Gb{f:Rat->Rat->Rat}{a b:Wp Rat}{n:Nat}(h:a.length=n)(g:b.length=n):(xC f a b).length=n:=by rw[List.length_zipWith,h,g];lia
theorem DK{P:Ld->Prop}{i:Nat}{n:Int}(hi:i<st.AA.length)(h:∀x∈st.AA,P x)(g:P ⟨(AH st.AA i).k,(AH st.AA i).n-n,(AH st.AA i).ow⟩):∀x∈less st.AA i n,P x:=by
 intro x hx
 rcases JA hx hi with h1|h1
 .exact h x h1
 .rw[h1];exact g
theorem HH{P:Ld->Prop}{ls:Wp Ld}{y:Ld}(h:∀x∈ls,P x)(g:P y):∀x∈ls++[y],P x:=by
 intro x hx
 rcases rC.mp hx with w|w
 .exact h x w
 .simp at w;rw[w];exact g
structure LOk(t:Tr)(k G B:Nat)(x:Ld):Prop where
 kd:x.k<t.k
 n0:0<=x.n
 n1:x.n<2^(131+k)
 own:x.ow.length=t.p
 ok:∀r∈x.ow,Ok G B r
theorem LOk.up{G B T B':Nat}{x:Ld}(h:LOk t k G B x)(hT:B*T<=B'):LOk t (k+1) (G*T) B' x:=⟨h.kd,h.n0,wZ h.n1 (F1 (by lia)),h.own,λr hr=>(h.ok r hr).up hT⟩
theorem LOk.up1{G B:Nat}{x:Ld}(h:LOk t k G B x):LOk t (k+1) G B x:=⟨h.kd,h.n0,wZ h.n1 (F1 (by lia)),h.own,h.ok⟩
theorem LOk.less{G B:Nat}{x:Ld}{n:Int}(h:LOk t k G B x)(h0:0<=n)(h1:n<=x.n):LOk t k G B ⟨x.k,x.n-n,x.ow⟩:=⟨h.kd,show 0<=x.n-n by lia,show x.n-n<_ by have:=h.n1;lia,h.own,h.ok⟩
theorem CQ.of{G B:Nat}(h1:st.AA.length<=4+k)(h2:∀x∈st.AA,LOk t k G B x)(h3:st.hold.length=t.p)(h4:st.nums.length<=k)(g0:0<G)(g1:G<=B)(g2:B<2^(30+170*k))(h5:∀r∈st.hold,Ok G B r):CQ t k st:=⟨h1,λx hx=>(h2 x hx).kd,λx hx=>⟨(h2 x hx).n0,(h2 x hx).n1⟩,λx hx=>(h2 x hx).own,h3,h4,G,B,g0,g1,g2,λx hx=>(h2 x hx).ok,h5⟩
theorem Yv{n:Int}(h:n<2^131):n<2^(131+k):=wZ h (F1 (by lia))
theorem KI(ht:Jg t)(h:CQ t k st)(hk:k<=16){d:AO}(hc:Can t st d):CQ t (k+1) (step t st d):=by
 obtain⟨G,B,g0,g1,g2,hl,hh⟩:=h.gb
 have L:∀x∈st.AA,LOk t k G B x:=λx hx=>⟨h.kind x hx,(h.pcs x hx).1,(h.pcs x hx).2,h.own x hx,hl x hx⟩
 have g2':B<2^(30+170*(k+1)):=qf g2 (Gu (by lia))
 have hlen:=h.len
 have hnm:=h.nm
 cases d with
 |DV p kd n=>
  obtain⟨h1,h2,h3,h4⟩:=hc
  refine CQ.of (G:=G) (B:=B) (by simp[step];lia) (HH (λx hx=>(L x hx).up1) ⟨h2,by show 0<=n;lia,Yv h4,by simp[JV],U0 g1⟩) h.hold (tL hnm) g0 g1 g2' hh
 |DR i j=>
  obtain⟨hij,hi,hj,h1,h2,h3⟩:=hc
  have li:=L _ (AQ hi)
  have lj:=L _ (AQ hj)
  have tl:((AH st.AA i).n+(AH st.AA j).n).toNat<2^(132+k):=by
   have a:=li.n1;have b:=lj.n1
   have e:(2:Int)^(132+k)=2^(131+k)*2:=by rw[show 132+k=(131+k)+1 by lia,xF]
   have:(((AH st.AA i).n+(AH st.AA j).n).toNat:Int)<((2^(132+k):Nat):Int):=by
    rw[sN (by lia)]
    push_cast
    rw[e];lia
   exact_mod_cast this
  have t0:0<((AH st.AA i).n+(AH st.AA j).n).toNat:=by lia
  refine CQ.of (G:=G*((AH st.AA i).n+(AH st.AA j).n).toNat) (B:=B*((AH st.AA i).n+(AH st.AA j).n).toNat) (by simp[step,AV];lia) (HH ?_ ⟨li.kd,by show 0<=(AH st.AA i).n+(AH st.AA j).n;lia,?_,?_,Oq h1 h2 li.ok lj.ok⟩) h.hold (tL hnm) (xY g0 t0) (t8 _ g1) (RK g2 tl (by lia)) (λr hr=>(hh r hr).up (qg _))
  .have e0:AH (less st.AA i (AH st.AA i).n) j=AH st.AA j:=by
    unfold AH less
    rw[qV,qc hij,<-qV]
   have A:=DK (P:=LOk t (k+1) (G*((AH st.AA i).n+(AH st.AA j).n).toNat) (B*((AH st.AA i).n+(AH st.AA j).n).toNat)) (n:=(AH st.AA i).n) hi (λx hx=>(L x hx).up (qg _)) ((li.up (qg _)).less (by lia) (z6 _))
   have A2:=DK (st:={st with AA:=less st.AA i (AH st.AA i).n}) (i:=j) (n:=(AH st.AA j).n) (by simpa[AV]using hj) A (by
    show LOk _ _ _ _ ⟨(AH (less st.AA i (AH st.AA i).n) j).k,(AH (less st.AA i (AH st.AA i).n) j).n-_,(AH (less st.AA i (AH st.AA i).n) j).ow⟩
    rw[e0]
    exact(lj.up (qg _)).less (by lia) (z6 _))
   exact A2
  .show(AH st.AA i).n+(AH st.AA j).n<2^(131+(k+1))
   have a:=li.n1;have b:=lj.n1
   rw[show 131+(k+1)=(131+k)+1 by lia,xF];lia
  .exact Gb li.own lj.own
 |swap i g kd n=>
  obtain⟨hi,h1,h2,h3,h4,h5,h6⟩:=hc
  have li:=L _ (AQ hi)
  refine CQ.of (G:=G) (B:=B) (by simp[step,AV];lia) (HH (DK hi (λx hx=>(L x hx).up1) (li.up1.less (by lia) h2)) ⟨h3,by show 0<=n;lia,Yv h6,li.own,li.ok⟩) h.hold (tL hnm) g0 g1 g2' hh
 |C8 u i g kd n=>
  obtain⟨hi,h1,h2,h3,h4,h5,h6,h7⟩:=hc
  have li:=L _ (AQ hi)
  refine CQ.of (G:=G) (B:=B) (by simp[step,AV];lia) (HH (DK hi (λx hx=>(L x hx).up1) (li.up1.less (by lia) h2)) ⟨h3,by show 0<=n;lia,Yv h6,li.own,li.ok⟩) h.hold (by simp[step];lia) g0 g1 g2' hh
 |FA i n=>
  obtain⟨hi,h1,h2⟩:=hc
  have li:=L _ (AQ hi)
  refine CQ.of (G:=G) (B:=B) (by simp[step,AV];lia) (DK hi (λx hx=>(L x hx).up1) (li.up1.less (by lia) h2)) h.hold (tL hnm) g0 g1 g2' hh
 |thr i n ws=>
  obtain⟨hi,h1,h2,h3,h4⟩:=hc
  have li:=L _ (AQ hi)
  have W:=KG ht h (by lia) h3 h4
  have wl:(Ep t st.AA ws).toNat<2^(145+k):=by
   have:((Ep t st.AA ws).toNat:Int)<((2^(145+k):Nat):Int):=by
    rw[sN (by lia)];push_cast;exact W.2
   exact_mod_cast this
  have bo:=λ{ss:Wp Rat} (hs:∀r∈ss,Ok G B r)=>V4 ht h (by lia) h3 h4 hi h1 h2 li.ok hs
  refine CQ.of (G:=G*(Ep t st.AA ws).toNat) (B:=B*(Ep t st.AA ws).toNat) (by simp[step,AV];lia) ?_ (Gb h.hold li.own) (tL hnm) (xY g0 (by lia)) (t8 _ g1) (RK g2 wl (by lia)) (bo hh)
  intro x hx
  obtain⟨y,hy,rfl⟩:=rW.mp hx
  have ly:=DK (P:=LOk t k G B) hi L (li.less (n:=n) (by lia) h2) y hy
  exact⟨ly.kd,ly.n0,ly.up1.n1,Gb ly.own li.own,bo ly.ok⟩
 |JC p q x=>
  obtain⟨h1,h2,h3,h4,h5,h6⟩:=hc
  have dp:=x.den_pos
  refine CQ.of (G:=G*x.den) (B:=2*B*x.den) (by simp[step];lia) ?_ (by simp[step,G9,h.hold]) (tL hnm) (xY g0 dp) (t8 _ (by lia)) ?_ (TZ (by rw[h.hold];exact h2) (by rw[h.hold];exact h3) h4 h5 hh)
  .intro y hy
   obtain⟨z,hz,rfl⟩:=rW.mp hy
   have lz:=L z hz
   exact⟨lz.kd,lz.n0,lz.up1.n1,by simp[G9,lz.own],TZ (by rw[lz.own];exact h2) (by rw[lz.own];exact h3) h4 h5 lz.ok⟩
  .have:=RK (B:=B) (T:=2*x.den) (j:=5) g2 (by lia) (by lia)
   rw[show 2*B*x.den=B*(2*x.den) by rw[<-yk,ve 2 B]]
   exact this
end
theorem Kc{α:Type}{f:α->D}:∀{xs:Wp α},(∀x∈xs,(f x).lay=true)->D.Qi (xs.map f)=true
 | [],_=>rfl
 |x::xs,h=>by
  show((f x).lay && D.Qi (xs.map f))=true
  rw[h x qp,Kc λy hy=>h y (qi _ hy)]
  rfl
theorem XM{ds:Wp D}(h:D.Qi ds=true):MI (.lst ds) (.lst [])=true:=by
 unfold MI
 show(D.Qi ds && true && _)=true
 rw[h]
 simp only[AAK,yb]
 exact qh (Nat.min_le_right _ _) (by decide)
noncomputable def AG(is:Wp Nat):Wp D:=is.map λ(i:Nat)=>D.int i
theorem D6{is:Wp Nat}:MI (.lst (AG is)) (.lst [])=true:=XM (Kc λ_ _=>rfl)
theorem XG{d:D}{ds:Wp D}:deq (.lst (d::ds)) (.lst [])=false:=rfl
theorem aO:deq (.lst []) (.lst [])=true:=rfl
theorem GW{is:Wp Nat}:deq (.lst (AG is)) (.lst [])=is.isEmpty:=by
 cases is with
 |nil=>exact aO
 |cons i is=>exact XG
theorem Fz{ds:Wp D}:JD 0 ds=(rO ds.length).map λ(i:Nat)=>D.tup [.int i,ds.getD i .non]:=by
 apply ya
 intro i
 rw[KZ,ql]
 by_cases h:i<ds.length
 .rw[qW h,wN h]
  simp[qW h]
 .rw[tW (by lia),tW (by simp;lia)]
  rfl
theorem IQ{is:Wp Nat}:(AG is).length=is.length:=by simp[AG]
theorem LR{is:Wp Nat}{r:Int}(h0:0<=r)(h1:r<is.length):∃i∈is,atI (AG is) r=Gc (.int (i:Nat)):=by
 have h2:r.toNat<is.length:=by lia
 refine⟨is[r.toNat],uE h2,?_⟩
 have:=X9 (xs:=AG is) h0 (by rw[IQ];exact h1)
 rw[this]
 simp[AG]
theorem TL{x K:Int}(h0:0<=x)(h1:x<2*K):x % K=if x<K then x else x-K:=by
 split
 .exact Int.emod_eq_of_lt h0 (by assumption)
 .have:x % K=(x-K) % K:=by rw[Int.sub_emod_right]
  rw[this]
  exact Int.emod_eq_of_lt (by lia) (by lia)
section
variable{S:Sto}{p s l m:Nat}{as:Wp Nat}{st:Stt}{t:Tr}{k:Nat}
noncomputable def B5(st:Stt):Wp Nat:=(rO st.AA.length).filter λi=>decide (0<(AH st.AA i).n)
theorem ZE(hS:SAt S s l m as st)(hl:st.AA.length<=50):Bs [(l,as.map D.ref)] (tTp [tNm 0,tNm 1]) (eOp (o2 wGt) [eOp (o2 wIx) [eV 1,eC (.int 1)],eC (.int 0)]) (eV 0) (JD 0 (as.map D.ref)) [] [none,none] S=Gc (AG (B5 st),S):=by
 have:=CG (gs:=[(l,as.map D.ref)]) (t:=tTp [tNm 0,tNm 1]) (c:=eOp (o2 wGt) [eOp (o2 wIx) [eV 1,eC (.int 1)],eC (.int 0)]) (f:=eV 0) (C:=[]) (m:=2) (e:=λi:Nat=>D.tup [.int i,(as.map D.ref).getD i .non]) (g:=λi:Nat=>D.int i) (b:=λi=>decide (0<(AH st.AA i).n)) (S:=S) hS.guard (xs:=rO st.AA.length) (acc:=[]) (os:=[none,none]) rfl (qh (show _<=50 by simp;lia) (AI (by decide))) (by
  intro i hi os ho
  obtain⟨o1,o2,rfl⟩:=kc ho
  obtain⟨a,a1,a2,a3⟩:=hS.at (tN.mp hi)
  have e:(as.map D.ref).getD i .non=.ref a:=by simp[a1]
  rw[e]
  refine⟨[Gc (.int i),Gc (.ref a)],rfl,by simp,?_,by simp⟩
  simp[AW a2,B3])
 rw[Fz,qy,hS.len]
 exact this
theorem KY{i:Nat}(h:i∈B5 st):i<st.AA.length/\0<(AH st.AA i).n:=by
 unfold B5 at h
 rw[uK]at h
 exact⟨tN.mp h.1,by simpa using h.2⟩
noncomputable def EF(st:Stt)(j:Nat):Wp Nat:=(B5 st).filter λi=> !(i==j) && ((AH st.AA i).k==(AH st.AA j).k)
theorem NK:(B5 st).length<=st.AA.length:=by
 unfold B5
 exact qh (sg _ _) (by simp)
theorem Xk{a b:Nat}:((a:Int)==(b:Int))=(a==b):=by
 by_cases h:a=b
 .subst h;simp
 .have:((a:Int)==(b:Int))=false:=by simp;lia
  rw[this];simp[h]
theorem aX(hS:SAt S s l m as st)(hl:st.AA.length<=50){j:Nat}(hj:j∈B5 st):Bs [] (tNm 2) (IM (eOp (o2 wNe) [eV 2,eV 1]) (eOp (o2 wEq) [eOp (o2 wIx) [eOp (o2 wIx) [eV 0,eV 2],eC (.int 0)],eOp (o2 wIx) [eOp (o2 wIx) [eV 0,eV 1],eC (.int 0)]])) (eV 2) (AG (B5 st)) [] [Gc (.ref l),Gc (.int j),none] S=Gc (AG (EF st j),S):=by
 have fl:=NK (st:=st)
 exact CG (gs:=[]) (t:=tNm 2) (f:=eV 2) (C:=[Gc (.ref l),Gc (.int j)]) (m:=1) (e:=λi:Nat=>D.int i) (g:=λi:Nat=>D.int i) (b:=λi=> !(i==j) && ((AH st.AA i).k==(AH st.AA j).k)) (S:=S) Aa (xs:=B5 st) (acc:=[]) (os:=[none]) rfl (qh (show _<=50 by simp;lia) (AI (by decide))) (by
  intro i hi os ho
  obtain⟨o1,rfl⟩:=V9 ho
  obtain⟨a,a1,a2,a3⟩:=hS.at (KY hi).1
  obtain⟨b,b1,b2,b3⟩:=hS.at (KY hj).1
  refine⟨[Gc (.int i)],rfl,by simp,?_,by simp⟩
  by_cases e:i=j
  .subst e
   simp
  .have e':((i:Int)==(j:Int))=false:=by simp;lia
   have e2:(i==j)=false:=by simp[e]
   simp[e',e2,AW hS.lo,a3,b3,AW a2,AW b2,B3,Xk])
theorem WZ{i j:Nat}(h:i∈EF st j):i∈B5 st/\i≠j/\(AH st.AA i).k=(AH st.AA j).k:=by
 unfold EF at h
 rw[uK]at h
 simp at h
 exact⟨h.1,h.2.1,h.2.2⟩
noncomputable def Ej(st:Stt):Wp Nat:=(rO 10).filter λi=> !(st.nums.any λu=>u==(i:Int))
theorem Mb{us:Wp Int}{i:Int}:inD (.int i) (us.map D.int)=us.any λu=>u==i:=by
 unfold inD
 rw[List.any_map]
 rfl
@[simp] theorem lT{b:Bool}{w:Wv}{r:List D}:wIn b w (.own r)=if(Gs (fz w) && r.all Gs)=true then some (.val (.bl (if b then !inD (fz w) r else inD (fz w) r)))else none:=nr rfl
@[simp] theorem kS{b:Bool}{w:Wv}{r:List D}:wIn b w (.val (.lst r))=if(Gs (fz w) && r.all Gs)=true then some (.val (.bl (if b then !inD (fz w) r else inD (fz w) r)))else none:=nr rfl
theorem N3{us:Wp Int}:(us.map D.int).all Gs=true:=by
 rw[xt,y0]
 intro x _;rfl
@[simp] theorem lr{i:Int}:Gs (.int i)=true:=nr rfl
theorem aK(hS:SAt S s l m as st):Bs [] (tNm 1) (eOp (o2 (wIn true)) [eV 1,eV 0]) (eV 1) (Ka 0 10) [] [Gc (.ref m),none] S=Gc (AG (Ej st),S):=by
 exact CG (gs:=[]) (t:=tNm 1) (f:=eV 1) (C:=[Gc (.ref m)]) (m:=1) (e:=λi:Nat=>D.int (0+(i:Int))) (g:=λi:Nat=>D.int i) (b:=λi=> !(st.nums.any λu=>u==(i:Int))) (S:=S) Aa (xs:=rO 10) (acc:=[]) (os:=[none]) rfl (qh (show _<=50 by simp) (AI (by decide))) (by
  intro i hi os ho
  obtain⟨o1,rfl⟩:=V9 ho
  refine⟨[Gc (.int i)],rfl,by simp,?_,by simp⟩
  have nu:=AW hS.nu
  have fi:=N3 (us:=st.nums)
  have ii:=Mb (us:=st.nums) (i:=(i:Int))
  generalize st.nums.map D.int=ud at*
  generalize (st.nums.any λu=>u==(i:Int))=bb at*
  simp[nu,fi,ii])
theorem W8{i:Nat}(h:i∈Ej st):(i:Int)∉st.nums/\i<=9:=by
 unfold Ej at h
 rw[uK]at h
 have h1:=tN.mp h.1
 refine⟨?_,by lia⟩
 intro z
 have h2:=h.2
 have:(st.nums.any λu=>u==(i:Int))=true:=uZ.mpr ⟨_,z,by simp⟩
 rw[this]at h2
 cases h2
theorem WA:(Ej st).length<=10:=by
 unfold Ej
 exact qh (sg _ _) (by simp)
theorem Wt{j:Nat}:(EF st j).length<=st.AA.length:=by
 unfold EF
 exact qh (sg _ _) NK
end
section
variable{S:Sto}{p s l m:Nat}{as:Wp Nat}{st:Stt}{t:Tr}{k:Nat}
def Tj:Ex:=(AU (xIf (IM (eOp (o2 wEq) [eV 7,eC (.int 7)]) (eOp (o2 wNe) [eV 12,FD []])) (BG (BH [eC (.str "trade"),eOp (o2 wIx) [eV 12,AE AD [eV 0,eOp (o1 DX) [eV 12]]],eV 8,eV 9,eV 11,AE Aw [eV 0]])) DY)
    (BG (BH [eC (.str "swap"),eV 8,eV 9,eV 11,AE Aw [eV 0]])))
def SU:Ex:=(AU (xIf (eOp (o2 wEq) [eV 7,eC (.int 8)]) (BG (BH [eC (.str "spoil"),eV 8,eV 9])) DY)
    (AU (xIf (IM (eOp (o2 wEq) [eV 7,eC (.int 9)]) (eOp (o2 wGt) [eOp (o2 wIx) [eV 1,eC (.int 0)],eC (.int 1)])) (AU (BC 13 (AE AD [eV 0,eOp (o2 wIx) [eV 1,eC (.int 0)]]))
    (BG (BH [eC (.str "sell"),eV 13,eOp (o2 PM) [eOp (o2 CP) [eOp (o2 CP) [eV 13,eC (.int 1)],AE AD [eV 0,eOp (o2 Le) [eOp (o2 wIx) [eV 1,eC (.int 0)],eC (.int 1)]]],eOp (o2 wIx) [eV 1,eC (.int 0)]],AE Et [eV 0]]))) DY)
    (BG (BH [eC (.str "throw"),eV 8,eV 9,AE C7 [eV 0,eOp (o2 CP) [eOp (o2 wIx) [eV 1,eC (.int 1)],eC (.int 1)]]]))))
def Oa:Ex:=(AU (xIf (IM (eOp (o2 wLt) [eV 7,eC (.int 8)]) (eOp (o2 wGt) [eOp (o2 wIx) [eV 1,eC (.int 1)],eC (.int 1)])) (AU (BC 11 (eOp (o2 PM) [eOp (o2 CP) [eOp (o2 CP) [eOp (o2 wIx) [eOp (o2 wIx) [eV 3,eV 8],eC (.int 0)],eC (.int 1)],AE AD [eV 0,eOp (o2 Le) [eOp (o2 wIx) [eV 1,eC (.int 1)],eC (.int 1)]]],eOp (o2 wIx) [eV 1,eC (.int 1)]]))
    (AU (BC 12 (CF [5] 1 (Mc [eC (.int 10)]) (tNm 1) (eOp (o2 (wIn true)) [eV 1,eV 0]) (eV 1)))
    Tj)) DY) SU)
def UB:Ex:=(xIf (eOp (o2 wLt) [eV 7,eC (.int 5)]) (AU (BC 10 (CF [3,8] 1 (Fd (eV 6)) (tNm 2) (IM (eOp (o2 wNe) [eV 2,eV 1]) (eOp (o2 wEq) [eOp (o2 wIx) [eOp (o2 wIx) [eV 0,eV 2],eC (.int 0)],eOp (o2 wIx) [eOp (o2 wIx) [eV 0,eV 1],eC (.int 0)]])) (eV 2)))
    (xIf (eOp (o2 wNe) [eV 10,FD []]) (BG (BH [eC (.str "pool"),eV 8,eOp (o2 wIx) [eV 10,AE AD [eV 0,eOp (o1 DX) [eV 10]]]])) DY)) DY)
def Sm:AO->Prop
 | .C8 _ _ g _ n=>g<=2000/\n<2^130
 |_=>ze
def Wu:Ex:=(AU (xIf (eOr (eOp (o2 wLt) [eV 7,eC (.int 2)]) (eOp (o2 wEq) [eV 6,FD []])) (BG (BH [eC (.str "bring"),AE AD [eV 0,eOp (o2 wIx) [eV 1,eC (.int 0)]],AE AD [eV 0,eOp (o2 wIx) [eV 1,eC (.int 1)]],AE Aw [eV 0]])) DY)
    (AU (BC 8 (eOp (o2 wIx) [eV 6,AE AD [eV 0,eOp (o1 DX) [eV 6]]]))
    (AU (BC 9 (eOp (o2 CP) [eC (.int 1),AE AD [eV 0,eOp (o2 bI) [eOp (o2 wIx) [eOp (o2 wIx) [eV 3,eV 8],eC (.int 1)],eC (.int 2000)]]]))
    (AU UB Oa))))
theorem Wd:MQ=(AU (PR (tTp [tNm 3,tNm 4,tNm 5]) (eV 2)) (AU (BC 6 (CF [] 2 (Qd (eV 3)) (tTp [tNm 0,tNm 1]) (eOp (o2 wGt) [eOp (o2 wIx) [eV 1,eC (.int 1)],eC (.int 0)]) (eV 0))) (AU (BC 7 (AE AD [eV 0,eC (.int 12)])) Wu))):=rfl
theorem WX(hp:B9 p S)(hS:SAt S s l m as st)(hps:p∉s::l::m::as)(ht:Jg t)(h:CQ t k st)(hk:k<=16):∃d S',Di [.ref p,t.d,.ref s] S=Gc (AO.d d,S')/\Pn p S S'/\Can t st d/\Sm d:=by
 obtain⟨t1,t2,t3,t4,t5,t6⟩:=ht
 have hlen:=h.len
 have st':∀{S':Sto},Pn p S S'->SAt S' s l m as st:=λg=>hS.same g.same (by simpa using hps)
 have r0:=AJ hS.root
 have cf:=ZE hS (by lia)
 have fl:=NK (st:=st)
 have sq:=EE hS.lo
 obtain⟨way,S1,e1,a1,b1,p1⟩:=Ah hp (n:=12) (by decide) (by decide)
 have okF:=D6 (is:=B5 st)
 have dqF:=GW (is:=B5 st)
 have pr0:Di [.ref p,t.d,.ref s] S=(Wu [Gc (.ref p),Gc t.d,Gc (.ref s),Gc (.ref l),Gc (shD st.hold),Gc (.ref m),Gc (.lst (AG (B5 st))),Gc (.int way),none,none,none,none,none,none] S1).map λr=>(flD r.1,r.2.2):=by
  simp[Di,Wd,r0,sq,cf,e1]
 by_cases hb:way<2\/(B5 st).isEmpty=true
 .obtain⟨x2,S2,e2,a2,b2,p2⟩:=Ah p1.pen (n:=t.p) (by lia) (by lia)
  obtain⟨x3,S3,e3,a3,b3,p3⟩:=Ah p2.pen (n:=t.k) (by lia) (by lia)
  obtain⟨x4,S4,e4,p4,a4,b4⟩:=La p3.pen
  obtain⟨x2,rfl⟩:=FY a2
  obtain⟨x3,rfl⟩:=FY a3
  refine⟨.DV x2 x3 x4,S4,?_,((p1.trans p2).trans p3).trans p4,⟨by lia,by lia,a4,b4⟩,trivial⟩
  rw[pr0]
  have ho:∀(x y:Ex),xIf (eOr (eOp (o2 wLt) [eV 7,eC (.int 2)]) (eOp (o2 wEq) [eV 6,FD []])) x y [Gc (.ref p),Gc t.d,Gc (.ref s),Gc (.ref l),Gc (shD st.hold),Gc (.ref m),Gc (.lst (AG (B5 st))),Gc (.int way),none,none,none,none,none,none] S1=x [Gc (.ref p),Gc t.d,Gc (.ref s),Gc (.ref l),Gc (shD st.hold),Gc (.ref m),Gc (.lst (AG (B5 st))),Gc (.int way),none,none,none,none,none,none] S1:=by
   intro x y
   by_cases hw:way<2
   .simp[hw]
   .simp[hw,okF,dqF,hb.resolve_left hw]
  simp[Wu,-TU,ho]
  simp[Tr.d,e2,e3,e4,AO.d]
 .have hw2:¬way<2:=λz=>hb (.inl z)
  have hf:(B5 st).isEmpty=false:=by
   cases z:(B5 st).isEmpty with
   |true=>exact absurd (.inr z) hb
   |false=>rfl
  have hfl:0<(B5 st).length:=by
   cases z:B5 st with
   |nil=>rw[z]at hf;cases hf
   |cons a b=>simp
  obtain⟨rl,S2,e2,a2,b2,p2⟩:=Ah p1.pen (n:=(B5 st).length) (by lia) (by lia)
  obtain⟨i,mi,ei⟩:=LR a2 b2
  have fi:=KY mi
  have hS1:=st' p1
  have hS2:=st' (p1.trans p2)
  obtain⟨a,x1,x2,x3⟩:=hS2.at fi.1
  have n1:=fi.2
  obtain⟨rs,S3,e3,a3,b3,p3⟩:=Ah p2.pen (n:=if 2000<(AH st.AA i).n then 2000 else(AH st.AA i).n) (by split<;>lia) (by split<;>lia)
  have hsome:1<=1+rs/\1+rs<=(AH st.AA i).n:=by split at b3<;>lia
  have p23:=(p1.trans p2).trans p3
  have hS3:=st' p23
  have lo2:=AW hS2.lo
  have lo3:=AW hS3.lo
  have x2':=AW x2
  have x4:S3[a]?=Gc (B3 (AH st.AA i)):=hS3.ld i a _ x1 (Ct fi.1)
  have x4':=AW x4
  have kd:=h.kind _ (AQ fi.1)
  have nl:=IQ (is:=B5 st)
  have cs:=aX hS3 (by lia) mi
  have okS:=D6 (is:=EF st i)
  have dqS:=GW (is:=EF st i)
  have sl:=Wt (st:=st) (j:=i)
  have nls:=IQ (is:=EF st i)
  have pre:Di [.ref p,t.d,.ref s] S=((UB [Gc (.ref p),Gc t.d,Gc (.ref s),Gc (.ref l),Gc (shD st.hold),Gc (.ref m),Gc (.lst (AG (B5 st))),Gc (.int way),Gc (.int i),Gc (.int (1+rs)),none,none,none,none] S3).bind (bN Oa)).map λr=>(flD r.1,r.2.2):=by
   rw[pr0]
   simp[Wu,hw2,okF,dqF,hf,nl,e2,ei,lo2,x3,x2',e3]
  have tail:∀o10,(way<5->(EF st i).isEmpty=true)->∃d S',(Oa [Gc (.ref p),Gc t.d,Gc (.ref s),Gc (.ref l),Gc (shD st.hold),Gc (.ref m),Gc (.lst (AG (B5 st))),Gc (.int way),Gc (.int i),Gc (.int (1+rs)),o10,none,none,none] S3).map (λr=>(flD r.1,r.2.2))=Gc (AO.d d,S')/\Pn p S S'/\Can t st d/\Sm d:=by
   intro o10 _
   generalize hE:([Gc (.ref p),Gc t.d,Gc (.ref s),Gc (.ref l),Gc (shD st.hold),Gc (.ref m),Gc (.lst (AG (B5 st))),Gc (.int way),Gc (.int i),Gc (.int (1+rs)),o10,none,none,none]:En)=E
   clear pre cs okS dqS
   by_cases hsw:way<8/\1<t.k
   .obtain⟨hw8,hk1⟩:=hsw
    have hk1':(1:Int)<t.k:=by lia
    obtain⟨rk,S4,e4,a4,b4,p4⟩:=Ah p3.pen (n:=(t.k:Int)-1) (by lia) (by lia)
    have hS4:=st' (p23.trans p4)
    have hmod:=TL (x:=((AH st.AA i).k:Int)+1+rk) (K:=t.k) (by lia) (by lia)
    obtain⟨kd2,ekd⟩:∃q:Nat,((AH st.AA i).k+1+rk) % (t.k:Int)=(q:Int):=⟨_,(sN (vL _ (by lia))).symm⟩
    have hkd:kd2<t.k/\kd2≠(AH st.AA i).k:=by
     rw[ekd]at hmod
     split at hmod<;>lia
    have kp:0<t.k:=by lia
    have cl:=aK hS4
    have okL:=D6 (is:=Ej st)
    have dqL:=GW (is:=Ej st)
    have ll:=WA (st:=st)
    have nll:=IQ (is:=Ej st)
    have rt:IJ 10=true:=DQ (by decide) (by decide)
    have mid:Oa E S3=(Tj [Gc (.ref p),Gc t.d,Gc (.ref s),Gc (.ref l),Gc (shD st.hold),Gc (.ref m),Gc (.lst (AG (B5 st))),Gc (.int way),Gc (.int i),Gc (.int (1+rs)),o10,Gc (.int kd2),Gc (.lst (AG (Ej st))),none] S4).bind (bN SU):=by
     subst hE
     simp[Oa,Tr.d,x3,hw8,hk1',lo3,x4',e4,kp,ekd,rt,cl]
    rw[mid]
    clear mid hE
    by_cases htr:way=7/\(Ej st).isEmpty=false
    .obtain⟨hw7,hle⟩:=htr
     have hll:0<(Ej st).length:=by
      cases z:Ej st with
      |nil=>rw[z]at hle;cases hle
      |cons a b=>simp
     obtain⟨ru,S5,e5,a5,b5,p5⟩:=Ah p4.pen (n:=(Ej st).length) (by lia) (by lia)
     obtain⟨u,mu,eu⟩:=LR a5 b5
     obtain⟨x6,S6,e6,p6,a6,b6⟩:=ME p5.pen
     have fu:=W8 mu
     refine⟨.C8 u i (1+rs) kd2 x6,S6,?_,((p23.trans p4).trans p5).trans p6,⟨fi.1,hsome.1,hsome.2,hkd.1,hkd.2,a6,Int.lt_trans b6 (by decide),fu.1,by lia,by lia⟩,by split at b3<;>lia,b6⟩
     subst hw7
     simp[Tj,okL,dqL,hle,nll,e5,eu,e6,AO.d]
    .obtain⟨x6,S6,e6,p6,a6,b6⟩:=La p4.pen
     refine⟨.swap i (1+rs) kd2 x6,S6,?_,(p23.trans p4).trans p6,⟨fi.1,hsome.1,hsome.2,hkd.1,hkd.2,a6,b6⟩,trivial⟩
     by_cases h7:way=7
     .subst h7
      have hle:(Ej st).isEmpty=true:=by
       cases z:(Ej st).isEmpty with
       |true=>rfl
       |false=>exact absurd ⟨rfl,z⟩ htr
      simp[Tj,okL,dqL,hle,e6,AO.d]
     .have h7':(way==7)=false:=by simpa using h7
      simp[Tj,h7',e6,AO.d]
   .have sw:Oa E S3=SU E S3:=by
     subst hE
     by_cases w8:way<8
     .have hk1:¬(1:Int)<t.k:=by lia
      simp[Oa,Tr.d,w8,hk1]
     .simp[Oa,w8]
    rw[sw]
    clear sw
    by_cases h8:way=8
    .subst h8
     refine⟨.FA i (1+rs),S3,?_,p23,⟨fi.1,hsome.1,hsome.2⟩,trivial⟩
     subst hE
     simp[SU,AO.d]
    .have h8':(way==8)=false:=by simpa using h8
     by_cases h9:way=9/\1<t.p
     .obtain⟨h9,hP⟩:=h9
      subst h9
      have hP':(1:Int)<t.p:=by lia
      obtain⟨rp,S4,e4,a4,b4,p4⟩:=Ah p3.pen (n:=t.p) (by lia) (by lia)
      obtain⟨rq,S5,e5,a5,b5,p5⟩:=Ah p4.pen (n:=(t.p:Int)-1) (by lia) (by lia)
      obtain⟨sh,S6,e6,p6,a6,b6,c6⟩:=Wy p5.pen
      have hmod:=TL (x:=rp+1+rq) (K:=t.p) (by lia) (by lia)
      obtain⟨q,eq⟩:∃q:Nat,(rp+1+rq) % (t.p:Int)=(q:Int):=⟨_,(sN (vL _ (by lia))).symm⟩
      obtain⟨rp,rfl⟩:=FY a4
      have hq:q<t.p/\q≠rp:=by
       rw[eq]at hmod
       split at hmod<;>lia
      have pp:0<t.p:=by lia
      refine⟨.JC rp q sh,S6,?_,((p23.trans p4).trans p5).trans p6,⟨λz=>hq.2 z.symm,by lia,hq.1,a6,b6,c6⟩,trivial⟩
      subst hE
      simp[SU,Tr.d,hP',e4,e5,pp,eq,e6,AO.d]
     .have s9:∀(x y:Ex) (T:Sto),xIf (IM (eOp (o2 wEq) [eV 7,eC (.int 9)]) (eOp (o2 wGt) [eOp (o2 wIx) [eV 1,eC (.int 0)],eC (.int 1)])) x y E T=y E T:=by
       intro x y T
       subst hE
       by_cases z:way=9
       .have hP:¬(1:Int)<t.p:=by have:¬1<t.p:=λw=>h9 ⟨z,w⟩;lia
        subst z
        simp[Tr.d,hP]
       .have z':(way==9)=false:=by simpa using z
        simp[z']
      obtain⟨ws,S4,e4,p4,a4,b4⟩:=Ve p3.pen (n:=t.k+1) (by lia)
      have e4':C7 [.ref p,.int ((t.k:Int)+1)] S3=Gc (.tup (ws.map .int),S4):=e4
      refine⟨.thr i (1+rs) ws,S4,?_,p23.trans p4,⟨fi.1,hsome.1,hsome.2,a4,b4⟩,trivial⟩
      have s8:∀(x y:Ex) (T:Sto),xIf (eOp (o2 wEq) [eV 7,eC (.int 8)]) x y E T=y E T:=by
       intro x y T
       subst hE
       simp[h8']
      simp[SU,-TU,s8,s9]
      subst hE
      simp[Tr.d,e4',AO.d]
  by_cases hpool:way<5/\(EF st i).isEmpty=false
  .obtain⟨hw5,hse⟩:=hpool
   have hsl:0<(EF st i).length:=by
    cases z:EF st i with
    |nil=>rw[z]at hse;cases hse
    |cons a b=>simp
   obtain⟨rj,S4,e4,a4,b4,p4⟩:=Ah p3.pen (n:=(EF st i).length) (by lia) (by lia)
   obtain⟨j,mj,ej⟩:=LR a4 b4
   have fj:=WZ mj
   have fj':=KY fj.1
   refine⟨.DR i j,S4,?_,p23.trans p4,⟨λz=>fj.2.1 z.symm,fi.1,fj'.1,n1,fj'.2,fj.2.2.symm⟩,trivial⟩
   rw[pre]
   simp[UB,hw5,cs,okS,dqS,hse,nls,e4,ej,AO.d]
  .by_cases w5:way<5
   .have hse:(EF st i).isEmpty=true:=by
     cases z:(EF st i).isEmpty with
     |true=>rfl
     |false=>exact absurd ⟨w5,z⟩ hpool
    obtain⟨d,S',e,pn,hc⟩:=tail (Gc (.lst (AG (EF st i)))) (λ_=>hse)
    refine⟨d,S',?_,pn,hc⟩
    rw[pre,<-e]
    simp[UB,w5,cs,okS,dqS,hse]
   .obtain⟨d,S',e,pn,hc⟩:=tail none (λz=>absurd z w5)
    refine⟨d,S',?_,pn,hc⟩
    rw[pre,<-e]
    simp[UB,w5]
end
noncomputable def runs(t:Tr)(st:Stt)(ds:Wp AO):Stt:=ds.foldl (step t) st
def II(t:Tr):Stt->Wp AO->Prop
 |_,[]=>ze
 |st,d::ds=>Can t st d/\II t (step t st d) ds
theorem Hg{t:Tr}{d:AO}:∀{ds:Wp AO} {st:Stt},II t st ds->Can t (runs t st ds) d->II t st (ds++[d])
 | [],st,_,h=>⟨h,trivial⟩
 |x::ds,st,h,g=>⟨h.1,Hg h.2 g⟩
theorem RQ{t:Tr}:∀{ds:Wp AO} {st:Stt} {i:Nat} {d:AO},II t st ds->ds[i]?=Gc d->Can t (runs t st (ds.take i)) d
 |x::ds,st,0,d,h,g=>by
  simp at g;subst g
  exact h.1
 |x::ds,st,i+1,d,h,g=>by
  simp at g
  show Can t (runs t (step t st x) (ds.take i)) d
  exact RQ h.2 g
theorem Ir{t:Tr}{st:Stt}{ds:Wp AO}{d:AO}:runs t st (ds++[d])=step t (runs t st ds) d:=by simp[runs]
theorem Vf{t:Tr}{st:Stt}{ds:Wp AO}{i:Nat}{d:AO}(h:ds[i]?=Gc d):runs t st (ds.take (i+1))=step t (runs t st (ds.take i)) d:=by
 rw[List.take_succ,h]
 exact Ir
theorem KW{t:Tr}(ht:Jg t):∀{ds:Wp AO} {st:Stt} {k:Nat},CQ t k st->II t st ds->k+ds.length<=17->CQ t (k+ds.length) (runs t st ds)
 | [],st,k,h,_,_=>h
 |d::ds,st,k,h,g,hl=>by
  have:=KW ht (ds:=ds) (KI ht h (by simp at hl;lia) g.1) g.2 (by simp at hl;lia)
  rw[show k+(d::ds).length=k+1+ds.length by simp;lia]
  exact this
theorem JH{t:Tr}:∀{ds:Wp AO} {st:Stt} {i:Nat},II t st ds->II t st (ds.take i)
 | [],st,i,h=>by simp;exact trivial
 |d::ds,st,0,h=>trivial
 |d::ds,st,i+1,h=>⟨h.1,JH h.2⟩
noncomputable def st0(t:Tr)(ls:Wp Ld):Stt:=⟨ls,t.ho,[]⟩
structure IT(t:Tr)(ls:Wp Ld)(ds:Wp AO):Prop where
 tr:Jg t
 inv:CQ t 0 (st0 t ls)
 good:II t (st0 t ls) ds
 len:ds.length<=16
theorem IT.at{t:Tr}{ls:Wp Ld}{ds:Wp AO}(h:IT t ls ds)(i:Nat):CQ t (ds.take i).length (runs t (st0 t ls) (ds.take i)):=by
 have:=KW h.tr (ds:=ds.take i) h.inv (JH h.good) (by have:=h.len;simp;lia)
 rwa [w9]at this
noncomputable def As(t:Tr)(ls:Wp Ld)(ds:Wp AO):D:=.tup [t.d,.tup (ls.map Ld.d),.tup (ds.map AO.d)]
theorem TY{t:Tr}{ls:Wp Ld}(h:GS t ls)(hl:ls.length<=4)(h1:t.ho.length=t.p){g:Nat}(g0:0<g)(g1:g<=32)(g2:∀r∈t.ho,Ok g g r):CQ t 0 (st0 t ls):=by
 obtain⟨ha,G,G0,G1,G2⟩:=h
 have hG:G<=32^4:=qh G1 (tu (by decide) hl)
 have hB:G*g<2^30:=by
  have:=zy hG g1
  lia
 refine CQ.of (G:=G*g) (B:=G*g) (by simpa[st0]using hl) ?_ h1 (qg _) (xY G0 g0) (qg _) hB ?_
 .intro x hx
  have:=ha x hx
  exact⟨this.1,by lia,Yv this.2.2.1,this.2.2.2.1,λr hr=>(G2 x hx r hr).up (qg _)⟩
 .intro r hr
  have:=(g2 r hr).up (t:=G) (B':=G*g) (by rw[ve];exact qg _)
  rwa [ve g G]at this
noncomputable def IX:AO->rR
 | .thr .. =>true
 |_=>false
section
variable{S:Sto}{p:Nat}
theorem Wn(d:AO)(E:En)(h:E=[Gc d.d]):eOp (o2 wEq) [eOp (o2 wIx) [eV 0,eC (.int 0)],eC (.str "throw")] E S=Gc (.bl (IX d),S):=by
 subst h
 cases d<;>simp[AO.d,IX]
theorem nQ{q:Nat}{ds:Wp AO}(hq:S[q]?=Gc (.lst (ds.map AO.d)))(hl:ds.length<=50):Bs [(q,ds.map AO.d)] (tNm 0) (eOp (o2 wEq) [eOp (o2 wIx) [eV 0,eC (.int 0)],eC (.str "throw")]) (eV 0) (ds.map AO.d) [] [none] S=Gc ((ds.filter IX).map AO.d,S):=
 CG (gs:=[(q,ds.map AO.d)]) (t:=tNm 0) (f:=eV 0) (C:=[]) (m:=1) (e:=AO.d) (g:=AO.d) (b:=IX) (S:=S) (λg hg=>by rw[q8.mp hg];exact AJ hq) (xs:=ds) (acc:=[]) (os:=[none]) rfl (qh (show _<=50 by simp;lia) (AI (by decide))) (by
  intro d _ os ho
  obtain⟨o1,rfl⟩:=V9 ho
  exact⟨[Gc d.d],rfl,by simp,Wn d _ rfl,by simp⟩)
theorem WM{M:Nat}(hM:M<=16)(h:B9 p S):∃t ls ds S',Ci [.ref p,.int M] S=Gc (As t ls ds,S')/\(IT t ls ds/\ds.length<=M/\(∀d∈ds,Sm d)/\lW t)/\((∀l∈ls,l.ow.sum=1)/\t.ho.sum=1)/\B9 p S'/\∀n c,S[n]?=Gc c->n≠p->S'[n]?=Gc c:=by
 obtain⟨t,S1,e1,p1,ht,⟨hh,hhr⟩,g,g0,g1,g2⟩:=Tw h
 obtain⟨ls,S2,e2,p2,hf,hl⟩:=XT p1.pen ht
 have hi:=TY hf hl hh.1 g0 g1 g2
 obtain⟨s,l,m,as,S3,e3,hS,sm,hn⟩:=Qh (S:=S2) (t:=t) (ls:=ls) (x:=.tup []) (by lia)
 have lp:=p2.pen.lt
 have l02:S.length<=S2.length:=qh p1.same.len p2.same.len
 have pen3:B9 p S3:=by
  obtain⟨ds,e,hp⟩:=p2.pen
  exact⟨ds,sm.get e (by simp),hp⟩
 have hq:(S3++[Cl.lst []])[S3.length]?=Gc (.lst []):=qm
 obtain⟨rn,S4,e4,a4,b4,p4⟩:=Ah (pen3.app [Cl.lst []]) (n:=(M:Int)+1) (by lia) (by lia)
 have lt3:=hS.lts
 have pn:p∉s::l::m::as:=λz=>by have:=hn p z;lia
 have qn:S3.length∉s::l::m::as:=λz=>by have:=lt3 _ z;lia
 have hpq:S3.length≠p:=by have:=pen3.lt;lia
 have hS4:SAt S4 s l m as (st0 t ls):=(hS.SN (.app)).same p4.same (by simpa using pn)
 have hq4:S4[S3.length]?=Gc (.lst []):=p4.get hq hpq
 obtain⟨rn,rfl⟩:=FY a4
 have rk:IJ (rn:Int)=true:=DQ (by lia) (by lia)
 have lqS:S.length<=S3.length:=qh l02 sm.len
 generalize hQ:S3.length=q at*
 obtain⟨E',S',ef,ds,as',o6,o7,rfl,f1,f2,f3,f4,f5,f6,f7,f8,f9,f10⟩:=Ed (gs:=[]) (t:=tNm 6) (b:=AU (BC 7 (AE Di [eV 0,eV 2,eV 4]))
  (xIf (eOr (eOp (o2 wNe) [eOp (o2 wIx) [eV 7,eC (.int 0)],eC (.str "throw")]) (eOp (o2 wLt) [eOp (o1 DX) [CF [] 1 (Fd (eV 5)) (tNm 0) (eOp (o2 wEq) [eOp (o2 wIx) [eV 0,eC (.int 0)],eC (.str "throw")]) (eV 0)],eC (.int 3)])) (AU (Ao (AE BI [eV 2,eV 4,eV 7]))
  (Ao (EL EN (eV 5) [eV 7]))) DY))
  (I:=λrs E S'=>∃(ds:Wp AO) (as':Wp Nat) (o6 o7:qY D),E=[Gc (.ref p),Gc (.int M),Gc t.d,Gc (.tup (ls.map Ld.d)),Gc (.ref s),Gc (.ref q),o6,o7]/\S'[q]?=Gc (.lst (ds.map AO.d))/\B9 p S'/\SAt S' s l m as' (runs t (st0 t ls) ds)/\II t (st0 t ls) ds/\ds.length+rs.length<=M/\p∉s::l::m::as'/\q∉s::l::m::as'/\(∀n∈s::l::m::as',S.length<=n)/\(∀n c,S[n]?=Gc c->n≠p->S'[n]?=Gc c)/\∀d∈ds,Sm d)
  (λ_ _ _ _=>Aa) (ds:=Ka 0 rn) (E:=[Gc (.ref p),Gc (.int M),Gc t.d,Gc (.tup (ls.map Ld.d)),Gc (.ref s),Gc (.ref q),none,none]) (S:=S4)
  ⟨[],as,none,none,rfl,hq4,p4.pen,hS4,trivial,by rw[GH];simp;lia,pn,qn,λn z=>qh l02 (hn n z),λn c e ne=>p4.get (Bh.get (A:=[]) .app (sm.get (p2.get (p1.get e ne) ne) (by simp)) (by simp)) ne,λ_ z=>nomatch z⟩ (by
    rintro dd rs E T ⟨ds,as',o6,o7,rfl,i1,i2,i3,i4,i5,i6,i7,i8,i9,i10⟩
    simp only[rV]at i5
    have inv:=KW ht hi i4 (by lia)
    rw[w9]at inv
    obtain⟨d,T1,d1,d2,d3,d4⟩:=WX i2 i3 i6 ht inv (by lia)
    have lS:S.length<=T1.length:=by have:=i8 s qp;have:=AL i3.root;have:=d2.same.len;lia
    have j3:=i3.same d2.same (by simpa using i6)
    have j1:T1[q]?=Gc (.lst (ds.map AO.d)):=d2.get i1 hpq
    have tc:=nQ j1 (by lia)
    have w1:∀(c:Ev),eOr (eOp (o2 wNe) [eOp (o2 wIx) [eV 7,eC (.int 0)],eC (.str "throw")]) c [Gc (.ref p),Gc (.int M),Gc t.d,Gc (.tup (ls.map Ld.d)),Gc (.ref s),Gc (.ref q),Gc dd,Gc d.d] T1=if IX d=true then c [Gc (.ref p),Gc (.int M),Gc t.d,Gc (.tup (ls.map Ld.d)),Gc (.ref s),Gc (.ref q),Gc dd,Gc d.d] T1 else Gc (.bl true,T1):=by
     intro c
     cases d<;>simp[AO.d,IX]
    by_cases hb:IX d=false\/(ds.filter IX).length<3
    .obtain⟨T2,as2,k1,k2,k3,k4⟩:=eX j3 ht inv (by lia) d3
     have lt:=j3.lts
     have q2:T2[q]?=Gc (.lst (ds.map AO.d)):=k3.get j1 i7
     have hz:ds.length<sizeLine:=qf (show ds.length<50 by lia) (AI (by decide))
     refine⟨_,[Gc (.ref p),Gc (.int M),Gc t.d,Gc (.tup (ls.map Ld.d)),Gc (.ref s),Gc (.ref q),Gc dd,Gc d.d],T2.set q (.lst ((ds++[d]).map AO.d)),by simp;rfl,?_,ds++[d],as2,Gc dd,Gc d.d,rfl,qo (AL q2),?_,?_,Hg i4 d3,by simp;lia,?_,?_,?_,?_,λx hx=>(rC.mp hx).elim (i10 x) λz=>by rw[q8.mp z];exact d4⟩
     .have kk:=AJ q2
      have sq:=EE j1
      have hz':(ds.map AO.d).length<sizeLine:=by simpa using hz
      have hfin:(ds++[d]).map AO.d=ds.map AO.d++[d.d]:=by simp
      rw[hfin]
      generalize hDD:ds.map AO.d=DD at*
      cases ht':IX d with
      |false=>
       simp[d1,-P6,w1,ht',k1,kk,hz']
      |true=>
       have h3:((ds.filter IX).length:Int)<3:=by
        have:=hb.resolve_left (by rw[ht'];simp)
        lia
       simp[d1,-P6,w1,ht',sq,tc,h3,k1,kk,hz']
     .obtain⟨pd,pe,ph⟩:=d2.pen
      exact⟨pd,by rw[qc hpq];exact k3.get pe i6,ph⟩
     .rw[Ir]
      exact k2.same (A:=[q]) (.set (by simp)) (by
       intro n hn z
       simp at hn;subst hn
       simp only[qj]at z i7
       rcases z with z|z|z|z
       .exact i7 (.inl z)
       .exact i7 (.inr (.inl z))
       .exact i7 (.inr (.inr (.inl z)))
       .rcases k4 _ z with w|w
        .exact i7 (.inr (.inr (.inr w)))
        .have:=AL j1;lia)
     .intro z
      simp only[qj]at z i6
      rcases z with z|z|z|z
      .exact i6 (.inl z)
      .exact i6 (.inr (.inl z))
      .exact i6 (.inr (.inr (.inl z)))
      .rcases k4 _ z with w|w
       .exact i6 (.inr (.inr (.inr w)))
       .have:=d2.pen.lt;lia
     .intro z
      simp only[qj]at z i7
      rcases z with z|z|z|z
      .exact i7 (.inl z)
      .exact i7 (.inr (.inl z))
      .exact i7 (.inr (.inr (.inl z)))
      .rcases k4 _ z with w|w
       .exact i7 (.inr (.inr (.inr w)))
       .have:=AL j1;lia
     .intro n z
      simp only[qj]at z i8
      rcases z with z|z|z|z
      .exact i8 n (.inl z)
      .exact i8 n (.inr (.inl z))
      .exact i8 n (.inr (.inr (.inl z)))
      .rcases k4 _ z with w|w
       .exact i8 n (.inr (.inr (.inr w)))
       .exact qh lS w
     .intro n c e ne
      have ln:n<S.length:=AL e
      rw[qc (λz=>by have:=lqS;lia)]
      exact k3.get (d2.get (i9 n c e ne) ne) λz=>by have:=i8 n z;lia
    .have ht':IX d=true:=by
      cases z:IX d with
      |true=>rfl
      |false=>exact absurd (.inl z) hb
     have h3:¬((ds.filter IX).length:Int)<3:=by
      have:¬(ds.filter IX).length<3:=λz=>hb (.inr z)
      lia
     refine⟨_,[Gc (.ref p),Gc (.int M),Gc t.d,Gc (.tup (ls.map Ld.d)),Gc (.ref s),Gc (.ref q),Gc dd,Gc d.d],T1,by simp;rfl,?_,ds,as',Gc dd,Gc d.d,rfl,j1,d2.pen,j3,i4,by lia,i6,i7,i8,λn c e ne=>d2.get (i9 n c e ne) ne,i10⟩
     have sq:=EE j1
     generalize hDD:ds.map AO.d=DD at*
     simp[d1,-P6,w1,ht',sq,tc,h3])
 refine⟨t,ls,ds,S',?_,⟨⟨ht,hi,f4,by simp at f5;lia⟩,by simpa using f5,f10,hhr⟩,⟨λx hx=>(hf.1 x hx).2.2.2.2,hh.2⟩,f2,f9⟩
 have df:=AW f1
 simp[Ci,MH,e1,e2,e3,hQ,e4,rk,ef,df,As]
theorem X5{M:Nat}(hM:M<=16)(h:B9 p S):∃t ls ds S',Ci [.ref p,.int M] S=Gc (As t ls ds,S')/\(IT t ls ds/\ds.length<=M/\∀d∈ds,Sm d)/\((∀l∈ls,l.ow.sum=1)/\t.ho.sum=1)/\B9 p S'/\∀n c,S[n]?=Gc c->n≠p->S'[n]?=Gc c:=
 let⟨t,ls,ds,S',a,b,c⟩:=WM hM h
 ⟨t,ls,ds,S',a,⟨b.1,b.2.1,b.2.2.1⟩,c⟩
theorem XR{M:Nat}(hM:M<=16)(h:B9 p S):∃t ls ds S',Ci [.ref p,.int M] S=Gc (As t ls ds,S')/\(IT t ls ds/\ds.length<=M)/\((∀l∈ls,l.ow.sum=1)/\t.ho.sum=1)/\B9 p S'/\∀n c,S[n]?=Gc c->n≠p->S'[n]?=Gc c:=by
 obtain⟨t,ls,ds,S',a,b,c⟩:=X5 hM h
 exact⟨t,ls,ds,S',a,⟨b.1,b.2.1⟩,c⟩
theorem av{M:Nat}(hM:M<=16)(h:B9 p S):∃t ls ds S',Ci [.ref p,.int M] S=Gc (As t ls ds,S')/\(IT t ls ds/\ds.length<=M)/\((∀l∈ls,l.ow.sum=1)/\t.ho.sum=1)/\B9 p S':=by
 obtain⟨t,ls,ds,S',a,b,c,d,_⟩:=XR hM h
 exact⟨t,ls,ds,S',a,b,c,d⟩
end
section
variable{S:Sto}{s l m:Nat}{as:Wp Nat}{st:Stt}
theorem Sy{rs:Wp Rat}:D.tup (rs.map aD)=shD rs:=rfl
end
theorem P1{n m d:Nat}(h:n<=m):HT.sIx m d (Gc (n:Int))=n:=by
 unfold HT.sIx
 have:¬((n:Int)<0):=by lia
 simp[this]
 lia
theorem Nq{α:Type}{ds:Wp α}{n:Nat}(h:n<=ds.length):Lc ds none (Gc (n:Int))=ds.take n:=by
 unfold Lc
 rw[P1 h]
 simp[HT.sIx]
theorem Qt{α:Type}{ds:Wp α}{n:Nat}(h:n<=ds.length):Lc ds (Gc (n:Int)) none=ds.drop n:=by
 unfold Lc
 rw[P1 h]
 simp[HT.sIx]
 exact vh (by simp)
noncomputable def hD(x:Ld):D:=.tup [.int x.k,.int x.n]
noncomputable def BS(ls:Wp Ld):D:=.lst (ls.map hD)
section
variable{S:Sto}{ls:Wp Ld}{i j:Nat}{n:Int}
@[simp] theorem kz:dr S (BS ls)=.val (BS ls):=nr rfl
@[simp] theorem gQ:asS (.val (BS ls))=some (ls.map hD):=nr rfl
@[simp] theorem iQ:DX (.val (BS ls))=some (.val (.int ls.length)):=by
  show DX (.val (.lst (ls.map hD)))=_
  rw[ND,qy]
theorem Es(hi:i<ls.length):atI (ls.map hD) (i:Int)=Gc (hD (AH ls i)):=Bf (by rw[ql,Ct hi];rfl)
theorem MJ(hi:i<ls.length):atI (ls.map λx=>shD x.ow) (i:Int)=Gc (shD (AH ls i).ow):=Bf (by rw[ql,Ct hi];rfl)
@[simp] theorem om{x:Ld}:dr S (hD x)=.val (.tup [.int x.k,.int x.n]):=nr rfl
@[simp] theorem mP{ts:List Tf}{x:Ld}{E:En}:tTp ts (hD x) E S=tMs ts [.int x.k,.int x.n] E S:=nr rfl
theorem Nx(hi:i<ls.length)(hn:n<=(AH ls i).n):Bp [BS ls,.int i,.int n] S=Gc (.bl true,S):=by
 have hi':(i:Int)<ls.length:=by lia
 simp[Bp,Hs,hi',hi,Es hi,hn]
theorem P2(hi:i<ls.length)(hj:j<ls.length)(h1:0<(AH ls i).n)(h2:0<(AH ls j).n)(hk:(AH ls i).k=(AH ls j).k):FR [BS ls,.int i,.int j] S=Gc (.bl true,S):=by
 have e1:=Nx (S:=S) (n:=1) hi (by lia)
 have e2:=Nx (S:=S) (n:=1) hj (by lia)
 simp[FR,Jd,e1,e2,Es hi,Es hj,hk]
theorem Ks{k:Nat}(hi:i<ls.length)(hn:n<=(AH ls i).n)(hk:k≠(AH ls i).k):EB [BS ls,.int i,.int n,.int k] S=Gc (.bl true,S):=by
 have e1:=Nx (S:=S) hi hn
 have e2:(((AH ls i).k:Int)==(k:Int))=false:=by simp;lia
 simp[EB,Jt,e1,Es hi,e2]
theorem WQ{lo hi:qY Int}:wSl lo hi (.val (BS ls))=Gc (.own (Lc (ls.map hD) lo hi)):=nr rfl
theorem EZ(hi:i<ls.length)(hl:ls.length<=60):BN [BS ls,.int i,.int n] S=Gc (BS (less ls i n),S):=by
 have c1:=Nq (ds:=ls.map hD) (n:=i) (by simp;lia)
 have c2:Lc (ls.map hD) (Gc ((i:Int)+1)) none=(ls.map hD).drop (i+1):=by
  have:=Qt (ds:=ls.map hD) (n:=i+1) (by simp;lia)
  simpa using this
 have ef:BS (less ls i n)=.lst ((ls.map hD).take i++[.tup [.int (AH ls i).k,.int ((AH ls i).n-n)]]++(ls.map hD).drop (i+1)):=by
  rw[UQ,BS,xD,List.set_eq_take_append_cons_drop,q9 (by simpa using hi)]
  simp[hD]
 have z1:(List.take i (ls.map hD)).length+1<=sizeLine:=qh (show _<=100 by simp;lia) (AI (by decide))
 have z2:(List.take i (ls.map hD)++[D.tup [.int (AH ls i).k,.int ((AH ls i).n-n)]]).length+(List.drop (i+1) (ls.map hD)).length<=sizeLine:=qh (show _<=100 by simp;lia) (AI (by decide))
 rw[ef]
 have ah:=Es hi
 have ws:=λ{lo hi:qY Int}=>WQ (ls:=ls) (lo:=lo) (hi:=hi)
 generalize List.take i (ls.map hD)=A at*
 generalize List.drop (i+1) (ls.map hD)=B at*
 simp only[rZ,rV,uA]at z2
 simp[BN,Gq,ah,ws,c1,c2,z1,z2]
end
section
variable{S:Sto}{st:Stt}{t:Tr}{k:Nat}
@[simp] theorem Dz{ls:List Ld}{r:List D}:CP (.val (BS ls)) (.val (.lst r))=if(ls.map hD).length+r.length<=sizeLine then some (.own (ls.map hD++r))else none:=nr rfl
theorem Ke{ls:Wp Ld}{y:Ld}:D.lst (ls.map hD++[.tup [.int y.k,.int y.n]])=BS (ls++[y]):=by simp[BS,hD]
theorem O8(h:CQ t k st)(hk:k<=17){d:AO}(hc:Can t st d):Ad [BS st.AA,d.d] S=Gc (BS (step t st d).AA,S):=by
 have hlen:=h.len
 have hz:(st.AA.map hD).length+1<=sizeLine:=qh (show _<=100 by simp;lia) (AI (by decide))
 have hz2:∀{i:Nat} {n:Int},((less st.AA i n).map hD).length+1<=sizeLine:=λ{i n}=>qh (show _<=100 by simp[AV];lia) (AI (by decide))
 cases d with
 |DV p kd n=>
  have e:=Ke (ls:=st.AA) (y:=⟨kd,n,JV t.p p⟩)
  show _=Gc (BS (st.AA++[⟨kd,n,JV t.p p⟩]),S)
  rw[<-e]
  have wA:=Dz (ls:=st.AA) (r:=[.tup [.int kd,.int n]])
  rw[q9 (by simpa using hz)]at wA
  simp[Ad,BF,AO.d,-Dz,wA]
 |DR i j=>
  obtain⟨hij,hi,hj,h1,h2,h3⟩:=hc
  have e0:AH (less st.AA i (AH st.AA i).n) j=AH st.AA j:=by
   unfold AH less
   rw[qV,qc hij,<-qV]
  have w1:=EZ (S:=S) (n:=(AH st.AA i).n) hi (by lia)
  have w2:=EZ (S:=S) (ls:=less st.AA i (AH st.AA i).n) (i:=j) (n:=(AH st.AA j).n) (by rw[AV];exact hj) (by rw[AV];lia)
  have z3:((less (less st.AA i (AH st.AA i).n) j (AH st.AA j).n).map hD).length+1<=sizeLine:=qh (show _<=100 by simp[AV];lia) (AI (by decide))
  have e:=Ke (ls:=less (less st.AA i (AH st.AA i).n) j (AH st.AA j).n) (y:=⟨(AH st.AA i).k,(AH st.AA i).n+(AH st.AA j).n,Aq (AH st.AA i).n (AH st.AA j).n (AH st.AA i).ow (AH st.AA j).ow⟩)
  show _=Gc (BS (less (less st.AA i (AH st.AA i).n) j (AH st.AA j).n++[_]),S)
  rw[<-e]
  have a1:=Es hi
  have a2:=Es hj
  have wA:=Dz (ls:=less (less st.AA i (AH st.AA i).n) j (AH st.AA j).n) (r:=[.tup [.int (AH st.AA i).k,.int ((AH st.AA i).n+(AH st.AA j).n)]])
  rw[q9 (by simpa using z3)]at wA
  generalize (less (less st.AA i (AH st.AA i).n) j (AH st.AA j).n).map hD=A at*
  simp[Ad,BF,AO.d,a1,a2,w1,w2,-Dz,wA]
 |swap i g kd n=>
  obtain⟨hi,h1,h2,h3,h4,h5,h6⟩:=hc
  have w1:=EZ (S:=S) (n:=g) hi (by lia)
  have e:=Ke (ls:=less st.AA i g) (y:=⟨kd,n,(AH st.AA i).ow⟩)
  show _=Gc (BS (less st.AA i g++[⟨kd,n,(AH st.AA i).ow⟩]),S)
  rw[<-e]
  have wA:=Dz (ls:=less st.AA i g) (r:=[.tup [.int kd,.int n]])
  rw[q9 (by simpa using hz2)]at wA
  simp[Ad,BF,AO.d,w1,-Dz,wA]
 |C8 u i g kd n=>
  obtain⟨hi,h1,h2,h3,h4,h5,h6,h7⟩:=hc
  have w1:=EZ (S:=S) (n:=g) hi (by lia)
  have e:=Ke (ls:=less st.AA i g) (y:=⟨kd,n,(AH st.AA i).ow⟩)
  show _=Gc (BS (less st.AA i g++[⟨kd,n,(AH st.AA i).ow⟩]),S)
  rw[<-e]
  have wA:=Dz (ls:=less st.AA i g) (r:=[.tup [.int kd,.int n]])
  rw[q9 (by simpa using hz2)]at wA
  simp[Ad,BF,AO.d,w1,-Dz,wA]
 |FA i n=>
  obtain⟨hi,h1,h2⟩:=hc
  have w1:=EZ (S:=S) (n:=n) hi (by lia)
  show _=Gc (BS (less st.AA i n),S)
  simp[Ad,BF,AO.d,w1]
 |thr i n ws=>
  obtain⟨hi,h1,h2,h3,h4⟩:=hc
  have w1:=EZ (S:=S) (n:=n) hi (by lia)
  have e:BS (step t st (.thr i n ws)).AA=BS (less st.AA i n):=by
   show D.lst (((less st.AA i n).map _).map hD)=_
   rw[r9];rfl
  rw[e]
  simp[Ad,BF,AO.d,w1]
 |JC p q x=>
  have e:BS (step t st (.JC p q x)).AA=BS st.AA:=by
   show D.lst ((st.AA.map _).map hD)=_
   rw[r9];rfl
  rw[e]
  simp[Ad,BF,AO.d]
noncomputable def Gk:AO->qY Int
 | .C8 u .. =>Gc u
 |_=>none
theorem Vz{ls:Wp Ld}:∀{ds:Wp AO},(runs t (st0 t ls) ds).nums=ds.filterMap Gk:=by
 intro ds
 have:∀(ds:Wp AO) (st:Stt),(runs t st ds).nums=st.nums++ds.filterMap Gk:=by
  intro ds
  induction ds with
  |nil=>intro st;simp[runs]
  |cons d ds ih=>
   intro st
   show(runs t (step t st d) ds).nums=_
   rw[ih]
   cases d<;>simp[step,Gk,sM]
 rw[this];rfl
theorem Js:∀{ds:Wp AO} {acc:Wp D} {o:qY D},acc.length+ds.length<=100->Bs [] (tNm 0) (eOp (o2 wEq) [eOp (o2 wIx) [eV 0,eC (.int 0)],eC (.str "trade")]) (eOp (o2 wIx) [eV 0,eC (.int 1)]) (ds.map AO.d) acc [o] S=Gc (acc++(ds.filterMap Gk).map D.int,S)
 | [],acc,o,h=>by rw[uC,F2 Aa];simp
 |d::ds,acc,o,h=>by
  have hz:acc.length<sizeLine:=qf (show acc.length<101 by simp at h;lia) (AI (by decide))
  have ht:tNm 0 d.d [o] S=Gc [Gc d.d]:=by simp
  rw[rD]
  cases d with
  |C8 u i g kd n=>
   rw[JW Aa hz ht (S1:=S) (by simp[AO.d])]
   have:eOp (o2 wIx) [eV 0,eC (.int 1)] [Gc (AO.C8 u i g kd n).d] S=Gc (.int u,S):=by simp[AO.d]
   rw[this,Ab,Js (by simp at h ⊢; lia)]
   simp[Gk,sM]
  |DV=>rw[IH Aa hz ht (S1:=S) (by simp[AO.d]),Js (by simp at h ⊢; lia)];simp[Gk,sM]
  |DR=>rw[IH Aa hz ht (S1:=S) (by simp[AO.d]),Js (by simp at h ⊢; lia)];simp[Gk,sM]
  |swap=>rw[IH Aa hz ht (S1:=S) (by simp[AO.d]),Js (by simp at h ⊢; lia)];simp[Gk,sM]
  |FA=>rw[IH Aa hz ht (S1:=S) (by simp[AO.d]),Js (by simp at h ⊢; lia)];simp[Gk,sM]
  |thr=>rw[IH Aa hz ht (S1:=S) (by simp[AO.d]),Js (by simp at h ⊢; lia)];simp[Gk,sM]
  |JC=>rw[IH Aa hz ht (S1:=S) (by simp[AO.d]),Js (by simp at h ⊢; lia)];simp[Gk,sM]
theorem Uq{ds:Wp AO}{d:AO}(hd:ds.length<=50)(hn:st.nums=ds.filterMap Gk)(hc:Can t st d):Bv [BS st.AA,.tup (ds.map AO.d),d.d] S=Gc (.bl true,S):=by
 cases d with
 |DV p kd n=>simp[Bv,C6,AO.d]
 |DR i j=>
  obtain⟨hij,hi,hj,h1,h2,h3⟩:=hc
  have e:=P2 (S:=S) hi hj h1 h2 h3
  simp[Bv,C6,AO.d,e]
 |swap i g kd n=>
  obtain⟨hi,h1,h2,h3,h4,h5,h6⟩:=hc
  have e:=Ks (S:=S) (k:=kd) hi h2 h4
  simp[Bv,C6,AO.d,e]
 |C8 u i g kd n=>
  obtain⟨hi,h1,h2,h3,h4,h5,h6,h7,h8⟩:=hc
  have e:=Ks (S:=S) (k:=kd) hi h2 h4
  have tc:=Js (S:=S) (ds:=ds) (acc:=[]) (o:=none) (by simp;lia)
  rw[<-hn]at tc
  have fi:=N3 (us:=st.nums)
  have ii:=Mb (us:=st.nums) (i:=u)
  have iu:(st.nums.any λx=>x==u)=false:=by
   rw[List.any_eq_false]
   intro x hx z
   have:x=u:=by simpa using z
   exact h7 (this▸hx)
  rw[iu]at ii
  generalize st.nums.map D.int=ud at*
  simp[Bv,C6,AO.d,tc,fi,ii,e]
 |FA i n=>
  obtain⟨hi,h1,h2⟩:=hc
  have e:=Nx (S:=S) hi h2
  simp[Bv,C6,AO.d,e]
 |thr i n ws=>
  obtain⟨hi,h1,h2,h3,h4⟩:=hc
  have e:=Nx (S:=S) hi h2
  simp[Bv,C6,AO.d,e]
 |JC p q x=>simp[Bv,C6,AO.d]
end
section
variable{S:Sto}{st:Stt}{t:Tr}{k:Nat}
theorem Xx{ss os:Wp Rat}:Lh (ss.map aD) (os.map aD)=(ss.zip os).map λz=>D.tup [aD z.1,aD z.2]:=by
 unfold Lh
 rw[List.zip_map,r9]
 rfl
noncomputable def cZ(w m:Int)(ss os:Wp Rat):Wp Rat:=xC (λs o=>(s*w+o*m) / (w+m)) ss os
theorem Gy{w m:Int}{ss os:Wp Rat}{j n:Nat}(hs:∀r∈ss,Sz j r)(ho:∀r∈os,Sz j r)(hw:w.natAbs<2^n)(hm:m.natAbs<2^n)(h:0<w+m)(hj:2*j+n+1<=7990)(hl:ss.length<=50):Cr [shD ss,.int w,shD os,.int m] S=Gc (shD (cZ w m ss os),S):=by
 have e:=CL (gs:=[]) (t:=tTp [tNm 2,tNm 3]) (f:=AE HJ [eV 2,eV 0,eV 3,eV 1]) (C:=[Gc (.int w),Gc (.int m)]) (m:=2) (e:=λz:Rat×Rat=>D.tup [aD z.1,aD z.2]) (g:=λz=>aD ((z.1*w+z.2*m) / (w+m))) (S:=S) Aa (xs:=ss.zip os) (acc:=[]) (os:=[none,none]) rfl (qh (show _<=50 by simp;lia) (AI (by decide))) (by
  intro z hz os' ho'
  obtain⟨q1,q2,rfl⟩:=kc ho'
  have hm2:=vJ (a:=z.1) (b:=z.2) hz
  have l:=eN (S:=S) (hs _ hm2.1) (ho _ hm2.2) hw hm h (by lia)
  refine⟨[Gc (aD z.1),Gc (aD z.2)],rfl,by simp,?_⟩
  simp[l])
 rw[<-Xx]at e
 have em:(ss.zip os).map (λz=>aD ((z.1*w+z.2*m) / (w+m)))=(cZ w m ss os).map aD:=by
  unfold cZ
  rw[<-List.map_uncurry_zip_eq_zipWith,r9]
  rfl
 rw[em]at e
 simp only[sY,sF]at e
 simp[Cr,Gp,e,Sy]
theorem JB{P p:Nat}(hP:P<=50):BU [.int P,.int p] S=Gc (shD (JV P p),S):=by
 have e:=RY (S:=S) (P:=P) (p:=p) (cond:=0) (C:=[]) (dd:=.int p) (f:=eIf (eOp (o2 wEq) [eV 1,eV 0]) (eC Tq) (eC HB)) hP (by
  intro i
  by_cases hi:i=p
  .subst hi;simp;rfl
  .have:((i:Int)==(p:Int))=false:=by simp;lia
   simp[this,hi];rfl)
 have rn:IJ (P:Int)=true:=DQ (by lia) (by lia)
 simp[BU,Ho,rn,e,Sy]
theorem LI{n m:Int}{ss os:Wp Rat}:cZ n m ss os=Aq n m ss os:=by
 unfold cZ Aq
 congr 1
 funext s o
 push_cast
 rfl
theorem Pc{n m:Int}{ss os:Wp Rat}:Aq n m ss os=Aq m n os ss:=by
 unfold Aq
 rw[List.zipWith_comm]
 congr 1
 funext o s
 push_cast
 grind
@[simp] theorem UP{a b:Int}:Fp [a,b]=if a<=b then [a,b]else [b,a]:=by
  unfold Fp
  simp[List.mergeSort,AAd,List.merge]
@[simp] theorem QJ{a b:Int}:Me (.val (.lst [.int a,.int b]))=some (.own ((if a<=b then [a,b]else [b,a]).map D.int)):=by
  have:Me (.val (.lst [.int a,.int b]))=Gc (.own ((Fp [a,b]).map D.int)):=rfl
  rw[this,UP]
@[simp] theorem gy{a b c d e:D}:atI [a,b,c,d,e] (-4)=some b:=nr rfl
@[simp] theorem g9{a b c d e f:D}:atI [a,b,c,d,e,f] (-4)=some c:=nr rfl
end
section
variable{S:Sto}{st:Stt}{t:Tr}{k:Nat}
theorem ML{ls:Wp Ld}{x y:D}(hl:ls.length<=50):BY [.tup [x,.tup (ls.map Ld.d),y]] S=Gc (BS ls,S):=by
 have e:=CL (gs:=[]) (t:=tNm 0) (f:=BH [eOp (o2 wIx) [eV 0,eC (.int 0)],eOp (o2 wIx) [eV 0,eC (.int 1)]]) (C:=[]) (m:=1) (e:=Ld.d) (g:=hD) (S:=S) Aa (xs:=ls) (acc:=[]) (os:=[none]) rfl (qh (show _<=50 by simp;lia) (AI (by decide))) (by
  intro x hx os ho
  obtain⟨q1,rfl⟩:=V9 ho
  refine⟨[Gc x.d],rfl,by simp,?_⟩
  simp[Ld.d,hD])
 simp only[sF]at e
 simp[BY,Ft,e,BS]
end
theorem kN{n:Nat}:∀{ds:Wp D},(∀d∈ds,d.py.depth<=n)->zU (D.pys ds)<=n
 | [],_=>by simp[D.pys,zU]
 |d::ds,h=>by
  have h1:=h d qp
  have h2:=kN λe he=>h e (qi _ he)
  simp only[D.pys,zU]
  lia
theorem kH{n:Nat}{ds:Wp D}(h:∀d∈ds,d.py.depth<=n):(D.lst ds).py.depth<=n+1:=by
 have:=kN h
 simp only[D.py,PyData.depth]
 lia
theorem lG{n:Nat}{ds:Wp D}(h:∀d∈ds,d.py.depth<=n):(D.tup ds).py.depth<=n+1:=by
 have:=kN h
 simp only[D.py,PyData.depth]
 lia
theorem bT{i:Int}{n:Nat}:(D.int i).py.depth<=n+1:=by
 simp only[D.py,PyData.depth]
 lia
theorem Ov{d:D}(h:d.lay=true)(g:d.py.depth<=60):MI d d=true:=by
 unfold MI
 rw[h]
 simp only[AAK,yb]
 lia
theorem NJ{d:D}(h:d.lay=true):deq d d=true:=PySem.SeqAt.eqv_refl _ (JY h)
section
variable{S:Sto}
theorem Zm{ns:Wp Int}{k:Nat}:∃c,Ce [.scr ns,.int k] S=Gc (.int c,S):=by
 by_cases h:k<ns.length
 .have h':(k:Int)<ns.length:=by lia
  refine⟨ns[k],?_⟩
  have e:atI (ns.map D.int) (k:Int)=Gc (.int ns[k]):=Bf (by rw[ql,qW h];rfl)
  simp[Ce,Gh,h,h',e]
 .have h':¬(k:Int)<ns.length:=by lia
  exact⟨0,by simp[Ce,Gh,h,h']⟩
end
theorem Yr:aD 0=.tup [.int 0,.int 1]:=rfl
def ZI(ls:Wp Ld):Prop:=∀l∈ls,l.ow.sum=1
theorem QA{a b:Rat}:∀{ss os:Wp Rat},ss.length=os.length->(xC (λs o=>s*a+o*b) ss os).sum=ss.sum*a+os.sum*b
 | [],[],_=>by simp;grind
 |s::ss,o::os,h=>by
  rw[zL,tK,tK,tK,QA (by simpa using h)]
  grind
theorem VW{x:Rat}{os ss:Wp Rat}(h:ss.length=os.length)(h1:ss.sum=1)(h2:os.sum=1):(Im x os ss).sum=1:=by
 unfold Im
 rw[QA h,h1,h2]
 grind
theorem SO{n m:Int}{ss os:Wp Rat}(h:ss.length=os.length)(h1:ss.sum=1)(h2:os.sum=1)(h0:0<n+m):(Aq n m ss os).sum=1:=by
 have hc:((n+m:Int):Rat)≠0:=by
  intro z
  have:=uh.mp z
  lia
 have e:(λ(s o:Rat)=>(s*n+o*m) / ((n+m:Int):Rat))=λs o=>s*((n:Rat) / ((n+m:Int):Rat))+o*((m:Rat) / ((n+m:Int):Rat)):=by
  funext s o
  grind
 unfold Aq
 rw[e,QA h,h1,h2]
 push_cast at hc⊢
 grind
theorem QX{v:Rat}:∀{l:Wp Rat} {i:Nat},i<l.length->(l.set i v).sum=l.sum-l.getD i 0+v
 |a::l,0,_=>by
  rw[AAc,tK,tK]
  simp
  grind
 |a::l,i+1,h=>by
  rw[List.set_cons_succ,tK,tK,QX (by simpa using h)]
  simp
  grind
theorem W5{p q:Nat}{x:Rat}{ss:Wp Rat}(hpq:p≠q)(hp:p<ss.length)(hq:q<ss.length):(G9 p q x ss).sum=ss.sum:=by
 unfold G9
 rw[QX (by simpa using hq),QX hp]
 have:(ss.set p (ss.getD p 0-ss.getD p 0*x)).getD q 0=ss.getD q 0:=by
  rw[qV,qc hpq,<-qV]
 rw[this]
 grind
theorem Pg{i:Nat}:∀{n:Nat},(JV n i).sum=if i<n then 1 else 0
 |0=>by simp[JV]
 |n+1=>by
  have ih:=Pg (i:=i) (n:=n)
  unfold JV at ih⊢
  rw[List.range_succ,tU,List.sum_append,ih]
  by_cases h:n=i
  .subst h;simp;grind
  .have:i<n+1↔i<n:=by lia
   simp[h,this]
   grind
section
variable{t:Tr}{k:Nat}{st:Stt}{d:AO}
theorem Fw{ls:Wp Ld}(h:ZI ls){l:Nat}{n:Int}(hl:l<ls.length):ZI (less ls l n):=λx hx=>by
 rcases JA hx hl with hx|rfl
 .exact h x hx
 .exact(h (AH ls l) (AQ hl):)
theorem IP{ls:Wp Ld}(h:ZI ls){y:Ld}(hy:y.ow.sum=1):ZI (ls++[y]):=λx hx=>by
 rcases rC.mp hx with hx|hx
 .exact h x hx
 .rw[q8.mp hx];exact hy
theorem VL(h:CQ t k st)(hc:Can t st d)(ho:ZI st.AA):ZI (step t st d).AA:=by
 cases d with
 |DV p kd n=>
  refine IP ho ?_
  rw[Pg,q9 hc.1]
 |DR i j=>
  obtain⟨hij,hi,hj,h1,h2,h3⟩:=hc
  refine IP (Fw (Fw ho hi) (by rw[AV];exact hj)) ?_
  exact SO (by rw[h.own _ (AQ hi),h.own _ (AQ hj)]) (ho _ (AQ hi)) (ho _ (AQ hj)) (by lia)
 |swap i g kd n=>exact IP (Fw ho hc.1) (ho (AH st.AA i) (AQ hc.1):)
 |C8 u i g kd n=>exact IP (Fw ho hc.1) (ho (AH st.AA i) (AQ hc.1):)
 |FA i n=>exact Fw ho hc.1
 |thr i n ws=>
  intro x hx
  obtain⟨y,hy,rfl⟩:=rW.mp hx
  have hl:=hc.1
  have ly:y.ow.length=t.p:=by
   rcases JA hy hl with hy|rfl
   .exact h.own y hy
   .exact(h.own (AH st.AA i) (AQ hl):)
  exact VW (by rw[ly,h.own _ (AQ hl)]) (Fw ho hl y hy) (ho _ (AQ hl))
 |JC p q x=>
  intro y hy
  obtain⟨z,hz,rfl⟩:=rW.mp hy
  obtain⟨h1,h2,h3,_⟩:=hc
  have:=h.own z hz
  show(G9 p q x z.ow).sum=1
  rw[W5 h1 (by lia) (by lia)]
  exact ho z hz
end
noncomputable def Hn:AO->rR
 | .DV .. =>true
 | .DR .. =>true
 | .swap .. =>true
 | .C8 .. =>true
 |_=>false
noncomputable def tO(t:Tr)(M:Nat):Tr:={t with p:=M}
noncomputable def G7(i:Nat):AO->qY AO
 | .DV _ k n=>Gc (.DV i k n)
 | .DR a b=>Gc (.DR a b)
 | .swap l g k n=>Gc (.swap l g k n)
 | .C8 _ l g k n=>Gc (.swap l g k n)
 | .FA l n=>Gc (.FA l n)
 | .thr l n _=>Gc (.FA l n)
 | .JC _ _ _=>none
noncomputable def CK(t:Tr)(M:Nat)(s:Stt)(d:AO):Stt:=match G7 s.AA.length d with
 |some d'=>step (tO t M) s d'
 |none=>s
noncomputable def VP(t:Tr)(M:Nat)(s:Stt)(ds:Wp AO):Stt:=ds.foldl (CK t M) s
noncomputable def Pj(M:Nat)(ls:Wp Ld):Stt:=⟨(rO ls.length).map λi=>⟨(AH ls i).k,(AH ls i).n,JV M i⟩,qz M 0,[]⟩
noncomputable def kn(x:Ld):Nat×Int:=(x.k,x.n)
def Hd(s o:Stt):Prop:=s.AA.map kn=o.AA.map kn
section
variable{t:Tr}{M k:Nat}{s o:Stt}{d:AO}
theorem Hd.len(h:Hd s o):s.AA.length=o.AA.length:=by have:=congrArg yT h;simpa using this
theorem Hd.at(h:Hd s o){i:Nat}(hi:i<s.AA.length):(AH s.AA i).k=(AH o.AA i).k/\(AH s.AA i).n=(AH o.AA i).n:=by
 have hj:i<o.AA.length:=by rw[<-h.len];exact hi
 have e:=congrArg (λl=>l[i]?) h
 simp only[ql,Ct hi,Ct hj,Option.map_some]at e
 injection e with e
 exact⟨congrArg Prod.fst e,congrArg Prod.snd e⟩
theorem Hd.held(h:Hd s o):BS s.AA=BS o.AA:=by
 have e:∀ls:Wp Ld,ls.map hD=(ls.map kn).map λz=>D.tup [.int z.1,.int z.2]:=λls=>by rw[r9];rfl
 unfold BS
 rw[e,e,h]
theorem UY{ls:Wp Ld}{i:Nat}{n:Int}:(less ls i n).map kn=(ls.map kn).set i ((AH ls i).k,(AH ls i).n-n):=by
 unfold less
 rw[xD]
 rfl
theorem JI{ls os:Wp Ld}{i:Nat}{n:Int}(h:ls.map kn=os.map kn)(hk:(AH ls i).k=(AH os i).k)(hn:(AH ls i).n=(AH os i).n):(less ls i n).map kn=(less os i n).map kn:=by
 rw[UY,UY,h,hk,hn]
theorem Fm{ls:Wp Ld}{i j:Nat}{n:Int}(h:i≠j):AH (less ls i n) j=AH ls j:=by
 unfold AH less
 rw[qV,qc h,<-qV]
theorem Nc{ls os:Wp Ld}{x y:Ld}(h:ls.map kn=os.map kn)(e:kn x=kn y):(ls++[x]).map kn=(os++[y]).map kn:=by
 rw[tU,tU,h];simp[e]
theorem Hd.step(h:Hd s o)(hc:Can t s d):Hd (Mi.step t s d) (CK t M o d):=by
 cases d with
 |DV p kd n=>exact Nc h rfl
 |DR i j=>
  obtain⟨hij,hi,hj,h1,h2,h3⟩:=hc
  have ai:=h.at hi
  have aj:=h.at hj
  refine Nc ?_ (by show((AH s.AA i).k,(AH s.AA i).n+(AH s.AA j).n)=((AH o.AA i).k,(AH o.AA i).n+(AH o.AA j).n);rw[ai.1,ai.2,aj.2])
  rw[ai.2,aj.2]
  exact JI (JI h ai.1 ai.2) (by rw[Fm hij,Fm hij];exact aj.1) (by rw[Fm hij,Fm hij];exact aj.2)
 |swap i g kd n=>exact Nc (JI h (h.at hc.1).1 (h.at hc.1).2) rfl
 |C8 u i g kd n=>exact Nc (JI h (h.at hc.1).1 (h.at hc.1).2) rfl
 |FA i n=>exact JI h (h.at hc.1).1 (h.at hc.1).2
 |thr i n ws=>
  have e:∀(f:Ld->Wp Rat) (ls:Wp Ld),(ls.map λx=>({x with ow:=f x}:Ld)).map kn=ls.map kn:=λf ls=>by rw[r9];rfl
  show((less s.AA i n).map λx=>_).map kn=(less o.AA i n).map kn
  rw[e]
  exact JI h (h.at hc.1).1 (h.at hc.1).2
 |JC p q x=>
  have e:∀(f:Ld->Wp Rat) (ls:Wp Ld),(ls.map λx=>({x with ow:=f x}:Ld)).map kn=ls.map kn:=λf ls=>by rw[r9];rfl
  show(s.AA.map λy=>_).map kn=o.AA.map kn
  rw[e]
  exact h
theorem Xl(h:Hd s o)(hc:Can t s d)(hM:Hn d=true->o.AA.length<M){d':AO}(e:G7 o.AA.length d=Gc d'):Can (tO t M) o d':=by
 have hl:=h.len
 cases d with
 |DV p kd n=>cases e;exact⟨hM rfl,hc.2⟩
 |DR i j=>
  cases e
  obtain⟨hij,hi,hj,h1,h2,h3⟩:=hc
  have ai:=h.at hi
  have aj:=h.at hj
  exact⟨hij,by lia,by lia,by rw[<-ai.2];exact h1,by rw[<-aj.2];exact h2,by rw[<-ai.1,<-aj.1];exact h3⟩
 |swap i g kd n=>
  cases e
  have ai:=h.at hc.1
  obtain⟨h1,h2,h3,h4,h5,h6⟩:=hc
  exact⟨by lia,h2,by rw[<-ai.2];exact h3,h4,by rw[<-ai.1];exact h5,h6⟩
 |C8 u i g kd n=>
  cases e
  have ai:=h.at hc.1
  obtain⟨h1,h2,h3,h4,h5,h6,h7,_⟩:=hc
  exact⟨by lia,h2,by rw[<-ai.2];exact h3,h4,by rw[<-ai.1];exact h5,h6,h7⟩
 |FA i n=>
  cases e
  have ai:=h.at hc.1
  exact⟨by have:=hc.1;lia,hc.2.1,by rw[<-ai.2];exact hc.2.2⟩
 |thr i n ws=>
  cases e
  have ai:=h.at hc.1
  exact⟨by have:=hc.1;lia,hc.2.1,by rw[<-ai.2];exact hc.2.2.1⟩
 |JC p q x=>cases e
theorem Vc(h:CQ t k s)(hk:k<=37)(hd:∀{i n ws},d≠.thr i n ws)(hs:∀{p q x},d≠.JC p q x)(hc:Can t s d):CQ t (k+1) (step t s d):=by
 obtain⟨G,B,g0,g1,g2,hl,hh⟩:=h.gb
 have L:∀x∈s.AA,LOk t k G B x:=λx hx=>⟨h.kind x hx,(h.pcs x hx).1,(h.pcs x hx).2,h.own x hx,hl x hx⟩
 have g2':B<2^(30+170*(k+1)):=qf g2 (Gu (by lia))
 have hlen:=h.len
 have hnm:=h.nm
 cases d with
 |DV p kd n=>
  obtain⟨h1,h2,h3,h4⟩:=hc
  refine CQ.of (G:=G) (B:=B) (by simp[step];lia) (HH (λx hx=>(L x hx).up1) ⟨h2,by show 0<=n;lia,Yv h4,by simp[JV],U0 g1⟩) h.hold (tL hnm) g0 g1 g2' hh
 |DR i j=>
  obtain⟨hij,hi,hj,h1,h2,h3⟩:=hc
  have li:=L _ (AQ hi)
  have lj:=L _ (AQ hj)
  have tl:((AH s.AA i).n+(AH s.AA j).n).toNat<2^(132+k):=by
   have a:=li.n1;have b:=lj.n1
   have e:(2:Int)^(132+k)=2^(131+k)*2:=by rw[show 132+k=(131+k)+1 by lia,xF]
   have:(((AH s.AA i).n+(AH s.AA j).n).toNat:Int)<((2^(132+k):Nat):Int):=by
    rw[sN (by lia)]
    push_cast
    rw[e];lia
   exact_mod_cast this
  have t0:0<((AH s.AA i).n+(AH s.AA j).n).toNat:=by lia
  refine CQ.of (G:=G*((AH s.AA i).n+(AH s.AA j).n).toNat) (B:=B*((AH s.AA i).n+(AH s.AA j).n).toNat) (by simp[step,AV];lia) (HH ?_ ⟨li.kd,by show 0<=(AH s.AA i).n+(AH s.AA j).n;lia,?_,?_,Oq h1 h2 li.ok lj.ok⟩) h.hold (tL hnm) (xY g0 t0) (t8 _ g1) (RK g2 tl (by lia)) (λr hr=>(hh r hr).up (qg _))
  .have A:=DK (P:=LOk t (k+1) (G*((AH s.AA i).n+(AH s.AA j).n).toNat) (B*((AH s.AA i).n+(AH s.AA j).n).toNat)) (n:=(AH s.AA i).n) hi (λx hx=>(L x hx).up (qg _)) ((li.up (qg _)).less (by lia) (z6 _))
   have A2:=DK (st:={s with AA:=less s.AA i (AH s.AA i).n}) (i:=j) (n:=(AH s.AA j).n) (by simpa[AV]using hj) A (by
    show LOk _ _ _ _ ⟨(AH (less s.AA i (AH s.AA i).n) j).k,(AH (less s.AA i (AH s.AA i).n) j).n-_,(AH (less s.AA i (AH s.AA i).n) j).ow⟩
    rw[Fm hij]
    exact(lj.up (qg _)).less (by lia) (z6 _))
   exact A2
  .show(AH s.AA i).n+(AH s.AA j).n<2^(131+(k+1))
   have a:=li.n1;have b:=lj.n1
   rw[show 131+(k+1)=(131+k)+1 by lia,xF];lia
  .exact Gb li.own lj.own
 |swap i g kd n=>
  obtain⟨hi,h1,h2,h3,h4,h5,h6⟩:=hc
  have li:=L _ (AQ hi)
  refine CQ.of (G:=G) (B:=B) (by simp[step,AV];lia) (HH (DK hi (λx hx=>(L x hx).up1) (li.up1.less (by lia) h2)) ⟨h3,by show 0<=n;lia,Yv h6,li.own,li.ok⟩) h.hold (tL hnm) g0 g1 g2' hh
 |C8 u i g kd n=>
  obtain⟨hi,h1,h2,h3,h4,h5,h6,h7⟩:=hc
  have li:=L _ (AQ hi)
  refine CQ.of (G:=G) (B:=B) (by simp[step,AV];lia) (HH (DK hi (λx hx=>(L x hx).up1) (li.up1.less (by lia) h2)) ⟨h3,by show 0<=n;lia,Yv h6,li.own,li.ok⟩) h.hold (by simp[step];lia) g0 g1 g2' hh
 |FA i n=>
  obtain⟨hi,h1,h2⟩:=hc
  have li:=L _ (AQ hi)
  refine CQ.of (G:=G) (B:=B) (by simp[step,AV];lia) (DK hi (λx hx=>(L x hx).up1) (li.up1.less (by lia) h2)) h.hold (tL hnm) g0 g1 g2' hh
 |thr i n ws=>exact absurd rfl hd
 |JC p q x=>exact absurd rfl hs
end
section
variable{S:Sto}{t:Tr}{ls:Wp Ld}{ds:Wp AO}{k M:Nat}{s o:Stt}{d:AO}
theorem GJ:∀{ds:Wp AO} {st:Stt},(runs t st ds).AA.length=st.AA.length+(ds.filter Hn).length
 | [],st=>by simp[runs]
 |d::ds,st=>by
  show(runs t (step t st d) ds).AA.length=_
  rw[GJ]
  cases d<;>simp[step,Hn,AV,xR]<;>lia
abbrev owL(s:Stt):Wp D:=s.AA.map λx=>shD x.ow
theorem R7{q i j:Nat}(hq:S[q]?=Gc (.lst (owL s)))(h:CQ t k s)(hk:k<=17)(hp:t.p<=50)(hc:Can t s (.DR i j)):Ar [BS s.AA,.ref q,(AO.DR i j).d] S=Gc (shD (Aq (AH s.AA i).n (AH s.AA j).n (AH s.AA i).ow (AH s.AA j).ow),S):=by
 obtain⟨hij,hi,hj,h1,h2,h3⟩:=hc
 have sz:=h.sz
 have pi:=h.pcs _ (AQ hi)
 have pj:=h.pcs _ (AQ hj)
 have ti:=h.own _ (AQ hi)
 have tj:=h.own _ (AQ hj)
 have zi:=sz.1 _ (AQ hi)
 have zj:=sz.1 _ (AQ hj)
 have cq:=AW hq
 by_cases hle:i<=j
 .have hle':(i:Int)<=j:=by lia
  have e:=Gy (S:=S) (j:=30+170*k) (n:=131+k) zi zj (Ff pi.1 pi.2) (Ff pj.1 pj.2) (by lia) (by lia) (by lia)
  rw[LI]at e
  have a1:=Es hi
  have a2:=Es hj
  have b1:=MJ hi
  have b2:=MJ hj
  have mf:Aj [(AO.DR i j).d] S=Gc (.lst [.int i,.int j],S):=by
   simp[Aj,BR,AO.d,hle,hle']
  simp only[AO.d]at mf⊢
  simp[Ar,CS,mf,cq,a1,a2,b1,b2,e]
 .have hle':¬(i:Int)<=j:=by lia
  have e:=Gy (S:=S) (j:=30+170*k) (n:=131+k) zj zi (Ff pj.1 pj.2) (Ff pi.1 pi.2) (by lia) (by lia) (by lia)
  rw[LI,Pc]at e
  have a1:=Es hi
  have a2:=Es hj
  have b1:=MJ hi
  have b2:=MJ hj
  have mf:Aj [(AO.DR i j).d] S=Gc (.lst [.int j,.int i],S):=by
   simp[Aj,BR,AO.d,hle,hle']
  simp only[AO.d]at mf⊢
  simp[Ar,CS,mf,cq,a1,a2,b1,b2,e]
theorem Sj{q i kd:Nat}{g n:Int}(hq:S[q]?=Gc (.lst (owL s)))(hi:i<s.AA.length){H:D}:Ar [H,.ref q,(AO.swap i g kd n).d] S=Gc (shD (AH s.AA i).ow,S):=by
 have b1:=MJ hi
 have cq:=AW hq
 simp[Ar,CS,Aj,BR,AO.d,cq,b1]
theorem QS{q i kd:Nat}{u g n:Int}(hq:S[q]?=Gc (.lst (owL s)))(hi:i<s.AA.length){H:D}:Ar [H,.ref q,(AO.C8 u i g kd n).d] S=Gc (shD (AH s.AA i).ow,S):=by
 have b1:=MJ hi
 have cq:=AW hq
 simp[Ar,CS,Aj,BR,AO.d,cq,b1]
theorem IW{ls:Wp Ld}{i:Nat}{n:Int}:(less ls i n).map (λx=>shD x.ow)=ls.map λx=>shD x.ow:=by
 unfold less
 rw[xD]
 by_cases hi:i<ls.length
 .refine ya λj=>?_
  by_cases e:i=j
  .subst e
   rw[qo (by simpa using hi),ql,Ct hi];rfl
  .rw[qc e]
 .rw[yl (by simp;lia)]
end
section
variable{S:Sto}{t:Tr}{ls:Wp Ld}{ds:Wp AO}{k M:Nat}{s o:Stt}{d:AO}
theorem CQ.up(h:CQ t k s):CQ t (k+1) s:=by
 obtain⟨G,B,g0,g1,g2,hl,hh⟩:=h.gb
 exact CQ.of (G:=G) (B:=B) (by have:=h.len;lia) (λx hx=>LOk.up1 ⟨h.kind x hx,(h.pcs x hx).1,(h.pcs x hx).2,h.own x hx,hl x hx⟩) h.hold (by have:=h.nm;lia) g0 g1 (qf g2 (Gu (by lia))) hh
structure OJ(t:Tr)(M k:Nat)(s o:Stt):Prop where
 hd:Hd s o
 inv:CQ (tO t M) k o
 ones:ZI o.AA
theorem OJ.step(h:OJ t M k s o)(hk:k<=37)(hc:Can t s d)(hM:Hn d=true->o.AA.length<M):OJ t M (k+1) (Mi.step t s d) (CK t M o d):=by
 refine⟨h.hd.step hc,?_,?_⟩
 .unfold CK
  cases e:G7 o.AA.length d with
  |none=>exact h.inv.up
  |some d'=>
   have c:=Xl h.hd hc hM e
   refine Vc h.inv hk ?_ ?_ c
   .intro i n ws z;subst z;cases d<;>cases e
   .intro i n ws z;subst z;cases d<;>cases e
 .unfold CK
  cases e:G7 o.AA.length d with
  |none=>exact h.ones
  |some d'=>exact VL h.inv (Xl h.hd hc hM e) h.ones
def orB:Ex:=(AU (xIf (eOp (o2 wEq) [eOp (o2 wIx) [eV 4,eC (.int 0)],eC (.str "bring")]) (Ao (EL EN (eV 3) [AE BU [eV 1,eOp (o1 DX) [eV 3]]])) (xIf (eOp (o2 (wIn false)) [eOp (o2 wIx) [eV 4,eC (.int 0)],eC BK]) (Ao (EL EN (eV 3) [AE Ar [eV 2,eV 3,eV 4]])) DY))
    (BC 2 (AE Ad [eV 2,eV 4])))
theorem dS{q:Nat}{bk:qY D}(hs:CQ t k s)(hk:k<=17)(h:OJ t M k s o)(hc:Can t s d)(hM:Hn d=true->o.AA.length<M)(hM2:M<=50)(hq:S[q]?=Gc (.lst (owL o))):orB [bk,Gc (.int M),Gc (BS o.AA),Gc (.ref q),Gc d.d] S=Gc (.nx,[bk,Gc (.int M),Gc (BS (CK t M o d).AA),Gc (.ref q),Gc d.d],S.set q (.lst (owL (CK t M o d)))):=by
 have hz:(owL o).length<sizeLine:=qf (show _<50 by have:=h.inv.len;simp;lia) (AI (by decide))
 have cq:=AJ hq
 have dq:=AW hq
 have bh:∀T,Ad [BS o.AA,d.d] T=Gc (BS (CK t M o d).AA,T):=λT=>by
  rw[<-h.hd.held,<-(h.hd.step (M:=M) hc).held]
  exact O8 hs hk hc
 have hl:((owL o).length:Int)=(o.AA.length:Int):=by simp
 cases d with
 |DV p kd n=>
  have e:=JB (S:=S) (P:=M) (p:=o.AA.length) hM2
  have eo:owL (CK t M o (.DV p kd n))=owL o++[shD (JV M o.AA.length)]:=by simp[owL,CK,G7,step,tO]
  rw[eo]
  simp only[AO.d]at bh⊢
  rw[<-hl]at e
  generalize owL o=W at*
  simp[orB,cq,dq,e,hz,bh]
 |DR i j=>
  have c:=Xl h.hd hc hM rfl
  have e:=R7 hq h.inv hk hM2 c
  have eo:owL (CK t M o (.DR i j))=owL o++[shD (Aq (AH o.AA i).n (AH o.AA j).n (AH o.AA i).ow (AH o.AA j).ow)]:=by simp[owL,CK,G7,step,IW]
  rw[eo]
  simp only[AO.d]at bh e⊢
  generalize owL o=W at*
  simp[orB,cq,dq,e,hz,bh]
 |swap i g kd n=>
  have hi:i<o.AA.length:=by rw[<-h.hd.len];exact hc.1
  have e:=Sj (g:=g) (kd:=kd) (n:=n) hq hi (H:=BS o.AA)
  have eo:owL (CK t M o (.swap i g kd n))=owL o++[shD (AH o.AA i).ow]:=by simp[owL,CK,G7,step,IW]
  rw[eo]
  simp only[AO.d]at bh e⊢
  generalize owL o=W at*
  simp[orB,cq,dq,e,hz,bh]
 |C8 u i g kd n=>
  have hi:i<o.AA.length:=by rw[<-h.hd.len];exact hc.1
  have e:=QS (u:=u) (g:=g) (kd:=kd) (n:=n) hq hi (H:=BS o.AA)
  have eo:owL (CK t M o (.C8 u i g kd n))=owL o++[shD (AH o.AA i).ow]:=by simp[owL,CK,G7,step,IW]
  rw[eo]
  simp only[AO.d]at bh e⊢
  generalize owL o=W at*
  simp[orB,cq,dq,e,hz,bh]
 |FA i n=>
  have eo:owL (CK t M o (.FA i n))=owL o:=by simp[owL,CK,G7,step,IW]
  rw[eo,set_same hq]
  simp only[AO.d]at bh⊢
  simp[orB,bh]
 |thr i n ws=>
  have eo:owL (CK t M o (.thr i n ws))=owL o:=by simp[owL,CK,G7,step,IW]
  rw[eo,set_same hq]
  simp only[AO.d]at bh⊢
  simp[orB,bh]
 |JC p q' x=>
  have eo:owL (CK t M o (.JC p q' x))=owL o:=by simp[owL,CK,G7]
  rw[eo,set_same hq]
  simp only[AO.d]at bh⊢
  simp[orB,bh]
end
section
variable{S:Sto}{t:Tr}{ls:Wp Ld}{ds:Wp AO}{k M:Nat}{s o:Stt}{d:AO}
theorem Pm(hd:Hd s o)(hM:(runs t s (d::ds)).AA.length<=M):Hn d=true->o.AA.length<M:=λe=>by
 rw[GJ,xR,q9 e,hd.len]at hM
 simp at hM
 lia
theorem WJ(f:Nat×Int->Nat×Int):(rO ls.length).map (λi=>((AH ls i).k,(AH ls i).n))=ls.map kn:=by
 apply xP
 .simp
 .intro i h1 h2
  simp at h1
  have e:=Ct h1
  rw[qW h1]at e
  injection e with e
  simp[kn,<-e]
theorem XA(h:IT t ls ds)(hM:ls.length<=M):OJ t M 0 (st0 t ls) (Pj M ls):=by
 have hl:=h.inv.len
 refine⟨?_,?_,?_⟩
 .show ls.map kn=((rO ls.length).map _).map kn
  rw[r9]
  exact(WJ id).symm
 .refine CQ.of (G:=1) (B:=1) (by have hl':ls.length<=4:=hl;simp[Pj];lia) (λx hx=>?_) (by simp[Pj,tO]) (by simp[Pj]) (by decide) (by decide) (by decide) (λr hr=>?_)
  .obtain⟨i,hi,rfl⟩:=rW.mp hx
   have hi':i<ls.length:=by simpa using hi
   have m:=AQ hi'
   exact⟨h.inv.kind (AH ls i) m,(h.inv.pcs (AH ls i) m).1,(h.inv.pcs (AH ls i) m).2,by simp[JV,tO],U0 (qg _)⟩
  .have:r=0:=ym hr
   rw[this];exact Ok.zero
 .intro x hx
  obtain⟨i,hi,rfl⟩:=rW.mp hx
  have hi':i<ls.length:=by simpa using hi
  show(JV M i).sum=1
  rw[Pg,q9 (by lia)]
noncomputable def manyN(ls:Wp Ld)(ds:Wp AO):Nat:=ls.length+(ds.filter Hn).length
noncomputable def Mj(t:Tr)(ls:Wp Ld)(ds:Wp AO):Stt:=VP t (manyN ls ds) (Pj (manyN ls ds) ls) ds
end
structure ED(t:Tr)(ls:Wp Ld)(ds:Wp AO):Prop where
 tr:Jg t
 oY:CQ t 0 (st0 t ls)
 few:ls.length<=4
 inv:∀i,i<=ds.length->∃k,k<=16/\CQ t k (runs t (st0 t ls) (ds.take i))
 good:II t (st0 t ls) ds
 len:ds.length<=18
theorem IT.g{t:Tr}{ls:Wp Ld}{ds:Wp AO}(h:IT t ls ds):ED t ls ds:=
 ⟨h.tr,h.inv,h.inv.len,λi _=>⟨_,by have:=h.len;simp;lia,h.at i⟩,h.good,by have:=h.len;lia⟩
noncomputable def Md:AO->Wp Nat
 | .DR a b=>if a<=b then [a,b]else [b,a]
 | .swap l _ _ _=>[l]
 | .C8 _ l _ _ _=>[l]
 |_=>[]
noncomputable def Ag(n:Nat)(ds:Wp AO):Wp (Wp Nat):=qz n []++(ds.filter Hn).map Md
noncomputable def nD(is:Wp Nat):D:=.lst (AG is)
section
variable{S:Sto}{t:Tr}{ls:Wp Ld}{ds:Wp AO}
theorem Kz:(Ag ls.length ds).length=ls.length+(ds.filter Hn).length:=by simp[Ag]
theorem N8(h:ED t ls ds):DN [As t ls ds] S=Gc (.non,S):=by
 have hl0:=h.few
 have hd:=h.len
 obtain⟨E',S',ef,i,o1,o2,f1,f2,rfl,rfl⟩:=Ed (gs:=[]) (t:=tTp [tNm 3,tNm 4]) (b:=AU (xIf (Sv (AE Bv [eV 1,eOp (Ln false true) [eV 2,eV 3],eV 4])) (BG (eV 3)) DY)
  (BC 1 (AE Ad [eV 1,eV 4])))
  (I:=λrs E S'=>∃(i:Nat) (o1 o2:qY D),rs=(JD 0 (ds.map AO.d)).drop i/\i<=ds.length/\E=[Gc (As t ls ds),Gc (BS (runs t (st0 t ls) (ds.take i)).AA),Gc (.tup (ds.map AO.d)),o1,o2]/\S'=S)
  (λ_ _ _ _=>Aa) (ds:=JD 0 (ds.map AO.d)) (E:=[Gc (As t ls ds),Gc (BS ls),Gc (.tup (ds.map AO.d)),none,none]) (S:=S)
  ⟨0,none,none,by simp,sf _,by simp[runs,st0],rfl⟩ (by
    rintro dd rs E T ⟨i,o1,o2,i1,i2,rfl,rfl⟩
    have el:(JD 0 (ds.map AO.d)).length=ds.length:=by rw[Fz];simp
    have hlt:i<ds.length:=by
     rcases ux i ds.length with w|w
     .exact w
     .rw[uR (by lia)]at i1;cases i1
    rw[sW (by lia)]at i1
    injection i1 with z1 z2
    have hd1:dd=.tup [.int i,ds[i].d]:=by
     have:=KZ (ds:=ds.map AO.d) (k:=0) (i:=i)
     rw[qW (by lia),<-z1,ql,qW hlt]at this
     simpa using this
    subst z2
    subst hd1
    obtain⟨k,hk,inv⟩:=h.inv i (by lia)
    have il:(ds.take i).length<=20:=by simp;lia
    have can:=RQ h.good (qW hlt)
    have cd:=Uq (S:=T) (ds:=ds.take i) (by lia) Vz can
    have e3:=O8 (S:=T) inv (by lia) can
    have rt:=Vf (t:=t) (st:=st0 t ls) (qW hlt)
    have ct:=Nq (ds:=ds.map AO.d) (n:=i) (by simp;lia)
    rw[List.map_take]at cd
    refine⟨_,[Gc (As t ls ds),Gc (BS (runs t (st0 t ls) (ds.take (i+1))).AA),Gc (.tup (ds.map AO.d)),Gc (.int i),Gc ds[i].d],T,by simp;rfl,?_,i+1,Gc (.int i),Gc ds[i].d,rfl,hlt,rfl,rfl⟩
    rw[rt]
    simp[ct,cd,e3])
 have fh:=ML (S:=S') (ls:=ls) (x:=t.d) (y:=.tup (ds.map AO.d)) (by lia)
 simp only[As]at ef⊢
 simp[DN,HF,fh,ef]
theorem Kk(h:ED t ls ds):Al [As t ls ds] S=Gc (.non,S):=by
 have e:=N8 (S:=S) h
 simp[Al,F9,e,isN]
theorem oW(hl:ds.length<=50):Bs [] (tNm 0) (eOp (o2 (wIn false)) [eOp (o2 wIx) [eV 0,eC (.int 0)],eC BK]) (eV 0) (ds.map AO.d) [] [none] S=Gc ((ds.filter Hn).map AO.d,S):=
 CG (gs:=[]) (t:=tNm 0) (f:=eV 0) (C:=[]) (m:=1) (e:=AO.d) (g:=AO.d) (b:=Hn) (S:=S) Aa (xs:=ds) (acc:=[]) (os:=[none]) rfl (qh (show _<=50 by simp;lia) (AI (by decide))) (by
  intro d _ os ho
  obtain⟨o1,rfl⟩:∃o1,os=[o1]:=by
   match os,ho with
   | [a],_=>exact⟨a,rfl⟩
  refine⟨[Gc d.d],rfl,by simp,?_,by simp⟩
  cases d<;>simp[AO.d,Hn])
theorem Pr(h:ED t ls ds):Bo [As t ls ds,.int ds.length] S=Gc (.int (Ag ls.length ds).length,S):=by
 have hd:=h.len
 have ct:Lc (ds.map AO.d) none (Gc (ds.length:Int))=ds.map AO.d:=by rw[Nq (by simp),vh (by simp)]
 have mc:=oW (S:=S) (ds:=ds) (by lia)
 have e:((Ag ls.length ds).length:Int)=(ls.length:Int)+((ds.filter Hn).length:Int):=by rw[Kz];lia
 rw[e]
 simp[Bo,Hv,As,ct,mc]
theorem K9{i:Nat}(h:ED t ls ds)(hi:i<(Ag ls.length ds).length):Ai [As t ls ds,.int i] S=Gc (.non,S):=by
 have k1:St.Kd.int.isA "int"=true:=by decide
 have k2:St.Kd.int.isA "bool"=false:=by decide
 have m:=Pr (S:=S) h
 have h1:(i:Int)<=((Ag ls.length ds).length:Int)-1:=by lia
 generalize ((Ag ls.length ds).length:Int)=L at*
 simp only[As]at m⊢
 simp[Ai,FI,m,k1,k2,BE,ES,Ez,GU,Dw,FZ,kdW,h1]
theorem Vq{a b:Nat}:(if(a:Int)<=(b:Int)then [(a:Int),(b:Int)]else [(b:Int),(a:Int)]).map D.int=AG (if a<=b then [a,b]else [b,a]):=by
 by_cases h:a<=b
 .have:(a:Int)<=(b:Int):=by lia
  rw[q9 h,q9 this];rfl
 .have:¬(a:Int)<=(b:Int):=by lia
  rw[rA h,rA this];rfl
theorem XO{d:AO}:Aj [d.d] S=Gc (nD (Md d),S):=by
 have sz:(1:Nat)<=sizeLine:=AI (by decide)
 have sz2:(2:Nat)<=sizeLine:=AI (by decide)
 cases d with
 |DR a b=>
  have e:=Vq (a:=a) (b:=b)
  show _=Gc (D.lst (AG (if a<=b then [a,b]else [b,a])),S)
  rw[<-e]
  simp[Aj,BR,AO.d,sz2]
 |swap l g k n=>simp[Aj,BR,AO.d,Md,nD,AG,sz]
 |C8 u l g k n=>simp[Aj,BR,AO.d,Md,nD,AG,sz]
 |_=>simp[Aj,BR,AO.d,Md,nD,AG]
theorem Nz:(Ag ls.length ds).map nD=(ls.map λ_=>D.lst [])++(ds.filter Hn).map λd=>nD (Md d):=by
 unfold Ag
 rw[tU,r9]
 congr 1
 rw[List.map_replicate]
 induction ls with
 |nil=>rfl
 |cons x ls ih=>rw[rV,uG,rD,ih];rfl
theorem Cp(h:ED t ls ds):An [As t ls ds] S=Gc (.lst ((Ag ls.length ds).map nD),S):=by
 have hd:=h.len
 have hl:=h.few
 have c1:=CL (gs:=[]) (t:=tNm 0) (f:=FD []) (C:=[]) (m:=1) (e:=Ld.d) (g:=λ_=>D.lst []) (S:=S) Aa (xs:=ls) (acc:=[]) (os:=[none]) rfl (qh (show _<=50 by simp;lia) (AI (by decide))) (by
  intro x hx os ho
  obtain⟨x1,rfl⟩:∃x1,os=[x1]:=by
   match os,ho with
   | [a],_=>exact⟨a,rfl⟩
  exact⟨[Gc x.d],rfl,by simp,by simp⟩)
 have c2:=CG (gs:=[]) (t:=tNm 0) (c:=eOp (o2 (wIn false)) [eOp (o2 wIx) [eV 0,eC (.int 0)],eC BK]) (f:=AE Aj [eV 0]) (C:=[]) (m:=1) (e:=AO.d) (g:=λd=>nD (Md d)) (b:=Hn) (S:=S) Aa (xs:=ds) (acc:=[]) (os:=[none]) rfl (qh (show _<=50 by simp;lia) (AI (by decide))) (by
  intro d hd os ho
  obtain⟨x1,rfl⟩:∃x1,os=[x1]:=by
   match os,ho with
   | [a],_=>exact⟨a,rfl⟩
  refine⟨[Gc d.d],rfl,by simp,?_,?_⟩
  .cases d<;>simp[AO.d,Hn]
  .have e:=XO (S:=S) (d:=d)
   simp[e])
 have sz:(ls.map λ_=>D.lst []).length+((ds.filter Hn).map λd=>nD (Md d)).length<=sizeLine:=qh (show _<=50 by
  have:=sg Hn ds
  rw[qy,qy];lia) (AI (by decide))
 rw[Nz]
 simp only[sF]at c1 c2
 generalize (ls.map λ_=>D.lst [])=A at*
 generalize ((ds.filter Hn).map λd=>nD (Md d))=B at*
 simp[An,HI,As,c1,c2,sz]
end
section
variable{S:Sto}{t:Tr}{ls:Wp Ld}{ds:Wp AO}
@[simp] theorem hJ{a b c:D}:Lc [a,b,c] (some 1) (some 3)=[b,c]:=nr rfl
@[simp] theorem QM{a b:Int}:IU (.val (.tup [.int a,.int b]))=some (.own ((if a<=b then [a,b]else [b,a]).map D.int)):=by
  rw[<-QJ];rfl
end
noncomputable def rowAt(rows:Wp (Wp Nat))(k:Nat):Wp Nat:=rows.getD k []
@[simp] theorem Cf{b:Bool}{w:Wv}{r:List D}:wIn b w (.val (.tup r))=if(Gs (fz w) && r.all Gs)=true then some (.val (.bl (if b then !inD (fz w) r else inD (fz w) r)))else none:=nr rfl
section
variable{S:Sto}{t:Tr}{ls:Wp Ld}{ds:Wp AO}{load:Nat}{rows:Wp (Wp Nat)}
end
section
variable{S:Sto}{load q:Nat}{rows:Wp (Wp Nat)}
end
section
variable{S:Sto}{t:Tr}{ls:Wp Ld}{ds:Wp AO}{load q p:Nat}{rows:Wp (Wp Nat)}
theorem FU(h:ED t ls ds):(Ag ls.length ds).length<=24:=by
 have:=sg Hn ds
 have:=h.len
 have:=h.few
 rw[Kz];lia
def FC(rows:Wp (Wp Nat)):Prop:=∀k,∀j∈rowAt rows k,j<k
theorem SI{rows:Wp (Wp Nat)}{r:Wp Nat}(h:FC rows)(hr:∀j∈r,j<rows.length):FC (rows++[r]):=by
 intro k j hj
 unfold rowAt at hj
 rw[qV]at hj
 by_cases hk:k<rows.length
 .rw[qZ hk]at hj
  exact h k j (by unfold rowAt;rw[qV];exact hj)
 .by_cases e:k=rows.length
  .subst e
   rw[qm]at hj
   exact hr j hj
  .rw[tW (by simp;lia)]at hj
   cases hj
theorem T6{n:Nat}:FC (qz n []):=by
 intro k j hj
 unfold rowAt at hj
 rw[qV,wd]at hj
 by_cases hk:k<n
 .rw[q9 hk]at hj;cases hj
 .rw[rA hk]at hj;cases hj
theorem gF{st:Stt}{d:AO}(hc:Can t st d):∀j∈Md d,j<st.AA.length:=by
 intro j hj
 cases d with
 |DR a b=>
  obtain⟨_,h1,h2,_⟩:=hc
  have hj:j∈(if a<=b then [a,b]else [b,a]):=hj
  split at hj
  .simp at hj;rcases hj with rfl|rfl<;>assumption
  .simp at hj;rcases hj with rfl|rfl<;>assumption
 |swap l g k n=>simp[Md]at hj;subst hj;exact hc.1
 |C8 u l g k n=>simp[Md]at hj;subst hj;exact hc.1
 |_=>cases hj
theorem NH:∀{ds:Wp AO} {st:Stt} {rows:Wp (Wp Nat)},II t st ds->rows.length=st.AA.length->FC rows->FC (rows++(ds.filter Hn).map Md)
 | [],st,rows,_,_,h=>by simpa using h
 |d::ds,st,rows,g,hl,h=>by
  have hlen:(step t st d).AA.length=st.AA.length+(if Hn d=true then 1 else 0):=by cases d<;>simp[step,Hn,AV]
  rw[xR]
  cases hm:Hn d with
  |true=>
   rw[hm,q9 rfl]at hlen
   have:=NH (ds:=ds) (st:=step t st d) (rows:=rows++[Md d]) g.2 (by simp;lia) (SI h (by rw[hl];exact gF g.1))
   simpa using this
  |false=>
   rw[hm,rA (by decide)]at hlen
   simpa using NH (ds:=ds) (st:=step t st d) (rows:=rows) g.2 (by lia) h
theorem Hc(h:ED t ls ds):FC (Ag ls.length ds):=NH (st:=st0 t ls) h.good (by simp[st0]) T6
theorem Nk:∀k,(rowAt (Ag ls.length ds) k).length<=2:=by
 intro k
 have all:∀r∈Ag ls.length ds,r.length<=2:=by
  intro r hr
  unfold Ag at hr
  rcases rC.mp hr with h|h
  .rw[ym h];simp
  .obtain⟨d,_,rfl⟩:=rW.mp h
   cases d with
   |DR a b=>
    show(if a<=b then [a,b]else [b,a]).length<=2
    split<;>simp
   |_=>simp[Md]
 unfold rowAt
 rw[qV]
 cases e:(Ag ls.length ds)[k]? with
 |none=>simp
 |some r=>exact all r (qx e)
end
inductive Chn(rows:Wp (Wp Nat)):Nat->Wp Nat->Prop
 |root {n:Nat} (h:rowAt rows n=[]) (hn:n<rows.length):Chn rows n [n]
 |step {n s:Nat} {is:Wp Nat} (c:Chn rows s is) (m:s∈rowAt rows n) (hn:n<rows.length):Chn rows n (is++[n])
section
variable{rows:Wp (Wp Nat)}
theorem Chn.len(ha:FC rows):∀{n:Nat} {is:Wp Nat},Chn rows n is->is.length<=n+1
 |_,_,.root h hn=>by simp
 |_,_,.step c m hn=>by
  have:=c.len ha
  have:=ha _ _ m
  simp
  lia
theorem Mp{bt:Nat->Nat->rR}:∀m,argBest bt m<=m
 |0=>qg _
 |m+1=>by
  show(if bt (m+1) (argBest bt m)then m+1 else argBest bt m)<=m+1
  split
  .exact qg _
  .exact tL (Mp m)
theorem QE{α β γ:Type}{f:β->qY γ}{e:α->β}{g:α->γ}:∀{xs:Wp α},(∀x∈xs,f (e x)=Gc (g x))->U5 f (xs.map e)=Gc (xs.map g)
 | [],_=>rfl
 |x::xs,h=>by
  show(f (e x)).bind (λb=>(U5 f (xs.map e)).map λbs=>b::bs)=_
  rw[h x qp,QE λy hy=>h y (qi _ hy)]
  rfl
theorem cW(is:Wp Nat):Gw (AG is)=Gc (is.map λi:Nat=>(i:Int)):=by
 have:=D3 (is.map λi:Nat=>(i:Int))
 rw[r9]at this
 exact this
end
section
variable{S:Sto}{t:Tr}{ls:Wp Ld}{ds:Wp AO}{load:Nat}
def fcB:Ex:=(AU (BC 5 (CF [2,3] 1 (Fd (eV 4)) (tNm 2) By (eOp (o2 CP) [eOp (o2 wIx) [eV 0,eV 2],BH [eV 1]])))
    (Ao (EL EN (eV 2) [eMn (eV 5) (BH [eV 3])])))
noncomputable def chD(is:Wp Nat):D:=.tup (AG is)
theorem Iy{rows:Wp (Wp Nat)}:JD 0 (rows.map nD)=(rO rows.length).map λ(i:Nat)=>D.tup [.int i,.lst (AG (rowAt rows i))]:=by
 rw[Fz,qy]
 apply wO
 intro i hi
 have h:i<rows.length:=tN.mp hi
 unfold rowAt
 rw[qV,ql,qV,qW h]
 rfl
end
noncomputable def iN(is:Wp Nat):Wp Int:=is.map λi:Nat=>(i:Int)
noncomputable def lxN(a b:Wp Nat):rR:=HT.lexLt (iN a) (iN b)
theorem Sx{x y:Nat}{xs ys:Wp Nat}:lxN (x::xs) (y::ys)=if x=y then lxN xs ys else decide (x<y):=by
 show(if(x:Int)=(y:Int)then _ else decide ((x:Int)<(y:Int)))=_
 by_cases h:x=y
 .rw[q9 h,q9 (by rw[h])];rfl
 .rw[rA h,rA (by lia)]
  exact decide_eq_decide.mpr (by lia)
theorem WW:∀{a b:Wp Nat},lxN a b=false->lxN b a=false->a=b
 | [],[],_,_=>rfl
 | [],_::_,h,_=>by cases h
 |_::_,[],_,h=>by cases h
 |x::xs,y::ys,h1,h2=>by
  rw[Sx]at h1 h2
  by_cases h:x=y
  .rw[q9 h]at h1;rw[q9 h.symm]at h2
   rw[h,WW h1 h2]
  .rw[rA h]at h1;rw[rA (rh h)]at h2
   have:=AAe h1
   have:=AAe h2
   lia
theorem MV:∀{a:Wp Nat},lxN a a=false
 | []=>rfl
 |x::xs=>by rw[Sx,q9 rfl];exact MV
theorem W4:∀{a b c:Wp Nat},lxN a b=true->lxN b c=true->lxN a c=true
 | [],_,[],h1,h2=>by
   rename_i b
   cases b<;>cases h1<;>cases h2
 | [],_,_::_,_,_=>rfl
 |_::_,[],_,h,_=>by cases h
 |_::_,_::_,[],_,h=>by cases h
 |x::xs,y::ys,z::zs,h1,h2=>by
  rw[Sx]at h1 h2⊢
  by_cases h:x=y
  .rw[q9 h]at h1
   by_cases g:y=z
   .rw[q9 g]at h2;rw[q9 (h.trans g)];exact W4 h1 h2
   .rw[rA g]at h2;rw[h,rA g];exact h2
  .rw[rA h]at h1
   have h1:=qu h1
   by_cases g:y=z
   .rw[rA (by lia)];exact sZ (by lia)
   .rw[rA g]at h2
    have h2:=qu h2
    rw[rA (by lia)];exact sZ (by lia)
theorem dy{a b:Wp Nat}(h:lxN a b=true):lxN b a=false:=by
 cases e:lxN b a with
 |false=>rfl
 |true=>exact absurd (W4 h e) (by rw[MV];decide)
theorem kM{a b c:Wp Nat}(h1:lxN a b=false)(h2:lxN b c=false):lxN a c=false:=by
 cases e:lxN a c with
 |false=>rfl
 |true=>
  cases e2:lxN b a with
  |true=>rw[W4 e2 e]at h2;cases h2
  |false=>rw[WW h1 e2,h2]at e;cases e
theorem Yg{x y:Wp Nat}:∀{g k:Wp Nat},lxN g k=true->¬g <+: k->lxN (g++x) (k++y)=true
 | [],_,_,h=>absurd List.nil_prefix h
 |_::_,[],h,_=>by cases h
 |a::g,b::k,h,hp=>by
  rw[Sx]at h
  rw[sY,sY,Sx]
  by_cases e:a=b
  .rw[q9 e]at h⊢
   exact Yg h λz=>hp (by rw[e];exact(List.prefix_cons_inj b).mpr z)
  .rw[rA e]at h ⊢; exact h
section
variable{rows:Wp (Wp Nat)}
theorem Chn.jO(ha:FC rows):∀{n:Nat} {is:Wp Nat},Chn rows n is->∃js,is=js++[n]/\∀j∈js,j<n
 |_,_,.root h hn=>⟨[],rfl,λj hj=>by cases hj⟩
 |_,_,.step c m hn=>by
  obtain⟨js,e,hj⟩:=c.jO ha
  have hs:=ha _ _ m
  refine⟨_,rfl,λj hm=>?_⟩
  rw[e]at hm
  rcases rC.mp hm with z|z
  .have:=hj j z;lia
  .rw[q8.mp z];exact hs
theorem Chn.jQ(ha:FC rows){n:Nat}{g k:Wp Nat}(c:Chn rows n g)(c':Chn rows n k)(h:g <+: k):g=k:=by
 obtain⟨js,e,hj⟩:=c.jO ha
 obtain⟨js2,e2,hj2⟩:=c'.jO ha
 obtain⟨r,hr⟩:=h
 rcases List.eq_nil_or_concat r with z|⟨r',x,z⟩
 .rw[z,uL]at hr;exact hr
 .exfalso
  rw[z,e,e2,List.concat_eq_append,<-vO]at hr
  have:=(List.append_inj' hr rfl).1
  have m:n∈js2:=by rw[<-this];simp
  exact sV _ (hj2 n m)
theorem Chn.app(ha:FC rows){n m:Nat}{g k:Wp Nat}(c:Chn rows n g)(c':Chn rows n k)(h:lxN k g=false):lxN (k++[m]) (g++[m])=false:=by
 cases e:lxN g k with
 |false=>rw[WW h e];exact MV
 |true=>exact dy (Yg e λz=>by rw[c.jQ ha c' z,MV]at e;cases e)
structure Lst(rows:Wp (Wp Nat))(n:Nat)(is:Wp Nat):Prop where
 c:Chn rows n is
 l:∀js,Chn rows n js->lxN js is=false
theorem Lst.eq{n:Nat}{is js:Wp Nat}(h:Lst rows n is)(h':Lst rows n js):is=js:=WW (h'.l _ h.c) (h.l _ h'.c)
theorem Lst.root{n:Nat}(h:rowAt rows n=[])(hn:n<rows.length):Lst rows n [n]:=⟨.root h hn,λjs c=>by
 cases c with
 |root=>exact MV
 |step c m _=>rw[h]at m;cases m⟩
theorem Lst.step(ha:FC rows){n s:Nat}{f:Nat->Wp Nat}(hf:∀s∈rowAt rows n,Lst rows s (f s))(hs:s∈rowAt rows n)(hn:n<rows.length)(hl:∀s'∈rowAt rows n,lxN (f s'++[n]) (f s++[n])=false):Lst rows n (f s++[n]):=⟨.step (hf s hs).c hs hn,λjs c=>by
 cases c with
 |root h=>rw[h]at hs;cases hs
 |step c m _=>exact kM ((hf _ m).c.app ha c ((hf _ m).l _ c)) (hl _ m)⟩
theorem NU{bt:Nat->Nat->rR}(tr:∀a b c,bt a b=true->bt b c=true->bt a c=true)(ir:∀a,bt a a=false):∀m i,i<=m->bt i (argBest bt m)=false
 |0,i,h=>by rw[Nat.le_zero.mp h];exact ir _
 |m+1,i,h=>by
  show bt i (if bt (m+1) (argBest bt m)then m+1 else argBest bt m)=false
  split
  .rename_i e
   rcases ux m i with g|g
   .rw[show i=m+1 by lia];exact ir _
   .cases z:bt i (m+1)with
    |false=>rfl
    |true=>have:=tr _ _ _ z e;rw[NU tr ir m i g]at this;cases this
  .rename_i e
   rcases ux m i with g|g
   .rw[show i=m+1 by lia];exact Bool.eq_false_iff.mpr e
   .exact NU tr ir m i g
theorem RA{css:Wp (Wp Nat)}{i:Nat}(hi:i<css.length):lxN (css.getD i []) (css.getD (argBest (JF (css.map iN)) (css.length-1)) [])=false:=by
 have e:∀k,(css.map iN).getD k []=iN (css.getD k []):=λk=>by
  rw[qV,ql,qV]
  cases css[k]?<;>rfl
 have eb:∀a b,JF (css.map iN) a b=lxN (css.getD a []) (css.getD b []):=λa b=>by
  show HT.lexLt _ _=_
  rw[e,e];rfl
 have:=NU (bt:=JF (css.map iN)) (λa b c=>by rw[eb,eb,eb];exact W4) (λa=>by rw[eb];exact MV) (css.length-1) i (by lia)
 rwa [eb]at this
theorem Lst.best{n:Nat}{css:Wp (Wp Nat)}(h0:css≠[])(h:∀js,js∈css↔Chn rows n js):Lst rows n (css.getD (argBest (JF (css.map iN)) (css.length-1)) []):=by
 have hp:0<css.length:=uo.mpr h0
 have hlt:argBest (JF (css.map iN)) (css.length-1)<css.length:=by have:=Mp (bt:=JF (css.map iN)) (css.length-1);lia
 refine⟨(h _).mp ?_,λjs c=>?_⟩
 .rw[qV,qW hlt];exact uE hlt
 .obtain⟨i,hi,e⟩:=AAE ((h js).mpr c)
  have:=RA hi
  rwa [qV,qW hi,Option.getD_some,e]at this
end
section
variable{S:Sto}{t:Tr}{ls:Wp Ld}{ds:Wp AO}{s o:Stt}{M:Nat}
theorem CQ.to{k j:Nat}(h:CQ t k s):CQ t (k+j) s:=by
 induction j with
 |zero=>exact h
 |succ j ih=>exact ih.up
theorem CQ.to'{k m:Nat}(h:CQ t k s)(g:k<=m):CQ t m s:=by
 have:=h.to (j:=m-k)
 rwa [show k+(m-k)=m by lia]at this
theorem OJ.to{k m:Nat}(h:OJ t M k s o)(g:k<=m):OJ t M m s o:=⟨h.hd,h.inv.to' g,h.ones⟩
theorem Ra(hM2:M<=50){q:Nat}{bk:qY D}:∀{ds:Wp AO} {s o:Stt} {k:Nat} {S:Sto} {o4:qY D},(∀i,i<=ds.length->∃k,k<=16/\CQ t k (runs t s (ds.take i)))->OJ t M k s o->II t s ds->k+ds.length<=18->(runs t s ds).AA.length<=M->S[q]?=Gc (.lst (owL o))->∃o4' S',KJ [] (tNm 4) orB (ds.map AO.d) [bk,Gc (.int M),Gc (BS o.AA),Gc (.ref q),o4] S=Gc (.nx,[bk,Gc (.int M),Gc (BS (VP t M o ds).AA),Gc (.ref q),o4'],S')/\S'[q]?=Gc (.lst (owL (VP t M o ds)))/\Bh [q] S S'
 | [],s,o,k,S,o4,_,h,_,_,_,hq=>⟨o4,S,by rw[uC,GQ Aa];rfl,hq,.refl⟩
 |d::ds,s,o,k,S,o4,hi,h,hg,hk,hM,hq=>by
  have hl:(d::ds).length=ds.length+1:=rfl
  have hm:=Pm h.hd hM
  obtain⟨k1,hk1,hs⟩:=hi 0 (sf _)
  have e:=dS (k:=17) (bk:=bk) (show CQ t 17 s from CQ.to' hs (by lia)) (by lia) (h.to (by lia)) hg.1 hm hM2 hq
  obtain⟨o4',S',e2,q2,s2⟩:=Ra hM2 (ds:=ds) (bk:=bk) (S:=S.set q (.lst (owL (CK t M o d)))) (o4:=Gc d.d) (s:=step t s d) (λi h'=>hi (i+1) (by lia)) (h.step (by lia) hg.1 hm) hg.2 (by lia) hM (qo (AL hq))
  refine⟨o4',S',?_,q2,(Bh.set (by simp)).trans s2⟩
  have tn:tNm 4 d.d [bk,Gc (.int M),Gc (BS o.AA),Gc (.ref q),o4] S=Gc [bk,Gc (.int M),Gc (BS o.AA),Gc (.ref q),Gc d.d]:=rfl
  rw[rD,Dk Aa,tn,Ab,e,Ab,BP,e2]
  rfl
theorem OJ.cH:∀{ds:Wp AO} {s o:Stt} {k:Nat},OJ t M k s o->II t s ds->k+ds.length<=37->(Mi.runs t s ds).AA.length<=M->OJ t M (k+ds.length) (Mi.runs t s ds) (VP t M o ds)
 | [],s,o,k,h,_,_,_=>h
 |d::ds,s,o,k,h,hg,hk,hM=>by
  have hl:(d::ds).length=ds.length+1:=rfl
  have:=OJ.cH (ds:=ds) (h.step (by lia) hg.1 (Pm h.hd hM)) hg.2 (by lia) hM
  rwa [show k+1+ds.length=k+(d::ds).length by lia]at this
theorem Fq:(Ag ls.length ds).length=manyN ls ds:=Kz
theorem Ii(h:ED t ls ds):OJ t (manyN ls ds) 0 (st0 t ls) (Pj (manyN ls ds) ls):=XA (ds:=[]) ⟨h.tr,h.oY,trivial,by simp⟩ (by unfold manyN;lia)
theorem VN(h:ED t ls ds):OJ t (manyN ls ds) ds.length (runs t (st0 t ls) ds) (Mj t ls ds):=by
 have hd:=h.len
 have:=OJ.cH (M:=manyN ls ds) (Ii h) h.good (by lia) (by rw[GJ];exact qg _)
 rwa [w9]at this
theorem ON(h:ED t ls ds):∃q S',DH [As t ls ds] S=Gc (.ref q,S')/\S'[q]?=Gc (.lst (owL (Mj t ls ds)))/\Bh [] S S'/\S.length<=q:=by
 have hd:=h.len
 have hl:ls.length<=4:=h.few
 have mm:manyN ls ds<=24:=by rw[<-Fq];exact FU h
 have m:=Pr (S:=S) h
 rw[Fq]at m
 have fh:=ML (S:=S) (ls:=ls) (x:=t.d) (y:=.tup (ds.map AO.d)) (by lia)
 have c1:=CL (gs:=[]) (t:=tNm 1) (f:=AE BU [eV 0,eV 1]) (C:=[Gc (.int (manyN ls ds))]) (m:=1) (e:=λi:Nat=>D.int (0+(i:Int))) (g:=λi=>shD (JV (manyN ls ds) i)) (S:=S) Aa (xs:=rO ls.length) (acc:=[]) (os:=[none]) rfl (qh (show _<=50 by simp;lia) (AI (by decide))) (by
  intro i _ os ho
  obtain⟨o1,rfl⟩:=V9 ho
  have e:=JB (S:=S) (P:=manyN ls ds) (p:=i) (by lia)
  exact⟨[Gc (.int i)],by simp,by simp,by simp[e]⟩)
 have ow0:(rO ls.length).map (λi=>shD (JV (manyN ls ds) i))=owL (Pj (manyN ls ds) ls):=by
  unfold owL Pj;rw[r9];rfl
 have rn:IJ (ls.length:Int)=true:=DQ (by lia) (by lia)
 have h0:BS ls=BS (Pj (manyN ls ds) ls).AA:=(Ii h).hd.held
 obtain⟨o4,S',e2,q2,s2⟩:=Ra (M:=manyN ls ds) (by lia) (q:=S.length) (bk:=Gc (As t ls ds)) (o4:=none) h.inv (Ii h) h.good (by lia) (by rw[GJ];exact qg _) (S:=S++[Cl.lst (owL (Pj (manyN ls ds) ls))]) qm
 refine⟨S.length,S',?_,q2,Bh.new (A:=[]) (B:=[S.length]) .app s2 (by simp),qg _⟩
 have eb:HV=(AU (BC 1 (AE Bo [eV 0,eOp (o1 DX) [eOp (o2 wIx) [eV 0,eC (.int 2)]]]))
  (AU (BC 2 (AE BY [eV 0]))
  (AU (BC 3 (Jc [1] 1 (Mc [eOp (o1 DX) [eV 2]]) (tNm 1) By (AE BU [eV 0,eV 1])))
  (AU (IL (Fd (eOp (o2 wIx) [eV 0,eC (.int 2)])) (tNm 4) orB)
  (BG (eV 3)))))):=rfl
 unfold DH
 rw[eb]
 simp only[sF,sY]at c1
 rw[ow0]at c1
 rw[<-h0]at e2
 have lh:DX (.val (BS ls))=Gc (.val (.int ls.length)):=by
  show Gc (Wv.val (.int ((ls.map hD).length:Int)))=_
  simp
 have rg:(rO ls.length).map (λi:Nat=>D.int (0+(i:Int)))=Ka 0 ls.length:=by simp[Ka]
 rw[rg]at c1
 simp only[As]at m fh e2⊢
 generalize owL (Pj (manyN ls ds) ls)=W at*
 simp[m,fh,lh,rn,c1,e2]
end
section
variable{E:En}{S:Sto}{f g k o:Ev}{d:D}{es:Wp (Key×D)}
@[simp] theorem j9:evP [] E S=some ([],S):=nr rfl
@[simp] theorem iR{r:List (Ev×Ev)}:evP ((k,f)::r) E S=(k E S).bind λa=>(Su a.1).bind λkk=>(f E a.2).bind λb=>(evP r E b.2).map λq=>((kk,b.1)::q.1,q.2):=nr rfl
@[simp] theorem jG{x:Int}:Su (.int x)=some (.inl x):=nr rfl
@[simp] theorem bV{cf:Bool}{fs:List (Ev×Ev)}:OZ cf fs E S=(evP fs E S).map λr=>RN cf (Jx [] r.1) r.2:=nr rfl
@[simp] theorem nF:RN true es S=(.ref S.length,S++[.dct es]):=nr rfl
@[simp] theorem mI:RN false es S=(.dct es,S):=nr rfl
@[simp] theorem iT:bR f k o E S=(f E S).bind λa=>(OH a.2 a.1).bind λ_=>(k E a.2).bind λb=>(o E b.2).bind λc=>(OH c.2 a.1).bind λes=>(Su b.1).map λk=>((PQ es k).getD c.1,c.2):=nr rfl
theorem Xu{n:Nat}(h:S[n]?=Gc (.dct es)):OH S (.ref n)=Gc es:=by
 unfold OH
 dsimp only
 rw[h]
noncomputable def Zn(d b:D)(E:En)(i:D×Sto):qY (Fl×En×Sto):=(Su i.1).bind λkk=>match b with
 | .ref n=>match i.2[n]? with
   |some (.dct es)=>if es.length<1000 then Gc (.nx,E,i.2.set n (.dct (putD es kk d)))else none
   |_=>none
 |_=>none
@[simp] theorem eL:Xb k f o E S=(k E S).bind λr=>(f E r.2).bind λb=>(o E b.2).bind (Zn r.1 b.1 E):=nr rfl
theorem WG{n:Nat}{i:D}{kk:Key}(h:S[n]?=Gc (.dct es))(hk:Su i=Gc kk)(hl:es.length<1000):Zn d (.ref n) E (i,S)=Gc (.nx,E,S.set n (.dct (putD es kk d))):=by
 unfold Zn
 rw[hk,Ab]
 dsimp only
 rw[h]
 dsimp only
 rw[q9 hl]
end
end Mi
end
noncomputable section
namespace Mi
open PySem PySem.Spec L2 PyProof.Rows
theorem O1:∀{l σ:Wp Int},σ.Nodup->(l.foldl um σ).Nodup
 | [],σ,h=>h
 |x::l,σ,h=>by
  rw[zP]
  refine O1 ?_
  unfold um
  split
  .exact h
  .rename_i z
   refine vQ.mpr ⟨h,by simp,λa ha b hb e=>z ?_⟩
   simp at hb
   subst hb
   subst e
   exact uZ.mpr ⟨a,ha,by simp⟩
theorem US{x:Int}:∀{l σ:Wp Int},x∈l.foldl um σ↔x∈σ\/x∈l
 | [],σ=>by simp
 |y::l,σ=>by
  rw[zP,US,qj]
  have:x∈um σ y↔x∈σ\/x=y:=by
   unfold um
   split
   .rename_i z
    obtain⟨w,hw,e⟩:=uZ.mp z
    have e:w=y:=by simpa using e
    subst e
    exact⟨.inl,λh=>h.elim id λe=>e▸hw⟩
   .rw[rC,q8]
  rw[this,or_assoc]
theorem Vs{ns:Wp Int}:V7 ns ns.length=ns.foldl um []:=by
 show((rO ns.length).map _).foldl um []=_
 congr 1
 apply xP
 .simp
 .intro i h1 h2
  simp at h1
  simp[qV,h1]
theorem T8{M:Nat}:∀{l:Wp Nat} {a:Nat},l.Pairwise (· < ·)->(∀x∈l,a<=x/\x<M)->l.length<=M-a
 | [],a,_,_=>sf _
 |x::l,a,p,h=>by
  rw[yI]at p
  have hx:=h x qp
  have:=T8 (a:=x+1) p.2 λy hy=>⟨p.1 y hy,(h y (qi _ hy)).2⟩
  simp;lia
theorem aV(k1 k2:Wp Nat):∃ks:Wp Nat,Fp (V7 ((k1++k2).map λ(n:Nat)=>(n:Int)) ((k1++k2).map λ(n:Nat)=>(n:Int)).length)=ks.map (λ(n:Nat)=>(n:Int))/\ks.Pairwise (· < ·)/\∀r,r∈ks↔r∈k1\/r∈k2:=by
 rw[Vs]
 generalize hL:((k1++k2).map λ(n:Nat)=>(n:Int)).foldl um []=L
 have nd:L.Nodup:=by rw[<-hL];exact O1 .nil
 have mem:∀x,x∈L↔ ∃r,(r∈k1\/r∈k2)/\(r:Int)=x:=λx=>by
  rw[<-hL,US,rW]
  simp only[rH,false_or,rC]
 have pm:=EW L
 have so:=MF L
 refine⟨(Fp L).map Int.toNat,?_,?_,λr=>?_⟩
 .rw[r9]
  conv=>lhs;rw[<-List.map_id (Fp L)]
  refine wO λx hx=>?_
  obtain⟨r,_,rfl⟩:=(mem x).mp (pm.mem_iff.mp hx)
  simp
 .have nd2:(Fp L).Nodup:=pm.nodup_iff.mpr nd
  rw[List.pairwise_map]
  refine List.Pairwise.imp_of_mem ?_ (List.pairwise_and_iff.mpr ⟨so,nd2⟩)
  rintro x y hx hy ⟨h1,h2⟩
  obtain⟨r,_,rfl⟩:=(mem x).mp (pm.mem_iff.mp hx)
  obtain⟨q,_,rfl⟩:=(mem y).mp (pm.mem_iff.mp hy)
  simp
  lia
 .rw[rW]
  constructor
  .rintro ⟨x,hx,rfl⟩
   obtain⟨r,hr,rfl⟩:=(mem x).mp (pm.mem_iff.mp hx)
   simpa using hr
  .intro hr
   exact⟨(r:Int),pm.mem_iff.mpr ((mem _).mpr ⟨r,hr,rfl⟩),by simp⟩
theorem WI{es:Wp (Key×D)}{k:Key}{v:D}(h:∀kv∈es,kv.1≠k):putD es k v=es++[(k,v)]:=by
 unfold putD
 rw[rA]
 intro z
 obtain⟨kv,hm,e⟩:=uZ.mp z
 exact h kv hm (by simpa using e)
noncomputable def ent(ow:Wp Rat)(r:Nat):Key×D:=(.inl (r:Int),aD (ow.getD r 0))
def DOk(M:Nat)(es:Wp (Key×D))(ow:Wp Rat):Prop:=∃ks:Wp Nat,es=ks.map (ent ow)/\ks.length<=M/\(∀r∈ks,r<M)/\(∀r,r∉ks->ow.getD r 0=0)/\ks.Nodup/\∀r∈ks,0<ow.getD r 0
theorem QL{ow:Wp Rat}{r:Nat}:∀{ks:Wp Nat},PQ (ks.map (ent ow)) (.inl (r:Int))=if r∈ks then Gc (aD (ow.getD r 0))else none
 | []=>rfl
 |x::ks=>by
  rw[rD]
  show(if vF (x:Int)=(vF (r:Int):Key)then Gc (aD (ow.getD x 0))else PQ (ks.map (ent ow)) (.inl (r:Int)))=_
  rw[QL]
  by_cases e:x=r
  .subst e;simp
  .have e':¬(vF (x:Int)=(vF (r:Int):Key)):=λz=>by injection z with z;lia
   have e2:¬r=x:=λz=>e z.symm
   rw[rA e']
   simp[e2]
theorem DOk.val{M r:Nat}{es:Wp (Key×D)}{ow:Wp Rat}(h:DOk M es ow):(PQ es (.inl (r:Int))).getD (aD 0)=aD (ow.getD r 0):=by
 obtain⟨ks,rfl,_,_,h0,_⟩:=h
 rw[QL]
 split
 .rfl
 .rename_i z;rw[h0 r z];rfl
theorem DOk.nn{M r:Nat}{es:Wp (Key×D)}{ow:Wp Rat}(h:DOk M es ow):0<=ow.getD r 0:=by
 obtain⟨ks,rfl,_,_,h0,_,h1⟩:=h
 by_cases hr:r∈ks
 .exact zN (h1 r hr)
 .rw[h0 r hr];decide
theorem aI{a b:Rat}{n m:Int}(ha:0<=a)(hb:0<=b)(h:0<a\/0<b)(hn:0<n)(hm:0<m):0<(a*n+b*m) / ((n+m:Int):Rat):=by
 have n1:(0:Rat)<(n:Rat):=by exact_mod_cast hn
 have m1:(0:Rat)<(m:Rat):=by exact_mod_cast hm
 have nm:(0:Rat)<((n+m:Int):Rat):=by
  have:0<n+m:=by lia
  exact_mod_cast this
 have h1:0<=a*n:=Rat.mul_nonneg ha (zN n1)
 have h2:0<=b*m:=Rat.mul_nonneg hb (zN m1)
 rw[Rat.div_def]
 refine Rat.mul_pos ?_ (Rat.inv_pos.mpr nm)
 rcases h with h|h
 .have:=Rat.mul_pos h n1;grind
 .have:=Rat.mul_pos h m1;grind
theorem LQ{ow:Wp Rat}:∀{ks:Wp Nat},SG (ks.map (ent ow))=Gc (ks.map λ(n:Nat)=>(n:Int))
 | []=>rfl
 |k::ks=>by
  show(SG (ks.map (ent ow))).map _=_
  rw[LQ];rfl
end Mi
end
noncomputable section
namespace Mi
open PySem PySem.Spec L2 PyProof.Rows
section
variable{S:Sto}{t:Tr}{ls:Wp Ld}{ds:Wp AO}{k M:Nat}{s o:Stt}{d:AO}
def DAt(S:Sto)(x:D)(es:Wp (Key×D)):Prop:=x=.dct es\/∃n,x=.ref n/\S[n]?=Gc (.dct es)
theorem DAt.dd{x:D}{es:Wp (Key×D)}(h:DAt S x es):OH S x=Gc es:=by
 rcases h with rfl|⟨n,rfl,e⟩
 .rfl
 .exact Xu e
theorem DAt.same{S':Sto}{A:Wp Nat}{x:D}{es:Wp (Key×D)}(h:DAt S x es)(g:Bh A S S')(hA:∀n∈A,S[n]?≠Gc (.dct es)):DAt S' x es:=by
 rcases h with rfl|⟨n,rfl,e⟩
 .exact .inl rfl
 .exact .inr ⟨n,rfl,g.get e λz=>hA n z e⟩
def ilB:Ex:=(AU (BC 10 (AE AZ [BH [eV 6,eC (.int 1)],bR (eOp (o2 wIx) [eV 2,eV 4]) (eV 9) (BH [eC (.int 0),eC (.int 1)])]))
    (AU (BC 10 (AE BX [eV 10,AE AZ [BH [eV 7,eC (.int 1)],bR (eOp (o2 wIx) [eV 2,eV 5]) (eV 9) (BH [eC (.int 0),eC (.int 1)])]]))
    (Xb (AE AZ [eV 10,AE A9 [eC (.int 1),eOp (o2 CP) [eV 6,eV 7]]]) (eV 8) (eV 9))))
theorem Yy{n m:Int}{a b:Rat}(h:0<n+m):((n:Rat)*a+(m:Rat)*b)*((1:Int) / ((n+m:Int):Rat))=(a*n+b*m) / ((n+m:Int):Rat):=by
 have:((n+m:Int):Rat)≠0:=by
  intro z
  have:(n+m:Int)=0:=by exact_mod_cast z
  lia
 push_cast
 grind
theorem JN{n m:Int}{a b:Wp Rat}{r:Nat}(ha:r<a.length)(hb:r<b.length):(Aq n m a b).getD r 0=(a.getD r 0*n+b.getD r 0*m) / ((n+m:Int):Rat):=by
 unfold Aq
 simp[qV,List.getElem?_zipWith,ha,hb]
theorem c9{q w i j r:Nat}{n m:Int}{xs:Wp D}{xi xj:D}{ei ej es:Wp (Key×D)}{a b:Wp Rat}{z:Nat}{a0 a1 a3 a10:qY D}(hq:S[q]?=Gc (.lst xs))(hw:S[w]?=Gc (.dct es))(hi:atI xs (i:Int)=Gc xi)(hj:atI xs (j:Int)=Gc xj)(di:DAt S xi ei)(dj:DAt S xj ej)(oi:DOk M ei a)(oj:DOk M ej b)(ra:r<a.length)(rb:r<b.length)(sa:∀x∈a,Sz z x)(sb:∀x∈b,Sz z x)(hz:2*z<=7000)(hn:n.natAbs<2^150)(hm:m.natAbs<2^150)(h0:0<n+m)(hnew:∀kv∈es,kv.1≠vF (r:Int))(hl:es.length<1000):∃c,ilB [a0,a1,Gc (.ref q),a3,Gc (.int i),Gc (.int j),Gc (.int n),Gc (.int m),Gc (.ref w),Gc (.int r),a10] S=Gc (.nx,[a0,a1,Gc (.ref q),a3,Gc (.int i),Gc (.int j),Gc (.int n),Gc (.int m),Gc (.ref w),Gc (.int r),c],S.set w (.dct (es++[ent (Aq n m a b) r]))):=by
 have dq:=AW hq
 have vi:=oi.val (r:=r)
 have vj:=oj.val (r:=r)
 rw[Yr]at vi vj
 have si:=sa _ (getD_mem (d:=0) ra)
 have sj:=sb _ (getD_mem (d:=0) rb)
 have zn:=RJ hn (by decide)
 have zm:=RJ hm (by decide)
 have t1:=GY (S:=S) zn si (by lia)
 have t2:=GY (S:=S) zm sj (by lia)
 have p1:=LZ zn si
 have p2:=LZ zm sj
 have t3:=OG (S:=S) p1 p2 (by lia)
 have nm1:(n+m).natAbs<2^151:=GA hn hm
 have t4:=Ub (S:=S) (t:=1) h0 (Eo nm1 (by decide))
 have z4:Sz 151 (((1:Int):Rat) / ((n+m:Int):Rat)):=LM h0 (qf (show(1:Int).natAbs<2^1 by decide) (tu (by decide) (by decide))) nm1
 have t5:=GY (S:=S) (Yh p1 p2) z4 (by lia)
 rw[Yy h0,<-JN ra rb]at t5
 rw[Yf]at t1 t2
 have sk:=λE=>WG (d:=aD ((Aq n m a b).getD r 0)) (E:=E) (i:=.int r) (kk:=.inl (r:Int)) hw rfl hl
 rw[WI hnew]at sk
 have d1:=di.dd
 have d2:=dj.dd
 refine⟨Gc (aD ((n:Rat)*a.getD r 0+(m:Rat)*b.getD r 0)),?_⟩
 generalize ((n:Rat)*a.getD r 0)=A at*
 generalize ((m:Rat)*b.getD r 0)=B at*
 generalize (((1:Int):Rat) / ((n+m:Int):Rat))=C at*
 have sz2:(2:Nat)<=sizeLine:=AI (by decide)
 unfold ent
 generalize a.getD r 0=A0 at*
 generalize b.getD r 0=B0 at*
 generalize (Aq n m a b).getD r 0=P0 at*
 simp[ilB,dq,hi,hj,d1,d2,vi,vj,t1,t2,t3,t4,t5,sk,sz2]
end
end Mi
end
noncomputable section
namespace Mi
open PySem PySem.Spec L2 PyProof.Rows
section
variable{S:Sto}{t:Tr}{ls:Wp Ld}{ds:Wp AO}{k M:Nat}{s o:Stt}{d:AO}
theorem DAt.keep{S':Sto}{A:Wp Nat}{x:D}{es:Wp (Key×D)}(h:DAt S x es)(g:Bh A S S')(hA:∀n∈A,x≠.ref n):DAt S' x es:=by
 rcases h with rfl|⟨n,rfl,e⟩
 .exact .inl rfl
 .exact .inr ⟨n,rfl,g.get e λz=>hA n z rfl⟩
theorem VU{S0:Sto}{q w i j:Nat}{n m:Int}{xs:Wp D}{xi xj:D}{ei ej:Wp (Key×D)}{a b:Wp Rat}{z:Nat}{a0 a1 a3:qY D}(hq:S0[q]?=Gc (.lst xs))(qw:q≠w)(hi:atI xs (i:Int)=Gc xi)(hj:atI xs (j:Int)=Gc xj)(di:DAt S0 xi ei)(dj:DAt S0 xj ej)(wi:xi≠.ref w)(wj:xj≠.ref w)(oi:DOk M ei a)(oj:DOk M ej b)(la:a.length=M)(lb:b.length=M)(sa:∀x∈a,Sz z x)(sb:∀x∈b,Sz z x)(hz:2*z<=7000)(hn:n.natAbs<2^150)(hm:m.natAbs<2^150)(h0:0<n+m):∀{ks done:Wp Nat} {T:Sto} {a9 a10:qY D},T[w]?=Gc (.dct (done.map (ent (Aq n m a b))))->Bh [w] S0 T->(∀r∈ks,r<M)->ks.Pairwise (· < ·)->(∀x∈done,∀r∈ks,x<r)->done.length+ks.length<=100->∃a9' a10' T',KJ [] (tNm 9) ilB (AG ks) [a0,a1,Gc (.ref q),a3,Gc (.int i),Gc (.int j),Gc (.int n),Gc (.int m),Gc (.ref w),a9,a10] T=Gc (.nx,[a0,a1,Gc (.ref q),a3,Gc (.int i),Gc (.int j),Gc (.int n),Gc (.int m),Gc (.ref w),a9',a10'],T')/\T'[w]?=Gc (.dct ((done++ks).map (ent (Aq n m a b))))/\Bh [w] S0 T'
 | [],done,T,a9,a10,hw,hs,_,_,_,_=>⟨a9,a10,T,by rw[AG,uC,GQ Aa],by simpa using hw,hs⟩
 |r::ks,done,T,a9,a10,hw,hs,hr,hp,hd,hl=>by
  rw[yI]at hp
  simp only[rV]at hl
  have hq':=hs.get hq (by simpa using qw)
  have di':=di.keep hs (λn hn=>by simp at hn;rw[hn];exact wi)
  have dj':=dj.keep hs (λn hn=>by simp at hn;rw[hn];exact wj)
  have rM:=hr r qp
  have hnew:∀kv∈done.map (ent (Aq n m a b)),kv.1≠vF (r:Int):=λkv hk e=>by
   obtain⟨x,hx,rfl⟩:=rW.mp hk
   have:=hd x hx r qp
   have e:(vF (x:Int):Key)=vF (r:Int):=e
   injection e with e
   lia
  obtain⟨c,e2⟩:=c9 (a0:=a0) (a1:=a1) (a3:=a3) (a10:=a10) hq' hw hi hj di' dj' oi oj (by lia) (by lia) sa sb hz hn hm h0 hnew (by simp;lia)
  have em:done.map (ent (Aq n m a b))++[ent (Aq n m a b) r]=(done++[r]).map (ent (Aq n m a b)):=by simp
  rw[em]at e2
  obtain⟨a9',a10',T',e3,w3,s3⟩:=VU hq qw hi hj di dj wi wj oi oj la lb sa sb hz hn hm h0 (ks:=ks) (done:=done++[r]) (T:=T.set w (.dct ((done++[r]).map (ent (Aq n m a b))))) (a9:=Gc (.int r)) (a10:=c) (a0:=a0) (a1:=a1) (a3:=a3) (qo (AL hw)) (hs.trans (.set (by simp))) (λx hx=>hr x (qi _ hx)) hp.2 (λx hx y hy=>by
   rcases rC.mp hx with hx|hx
   .exact hd x hx y (qi _ hy)
   .simp at hx;rw[hx];exact hp.1 y hy) (by simp;lia)
  refine⟨a9',a10',T',?_,by simpa using w3,s3⟩
  have e1:tNm 9 (.int (r:Int)) [a0,a1,Gc (.ref q),a3,Gc (.int i),Gc (.int j),Gc (.int n),Gc (.int m),Gc (.ref w),a9,a10] T=Gc [a0,a1,Gc (.ref q),a3,Gc (.int i),Gc (.int j),Gc (.int n),Gc (.int m),Gc (.ref w),Gc (.int r),a10]:=rfl
  show KJ [] (tNm 9) ilB (.int (r:Int)::AG ks) _ T=_
  rw[Dk Aa,e1,Ab,e2,Ab,BP,e3]
structure OAt(S:Sto)(q M:Nat)(xs:Wp D)(o:Stt):Prop where
 cell:S[q]?=Gc (.lst xs)
 len:xs.length=o.AA.length
 at':∀(i:Nat) x,xs[i]?=Gc x->∃es,DAt S x es/\DOk M es (AH o.AA i).ow
theorem OAt.get{q:Nat}{xs:Wp D}(h:OAt S q M xs o){i:Nat}(hi:i<o.AA.length):∃x es,xs[i]?=Gc x/\atI xs (i:Int)=Gc x/\DAt S x es/\DOk M es (AH o.AA i).ow:=by
 have hx:i<xs.length:=by rw[h.len];exact hi
 have e:xs[i]?=Gc xs[i]:=qW hx
 obtain⟨es,a,b⟩:=h.at' i _ e
 exact⟨_,es,e,Bf e,a,b⟩
theorem OAt.keep{S':Sto}{A:Wp Nat}{q:Nat}{xs:Wp D}(h:OAt S q M xs o)(g:Bh A S S')(hq:q∉A)(hA:∀n∈A,∀es,S[n]?≠Gc (.dct es)):OAt S' q M xs o:=
 ⟨g.get h.cell hq,h.len,λi x e=>by obtain⟨es,a,b⟩:=h.at' i x e;exact⟨es,a.same g λn hn=>hA n hn es,b⟩⟩
theorem Dx{ls:Wp Ld}{y:Ld}{i:Nat}:AH (ls++[y]) i=if i<ls.length then AH ls i else if i=ls.length then y else⟨0,0,[]⟩:=by
 unfold AH
 rw[qV,qV,z7]
 split
 .rfl
 .split
  .rename_i h1 h2;subst h2;simp
  .rename_i h1 h2
   rw[tW (by simp;lia)];rfl
theorem Hi{ls:Wp Ld}{i j:Nat}{n:Int}:(AH (less ls i n) j).ow=(AH ls j).ow:=by
 by_cases e:i=j
 .subst e
  unfold less
  by_cases hi:i<ls.length
  .unfold AH;simp[qV,hi]
  .rw[yl (by lia)]
 .rw[Fm e]
end
end Mi
end
noncomputable section
namespace Mi
open PySem PySem.Spec L2 PyProof.Rows
section
variable{S:Sto}{t:Tr}{ls:Wp Ld}{ds:Wp AO}{k M q:Nat}{s o o':Stt}{d:AO}{xs:Wp D}
theorem OAt.snoc(h:OAt S q M xs o){x:D}{es:Wp (Key×D)}(hx:DAt S x es)(hd:DOk M es (AH o'.AA o.AA.length).ow)(hl:o'.AA.length=o.AA.length+1)(ho:∀i,i<o.AA.length->(AH o'.AA i).ow=(AH o.AA i).ow):OAt (S.set q (.lst (xs++[x]))) q M (xs++[x]) o':=by
 have nd:∀n∈ [q],∀es,S[n]?≠Gc (.dct es):=λn hn es e=>by
  simp at hn;rw[hn,h.cell]at e;cases e
 have sm:Bh [q] S (S.set q (.lst (xs++[x]))):=.set (by simp)
 refine⟨qo (AL h.cell),by simp[h.len,hl],λi y e=>?_⟩
 rw[z7]at e
 split at e
 .rename_i hi
  obtain⟨e1,a,b⟩:=h.at' i y e
  exact⟨e1,a.same sm (λn hn=>nd n hn e1),by rw[ho i (by rw[<-h.len];exact hi)];exact b⟩
 .rename_i hi
  have hi':i=xs.length:=by
   rcases ux xs.length i with w|w
   .rw[tW (by simp;lia)]at e;cases e
   .lia
  subst hi'
  simp at e
  subst e
  refine⟨es,hx.same sm (λn hn=>nd n hn es),?_⟩
  rw[h.len];exact hd
theorem OAt.ows(h:OAt S q M xs o)(hl:o'.AA.length=o.AA.length)(ho:∀i,(AH o'.AA i).ow=(AH o.AA i).ow):OAt S q M xs o':=
 ⟨h.cell,by rw[h.len,hl],λi x e=>by obtain⟨es,a,b⟩:=h.at' i x e;exact⟨es,a,by rw[ho];exact b⟩⟩
theorem P8{M L r:Nat}:(JV M L).getD r 0=if r<M/\r=L then 1 else 0:=by
 unfold JV
 rw[qV,ql]
 by_cases h:r<M
 .simp[h]
 .rw[tW (by simp;lia)];simp[h]
theorem DOk.one{M L:Nat}(h:L<M):DOk M [(.inl (L:Int),.tup [.int 1,.int 1])] (JV M L):=by
 refine⟨[L],?_,by simp;lia,by simpa using h,λr hr=>?_,by simp,λr hr=>?_⟩
 .simp only[rD,uC,ent]
  rw[P8,q9 ⟨h,rfl⟩,YA]
 .rw[P8,rA (by simp at hr;lia)]
 .simp at hr
  rw[P8,q9 (by lia)];decide
def olP:Ex:=(AU (PR (tTp [tNm 4,tNm 5]) (eOp (Ln true false) [eV 3,eC (.int 1)]))
    (AU (NO 6 7 (eOp (o2 wIx) [eOp (o2 wIx) [eOp (o2 wIx) [eV 1,eC (.int 0)],eV 4],eC (.int 1)]) (eOp (o2 wIx) [eOp (o2 wIx) [eOp (o2 wIx) [eV 1,eC (.int 0)],eV 5],eC (.int 1)]))
    (AU (BC 8 (Yb []))
    (AU (IL (Fd (eOp (o1 wSS) [eOp (o2 CP) [eLK false (eOp (o2 wIx) [eV 2,eV 4]),eLK false (eOp (o2 wIx) [eV 2,eV 5])]])) (tNm 9) ilB)
    (Ao (EL EN (eV 2) [eV 8]))))))
def olA:Ex:=(xIf (eOp (o2 wEq) [eOp (o2 wIx) [eV 3,eC (.int 0)],eC (.str "bring")]) (Ao (EL EN (eV 2) [UX [((eOp (o1 DX) [eV 2]),(BH [eC (.int 1),eC (.int 1)]))]])) (xIf (eOp (o2 wEq) [eOp (o2 wIx) [eV 3,eC (.int 0)],eC (.str "pool")]) olP (xIf (eOp (o2 (wIn false)) [eOp (o2 wIx) [eV 3,eC (.int 0)],BH [eC (.str "swap"),eC (.str "trade")]]) (Ao (EL EN (eV 2) [eDC false (eOp (o2 wIx) [eV 2,eOp (o2 wIx) [eV 3,eOp (o1 PN) [eC (.int 4)]]])])) DY)))
@[simp] theorem jN{c:Bool}{f:Ev}{E:En}:eLK c f E S=(f E S).bind λa=>(OH a.2 a.1).bind λes=>(SG es).bind λns=>fin c (.own (ns.map D.int)) a.2:=nr rfl
@[simp] theorem lF{c:Bool}{f:Ev}{E:En}:eDC c f E S=(f E S).bind λa=>(OH a.2 a.1).map λes=>RN c es a.2:=nr rfl
theorem dZ{sr:Nat}{bk:qY D}{us:En}(hus:us.length=7)(h:OAt S q M xs o)(hk:o.AA.length<=50)(hM:Hn d=true->o.AA.length<M)(hnp:∀i j,d≠.DR i j)(hc:Can t s d)(hd:Hd s o):∃xs' S',olA ([bk,Gc (.ref sr),Gc (.ref q),Gc d.d]++us) S=Gc (.nx,[bk,Gc (.ref sr),Gc (.ref q),Gc d.d]++us,S')/\OAt S' q M xs' (CK t M o d)/\Bh [q] S S':=by
 obtain⟨a4,a5,a6,a7,a8,a9,a10,rfl⟩:∃a4 a5 a6 a7 a8 a9 a10,us=[a4,a5,a6,a7,a8,a9,a10]:=by
  match us,hus with
  | [a,b,c,d,e,f,g],_=>exact⟨a,b,c,d,e,f,g,rfl⟩
 have hz:xs.length<sizeLine:=qf (show _<51 by rw[h.len];lia) (AI (by decide))
 have cq:=AJ h.cell
 have dq:=AW h.cell
 have sz2:(2:Nat)<=sizeLine:=AI (by decide)
 cases d with
 |DV p kd n=>
  have m1:Jx [] [((.inl (xs.length:Int):Key),D.tup [.int 1,.int 1])]=[((.inl (xs.length:Int):Key),D.tup [.int 1,.int 1])]:=rfl
  refine⟨_,_,?_,h.snoc (o':=CK t M o (.DV p kd n)) (x:=.dct [(.inl (xs.length:Int),.tup [.int 1,.int 1])]) (.inl rfl) ?_ ?_ ?_,.set (by simp)⟩
  .simp[-Cf,olA,AO.d,cq,dq,hz,sz2,m1]
  .show DOk M _ (AH (o.AA++[_]) o.AA.length).ow
   rw[Dx,rA (sV _),q9 rfl,h.len]
   exact DOk.one (hM rfl)
  .simp[CK,G7,step]
  .intro i hi
   show(AH (o.AA++[_]) i).ow=_
   rw[Dx,q9 hi]
 |DR i j=>exact absurd rfl (hnp i j)
 |swap i g kd n=>
  have hi:i<o.AA.length:=by rw[<-hd.len];exact hc.1
  obtain⟨x,es,e1,e2,e3,e4⟩:=h.get hi
  have dx:=e3.dd
  refine⟨_,_,?_,h.snoc (o':=CK t M o (.swap i g kd n)) (x:=.dct es) (es:=es) (.inl rfl) ?_ ?_ ?_,.set (by simp)⟩
  .simp[-Cf,olA,AO.d,cq,dq,hz,e2,dx]
  .show DOk M _ (AH (less o.AA i g++[_]) o.AA.length).ow
   rw[Dx,AV,rA (sV _),q9 rfl]
   exact e4
  .simp[CK,G7,step,AV]
  .intro j hj
   show(AH (less o.AA i g++[_]) j).ow=_
   rw[Dx,AV,q9 hj,Hi]
 |C8 u i g kd n=>
  have hi:i<o.AA.length:=by rw[<-hd.len];exact hc.1
  obtain⟨x,es,e1,e2,e3,e4⟩:=h.get hi
  have dx:=e3.dd
  refine⟨_,_,?_,h.snoc (o':=CK t M o (.C8 u i g kd n)) (x:=.dct es) (es:=es) (.inl rfl) ?_ ?_ ?_,.set (by simp)⟩
  .simp[-Cf,olA,AO.d,cq,dq,hz,e2,dx]
  .show DOk M _ (AH (less o.AA i g++[_]) o.AA.length).ow
   rw[Dx,AV,rA (sV _),q9 rfl]
   exact e4
  .simp[CK,G7,step,AV]
  .intro j hj
   show(AH (less o.AA i g++[_]) j).ow=_
   rw[Dx,AV,q9 hj,Hi]
 |FA i n=>exact⟨xs,S,by simp[-Cf,olA,AO.d],h.ows (by simp[CK,G7,step,AV]) (λj=>by show(AH (less o.AA i n) j).ow=_;rw[Hi]),.refl⟩
 |thr i n ws=>exact⟨xs,S,by simp[-Cf,olA,AO.d],h.ows (by simp[CK,G7,step,AV]) (λj=>by show(AH (less o.AA i n) j).ow=_;rw[Hi]),.refl⟩
 |JC p p' x=>exact⟨xs,S,by simp[-Cf,olA,AO.d],h.ows rfl (λj=>rfl),.refl⟩
end
end Mi
end
noncomputable section
namespace Mi
open PySem PySem.Spec L2 PyProof.Rows
section
variable{S:Sto}{t:Tr}{ls:Wp Ld}{ds:Wp AO}{k M q:Nat}{s o o':Stt}{d:AO}{xs:Wp D}
@[simp] theorem lB{a b c:D}:Lc [a,b,c] (some 1) none=[b,c]:=nr rfl
theorem dm{k1 k2 ks:Wp Nat}(hs:Fp (V7 ((k1++k2).map λ(n:Nat)=>(n:Int)) ((k1++k2).map λ(n:Nat)=>(n:Int)).length)=ks.map (λ(n:Nat)=>(n:Int)))(h1:k1.length+k2.length<=1000)(h2:ks.length<64):wSS (.val (.lst ((k1.map λ(n:Nat)=>(n:Int)).map D.int++(k2.map λ(n:Nat)=>(n:Int)).map D.int)))=Gc (.own (AG ks)):=by
 have e:(k1.map λ(n:Nat)=>(n:Int)).map D.int++(k2.map λ(n:Nat)=>(n:Int)).map D.int=((k1++k2).map λ(n:Nat)=>(n:Int)).map D.int:=by simp
 rw[e]
 show(Gw _).bind _=_
 rw[D3,Ab]
 have l2:(V7 ((k1++k2).map λ(n:Nat)=>(n:Int)) ((k1++k2).map λ(n:Nat)=>(n:Int)).length).length=ks.length:=by
  rw[<-(EW _).length_eq,hs,qy]
 rw[q9 ⟨by simpa using h1,by rw[l2];exact h2⟩,hs,AG,r9]
 rfl
theorem cD{sr l m:Nat}{as:Wp Nat}{bk:qY D}{us:En}{i j:Nat}(hus:us.length=7)(hS:SAt S sr l m as s)(h:OAt S q M xs o)(inv:CQ (tO t M) k o)(hk:k<=17)(hM:o.AA.length<M)(hM2:M<=40)(hc:Can t s (.DR i j))(hd:Hd s o):∃us' xs' S',us'.length=7/\olP ([bk,Gc (.ref sr),Gc (.ref q),Gc (AO.DR i j).d]++us) S=Gc (.nx,[bk,Gc (.ref sr),Gc (.ref q),Gc (AO.DR i j).d]++us',S')/\OAt S' q M xs' (CK t M o (.DR i j))/\Bh [q] S S':=by
 obtain⟨a4,a5,a6,a7,a8,a9,a10,rfl⟩:∃a4 a5 a6 a7 a8 a9 a10,us=[a4,a5,a6,a7,a8,a9,a10]:=by
  match us,hus with
  | [a,b,c,d,e,f,g],_=>exact⟨a,b,c,d,e,f,g,rfl⟩
 have co:=Xl (M:=M) hd hc (λ_=>hM) rfl
 obtain⟨hij,hi,hj,h1,h2,h3⟩:=hc
 obtain⟨_,hi',hj',h1',h2',_⟩:=co
 have ai:=hd.at hi
 have aj:=hd.at hj
 obtain⟨xi,ei,x1,x2,x3,x4⟩:=h.get hi'
 obtain⟨xj,ej,y1,y2,y3,y4⟩:=h.get hj'
 obtain⟨k1,rfl,kl1,kb1,kz1,kn1,kp1⟩:=id x4
 obtain⟨k2,rfl,kl2,kb2,kz2,kn2,kp2⟩:=id y4
 obtain⟨ks,ss,pw,mem⟩:=aV k1 k2
 have own:=inv.own
 have la:(AH o.AA i).ow.length=M:=own _ (AQ hi')
 have lb:(AH o.AA j).ow.length=M:=own _ (AQ hj')
 have ksM:∀r∈ks,r<M:=λr hr=>((mem r).mp hr).elim (kb1 r) (kb2 r)
 have ksl:ks.length<=M:=by
  have:=T8 (a:=0) pw λx hx=>⟨sf _,ksM x hx⟩
  lia
 have wss:=dm ss (by lia) (by lia)
 have s0:Bh [] S (S++[Cl.dct []]):=.app
 have w0:(S++[Cl.dct []])[S.length]?=Gc (.dct []):=qm
 have h0:OAt (S++[Cl.dct []]) q M xs o:=h.keep s0 (by simp) (λ_ z=>nomatch z)
 have x30:=x3.keep s0 (λ_ z=>nomatch z)
 have y30:=y3.keep s0 (λ_ z=>nomatch z)
 have qw:q≠S.length:=λe=>by have:=AL h.cell;lia
 have wx:∀{x:D} {es:Wp (Key×D)},DAt S x es->x≠.ref S.length:=λ{x es} hx e=>by
  rcases hx with rfl|⟨n,rfl,z⟩
  .cases e
  .injection e with e
   have:=AL z;lia
 have pi:=inv.pcs _ (AQ hi')
 have pj:=inv.pcs _ (AQ hj')
 have up:∀{x:Int},0<=x->x<2^(131+k)->x.natAbs<2^150:=λ{x} a b=>Ff a (wZ b (F1 (by lia)))
 have sz:=inv.sz.1
 obtain⟨a9',a10',T,e5,w5,s5⟩:=VU (z:=30+170*k) (a0:=bk) (a1:=Gc (.ref sr)) (a3:=Gc (AO.DR i j).d) (a9:=a9) (a10:=a10) (n:=(AH o.AA i).n) (m:=(AH o.AA j).n) h0.cell qw x2 y2 x30 y30 (wx x3) (wx y3) x4 y4 la lb (sz _ (AQ hi')) (sz _ (AQ hj')) (by lia) (up pi.1 pi.2) (up pj.1 pj.2) (by lia) (ks:=ks) (done:=[]) (T:=S++[Cl.dct []]) w0 .refl ksM pw (λ_ z=>nomatch z) (by simp;lia)
 rw[sF]at w5
 have sT:Bh [] S T:=Bh.new (A:=[]) (B:=[S.length]) .app s5 (by simp)
 have hT:OAt T q M xs o:=h.keep sT (by simp) (λ_ z=>nomatch z)
 have hz:xs.length<sizeLine:=qf (show _<51 by rw[h.len];lia) (AI (by decide))
 have snoc:=hT.snoc (o':=CK t M o (.DR i j)) (x:=.ref S.length) (.inr ⟨_,rfl,w5⟩) (by
  show DOk M _ (AH (less (less o.AA i _) j _++[_]) o.AA.length).ow
  rw[Dx,AV,AV,rA (sV _),q9 rfl]
  refine⟨ks,rfl,ksl,ksM,λr hr=>?_,pw.imp λh=>qv h,λr hr=>by
   rw[JN (by have:=ksM r hr;lia) (by have:=ksM r hr;lia)]
   refine aI x4.nn y4.nn ?_ h1' h2'
   rcases(mem r).mp hr with z|z
   .exact .inl (kp1 r z)
   .exact .inr (kp2 r z)⟩
  have hr1:r∉k1:=λz=>hr ((mem r).mpr (.inl z))
  have hr2:r∉k2:=λz=>hr ((mem r).mpr (.inr z))
  by_cases hrM:r<M
  .rw[JN (by lia) (by lia),kz1 r hr1,kz2 r hr2]
   grind
  .rw[qV,tW (by unfold Aq;simp;lia)];rfl) (by simp[CK,G7,step,AV]) (λr hr=>by
  show(AH (less (less o.AA i _) j _++[_]) r).ow=_
  rw[Dx,AV,AV,q9 hr,Hi,Hi])
 refine⟨[Gc (.int i),Gc (.int j),Gc (.int (AH o.AA i).n),Gc (.int (AH o.AA j).n),Gc (.ref S.length),a9',a10'],_,_,rfl,?_,snoc,(sT.mono λ_ z=>nomatch z).trans (.set (by simp))⟩
 obtain⟨ca,ca1,ca2,ca3⟩:=hS.at hi
 obtain⟨cb,cb1,cb2,cb3⟩:=hS.at hj
 have r0:=AW hS.root
 have l0:=AW hS.lo
 have a0:=AW (show S[ca]?=Gc (.lst _)from ca2)
 have b0:=AW (show S[cb]?=Gc (.lst _)from cb2)
 have dq0:=AW h0.cell
 have d1:=x30.dd
 have d2:=y30.dd
 have ke1:=LQ (ow:=(AH o.AA i).ow) (ks:=k1)
 have ke2:=LQ (ow:=(AH o.AA j).ow) (ks:=k2)
 have cT:=AJ hT.cell
 have za:((k1.map λ(n:Nat)=>(n:Int)).map D.int).length+((k2.map λ(n:Nat)=>(n:Int)).map D.int).length<=sizeLine:=qh (show _<=100 by simp;lia) (AI (by decide))
 have mn:Jx [] []=[]:=rfl
 rw[ai.2,aj.2]at*
 generalize k1.map (ent (AH o.AA i).ow)=EI at*
 generalize k2.map (ent (AH o.AA j).ow)=EJ at*
 generalize (k1.map λ(n:Nat)=>(n:Int))=N1 at*
 generalize (k2.map λ(n:Nat)=>(n:Int))=N2 at*
 simp only[qy]at za
 generalize AG ks=NN at*
 simp only[AO.d,sY,sF]at e5⊢
 simp[-Cf,olP,r0,l0,a0,b0,ca3,cb3,mn,dq0,x2,y2,d1,d2,ke1,ke2,za,wss,e5,cT,hz]
end
end Mi
end
noncomputable section
namespace Mi
open PySem PySem.Spec L2 PyProof.Rows
section
variable{S:Sto}{t:Tr}{ls:Wp Ld}{ds:Wp AO}{k M q:Nat}{s o o':Stt}{d:AO}{xs:Wp D}
theorem SAt.lst{sr l m:Nat}{as:Wp Nat}(h:SAt S sr l m as s):∀n∈sr::l::m::as,∀es,S[n]?≠Gc (.dct es):=by
 intro n hn es e
 simp only[qj]at hn
 rcases hn with rfl|rfl|rfl|hn
 .rw[h.root]at e;cases e
 .rw[h.lo]at e;cases e
 .rw[h.nu]at e;cases e
 .obtain⟨i,hi,rfl⟩:=z8.mp hn
  have hi2:i<s.AA.length:=by rw[<-h.len];exact hi
  rw[h.ld i as[i] _ (qW hi) (Ct hi2)]at e
  cases e
def orL:Ex:=AU olA (Ao (AE BI [eOp (o2 wIx) [eV 0,eC (.int 0)],eV 1,eV 3]))
theorem aY{sr l m:Nat}{as:Wp Nat}{bk:qY D}{us:En}(hus:us.length=7)(hS:SAt S sr l m as s)(h:OAt S q M xs o)(oj:OJ t M k s o)(hk:k<=17)(hM:Hn d=true->o.AA.length<M)(hM2:M<=40)(hc:Can t s d):∃us' xs' S',us'.length=7/\olA ([bk,Gc (.ref sr),Gc (.ref q),Gc d.d]++us) S=Gc (.nx,[bk,Gc (.ref sr),Gc (.ref q),Gc d.d]++us',S')/\OAt S' q M xs' (CK t M o d)/\Bh [q] S S':=by
 have hl:o.AA.length<=50:=by have:=oj.inv.len;lia
 by_cases hp:∃i j,d=.DR i j
 .obtain⟨i,j,rfl⟩:=hp
  obtain⟨us',xs',S',e0,e1,e2,e3⟩:=cD (bk:=bk) hus hS h oj.inv hk (hM rfl) hM2 hc oj.hd
  refine⟨us',xs',S',e0,?_,e2,e3⟩
  rw[<-e1]
  simp[-Cf,olA,AO.d]
 .obtain⟨xs',S',e1,e2,e3⟩:=dZ (bk:=bk) (sr:=sr) hus h hl hM (λi j e=>hp ⟨i,j,e⟩) hc oj.hd
  exact⟨us,xs',S',hus,e1,e2,e3⟩
theorem fM{sr l m:Nat}{as:Wp Nat}{us:En}{X Y:D}{k2:Nat}(ht:Jg t)(hus:us.length=7)(hs:CQ t k2 s)(hk2:k2<=16)(hS:SAt S sr l m as s)(h:OAt S q M xs o)(hq:q∉sr::l::m::as)(oj:OJ t M k s o)(hk:k<=17)(hM:Hn d=true->o.AA.length<M)(hM2:M<=40)(hc:Can t s d):∃us' xs' S' as',us'.length=7/\orL ([Gc (.tup [t.d,X,Y]),Gc (.ref sr),Gc (.ref q),Gc d.d]++us) S=Gc (.nx,[Gc (.tup [t.d,X,Y]),Gc (.ref sr),Gc (.ref q),Gc d.d]++us',S')/\SAt S' sr l m as' (step t s d)/\OAt S' q M xs' (CK t M o d)/\q∉sr::l::m::as'/\(∀n∈as',n∈as\/S.length<=n)/\Bh (q::sr::l::m::as) S S':=by
 obtain⟨us',xs',S1,e0,e1,h1,s1⟩:=aY (bk:=Gc (.tup [t.d,X,Y])) hus hS h oj hk hM hM2 hc
 have hS1:=hS.same s1 (λn hn=>by simp at hn;rw[hn];exact hq)
 obtain⟨S2,as',k1,k2,k3,k4⟩:=eX hS1 ht hs hk2 hc
 have h2:=h1.keep k3 hq hS1.lst
 have l1:=s1.len
 have hq':q∉sr::l::m::as':=by
  intro z
  simp only[qj]at z hq
  rcases z with z|z|z|z
  .exact hq (.inl z)
  .exact hq (.inr (.inl z))
  .exact hq (.inr (.inr (.inl z)))
  .rcases k4 _ z with w|w
   .exact hq (.inr (.inr (.inr w)))
   .have:=AL h1.cell;lia
 refine⟨us',xs',S2,as',e0,?_,k2,h2,hq',λn hn=>(k4 n hn).imp id λw=>by lia,(s1.mono λn hn=>by simp at hn;simp[hn]).trans (k3.mono λn hn=>qi _ hn)⟩
 unfold orL
 rw[A6,e1,Ab,BP]
 simp[k1]
theorem RF{sr l m:Nat}{X Y:D}(ht:Jg t)(hM2:M<=40){S0:Sto}:∀{ds:Wp AO} {s o:Stt} {k:Nat} {S:Sto} {as:Wp Nat} {xs:Wp D} {us:En} {a3:qY D},us.length=7->(∀i,i<=ds.length->∃k,k<=16/\CQ t k (runs t s (ds.take i)))->SAt S sr l m as s->OAt S q M xs o->q∉sr::l::m::as->OJ t M k s o->II t s ds->k+ds.length<=18->(runs t s ds).AA.length<=M->(∀n∈q::sr::l::m::as,S0.length<=n)->Bh [] S0 S->∃us' a3' xs' S',KJ [] (tNm 3) orL (ds.map AO.d) ([Gc (.tup [t.d,X,Y]),Gc (.ref sr),Gc (.ref q),a3]++us) S=Gc (.nx,[Gc (.tup [t.d,X,Y]),Gc (.ref sr),Gc (.ref q),a3']++us',S')/\OAt S' q M xs' (VP t M o ds)/\Bh [] S0 S'
 | [],s,o,k,S,as,xs,us,a3,_,_,_,h,_,_,_,_,_,_,hm=>⟨us,a3,xs,S,by rw[uC,GQ Aa],h,hm⟩
 |d::ds,s,o,k,S,as,xs,us,a3,hus,hs,hS,h,hq,oj,hg,hk,hM,hn,hm=>by
  have hl:(d::ds).length=ds.length+1:=rfl
  have hr:=Pm oj.hd hM
  obtain⟨k2,hk2,hs0⟩:=hs 0 (sf _)
  have hs0:CQ t k2 s:=hs0
  obtain⟨us1,xs1,S1,as1,c0,c1,c2,c3,c4,c5,c6⟩:=fM (X:=X) (Y:=Y) ht hus hs0 hk2 hS h hq oj (by lia) hr hM2 hg.1
  have m1:Bh [] S0 S1:=Bh.new (A:=[]) hm c6 hn
  have n1:∀n∈q::sr::l::m::as1,S0.length<=n:=by
   intro n hz
   simp only[qj]at hz hn
   rcases hz with z|z|z|z|z
   .exact hn n (.inl z)
   .exact hn n (.inr (.inl z))
   .exact hn n (.inr (.inr (.inl z)))
   .exact hn n (.inr (.inr (.inr (.inl z))))
   .rcases c5 n z with w|w
    .exact hn n (.inr (.inr (.inr (.inr w))))
    .exact qh hm.len w
  obtain⟨us2,a32,xs2,S2,e2,h2,m2⟩:=RF ht hM2 (X:=X) (Y:=Y) (ds:=ds) (a3:=Gc d.d) (s:=step t s d) c0 (λi h'=>hs (i+1) (by lia)) c2 c3 c4 (oj.step (by lia) hg.1 hr) hg.2 (by lia) hM n1 m1
  refine⟨us2,a32,xs2,S2,?_,h2,m2⟩
  have tn:tNm 3 d.d ([Gc (.tup [t.d,X,Y]),Gc (.ref sr),Gc (.ref q),a3]++us) S=Gc ([Gc (.tup [t.d,X,Y]),Gc (.ref sr),Gc (.ref q),Gc d.d]++us):=rfl
  rw[rD,Dk Aa,tn,Ab,c1,Ab,BP,e2]
theorem Lp(h:ED t ls ds):∃q xs S',DA [As t ls ds] S=Gc (.ref q,S')/\OAt S' q (manyN ls ds) xs (Mj t ls ds)/\Bh [] S S'/\S.length<=q:=by
 have hd:=h.len
 have hl:ls.length<=4:=h.few
 have mm:manyN ls ds<=24:=by rw[<-Fq];exact FU h
 obtain⟨sr,l,m,as,S1,e1,hS,sm,hn⟩:=Qh (S:=S) (t:=t) (ls:=ls) (x:=.tup (ds.map AO.d)) (by lia)
 have hS:SAt S1 sr l m as (st0 t ls):=hS
 have lt:=hS.lts
 have sz2:(2:Nat)<=sizeLine:=AI (by decide)
 have c1:=CL (gs:=[]) (t:=tNm 0) (f:=UX [((eV 0),(BH [eC (.int 1),eC (.int 1)]))]) (C:=[]) (m:=1) (e:=λi:Nat=>D.int (0+(i:Int))) (g:=λi:Nat=>D.dct [(.inl (i:Int),.tup [.int 1,.int 1])]) (S:=S1) Aa (xs:=rO ls.length) (acc:=[]) (os:=[none]) rfl (qh (show _<=50 by simp;lia) (AI (by decide))) (by
  intro i _ os ho
  obtain⟨o1,rfl⟩:=V9 ho
  have m1:Jx [] [((.inl (i:Int):Key),D.tup [.int 1,.int 1])]=[((.inl (i:Int):Key),D.tup [.int 1,.int 1])]:=rfl
  exact⟨[Gc (.int i)],by simp,by simp,by simp[sz2,m1]⟩)
 have rg:(rO ls.length).map (λi:Nat=>D.int (0+(i:Int)))=Ka 0 ls.length:=by simp[Ka]
 rw[rg]at c1
 simp only[sF]at c1
 have rn:IJ (ls.length:Int)=true:=DQ (by lia) (by lia)
 have oa:OAt (S1++[Cl.lst ((rO ls.length).map λi:Nat=>D.dct [(.inl (i:Int),.tup [.int 1,.int 1])])]) S1.length (manyN ls ds) ((rO ls.length).map λi:Nat=>D.dct [(.inl (i:Int),.tup [.int 1,.int 1])]) (Pj (manyN ls ds) ls):=by
  refine⟨qm,by simp[Pj],λi x e=>?_⟩
  have hi:i<ls.length:=by
   rcases ux i ls.length with w|w
   .exact w
   .rw[tW (by simpa using w)]at e;cases e
  rw[ql,wN hi]at e
  simp at e
  subst e
  refine⟨_,.inl rfl,?_⟩
  have:(AH (Pj (manyN ls ds) ls).AA i).ow=JV (manyN ls ds) i:=by
   unfold AH Pj
   simp[qV,hi]
  rw[this]
  exact DOk.one (by unfold manyN;lia)
 have hSa:=hS.SN (S':=S1++[Cl.lst ((rO ls.length).map λi:Nat=>D.dct [(.inl (i:Int),.tup [.int 1,.int 1])])]) .app
 have qn:S1.length∉sr::l::m::as:=λz=>by have:=lt _ z;lia
 have lSq:=sm.len
 obtain⟨us,a3,xs,S2,e2,h2,m2⟩:=RF (M:=manyN ls ds) (X:=.tup (ls.map Ld.d)) (Y:=.tup (ds.map AO.d)) h.tr (by lia) (S0:=S) (us:=[none,none,none,none,none,none,none]) (a3:=none) rfl h.inv hSa oa qn (Ii h) h.good (by lia) (by rw[GJ];exact qg _) (λn hz=>by
  rcases qj.mp hz with z|z
  .lia
  .exact hn n z) (sm.trans .app)
 refine⟨S1.length,xs,S2,?_,h2,m2,lSq⟩
 have eb:Ib=(AU (NO 1 2 (AE Dj [eV 0]) (Jc [] 1 (Mc [eOp (o1 DX) [eOp (o2 wIx) [eV 0,eC (.int 1)]]]) (tNm 0) By (UX [((eV 0),(BH [eC (.int 1),eC (.int 1)]))])))
  (AU (IL (Fd (eOp (o2 wIx) [eV 0,eC (.int 2)])) (tNm 3) orL)
  (BG (eV 2)))):=rfl
 unfold DA
 rw[eb]
 simp only[As]at e1⊢
 simp only[sY,sF]at e2
 generalize ((rO ls.length).map λi:Nat=>D.dct [(.inl (i:Int),.tup [.int 1,.int 1])])=W at*
 simp[e1,rn,c1,e2]
end
end Mi
end
noncomputable section
namespace Mi
open PySem PySem.Spec L2
section
variable{S:Sto}{t:Tr}{ls:Wp Ld}{ds:Wp AO}{load:Nat}{o:Stt}{M:Nat}
theorem Ze{r:Rat}:decide (r.num>0)=decide (0<r):=by
 have h1:= @Rat.num_nonneg r
 have h2:= @Rat.num_eq_zero r
 by_cases h:0<r
 .have a:=h1.mpr (zN h)
  have b:r.num≠0:=λz=>by rw[h2.mp z]at h;exact absurd h (by decide)
  rw[sZ h,sZ (by lia)]
 .rw[t9 h,t9]
  intro z
  have a:=h1.mp (by lia)
  have b:r=0:=Rat.le_antisymm (Rat.not_lt.mp h) a
  rw[h2.mpr b]at z
  exact absurd z (by decide)
noncomputable def reN(o:Stt)(r:Nat):Wp Nat:=(rO o.AA.length).filter λi=>decide (0<(AH o.AA i).ow.getD r 0)
theorem reC{q:Nat}(hq:S[q]?=Gc (.lst (owL o)))(hl:o.AA.length<=50)(hr:∀i,i<o.AA.length->load<(AH o.AA i).ow.length):Bs [(q,owL o)] (tTp [tNm 1,tNm 2]) (eOp (o2 wGt) [eIx (eIx (eV 2) (eV 0)) (eI 0),eI 0]) (eV 1) (JD 0 (owL o)) [] [Gc (.int load),none,none] S=Gc (AG (reN o load),S):=by
 have:=CG (gs:=[(q,owL o)]) (t:=tTp [tNm 1,tNm 2]) (c:=eOp (o2 wGt) [eIx (eIx (eV 2) (eV 0)) (eI 0),eI 0]) (f:=eV 1) (C:=[Gc (.int load)]) (m:=2) (e:=λi:Nat=>D.tup [.int i,shD (AH o.AA i).ow]) (g:=λi:Nat=>D.int i) (b:=λi=>decide (0<(AH o.AA i).ow.getD load 0)) (S:=S) (λg hg=>by rw[q8.mp hg];exact AJ hq) (xs:=rO o.AA.length) (acc:=[]) (os:=[none,none]) rfl (qh (show _<=50 by simp;lia) (AI (by decide))) (by
  intro i hi os ho
  obtain⟨x1,x2,rfl⟩:∃x1 x2,os=[x1,x2]:=by
   match os,ho with
   | [a,b],_=>exact⟨a,b,rfl⟩
  have hlt:=hr i (tN.mp hi)
  have ax:atI ((AH o.AA i).ow.map aD) (load:Int)=Gc (aD ((AH o.AA i).ow.getD load 0)):=Bf (by rw[ql,qW hlt,qV,qW hlt];rfl)
  refine⟨[Gc (.int i),Gc (shD (AH o.AA i).ow)],rfl,by simp,?_,by simp⟩
  rw[<-Ze]
  unfold shD
  generalize (AH o.AA i).ow.map aD=OW at*
  generalize (AH o.AA i).ow.getD load 0=R at*
  simp[ax,aD])
 rw[Fz]
 have e:(rO (owL o).length).map (λi:Nat=>D.tup [.int i,(owL o).getD i .non])=(rO o.AA.length).map λi:Nat=>D.tup [.int i,shD (AH o.AA i).ow]:=by
  rw[show(owL o).length=o.AA.length by simp[owL]]
  refine wO λi hi=>?_
  have h:=tN.mp hi
  unfold owL AH
  rw[qV,ql,qV,qW h]
  rfl
 rw[e]
 exact this
theorem Vj{rows:Wp (Wp Nat)}(h:load<rows.length)(hr:rowAt rows load=[]):atI (rows.map nD) (load:Int)=Gc (.lst []):=Bf (by
 unfold rowAt at hr
 rw[qV,qW h]at hr
 have hr:rows[load]=[]:=hr
 rw[ql,qW h,hr]
 rfl)
theorem R3(h:ED t ls ds)(hi:load<(Ag ls.length ds).length)(hr:rowAt (Ag ls.length ds) load=[]):∃S',Cc [As t ls ds,.int load] S=Gc (.lst (AG (reN (Mj t ls ds) load)),S')/\Bh [] S S':=by
 have e1:=Kk (S:=S) h
 have e2:=K9 (S:=S) h hi
 have e3:=Cp (S:=S) h
 have e4:=Vj hi hr
 obtain⟨q,S',e5,hq,sm,_⟩:=ON (S:=S) h
 have oj:=VN h
 have ol:=oj.inv.len
 have few:=FU h
 have ln:(Mj t ls ds).AA.length=manyN ls ds:=by rw[<-oj.hd.len,GJ];rfl
 rw[Fq]at hi few
 have c:=reC (load:=load) hq (by lia) (λi hi'=>by rw[oj.inv.own _ (AQ hi')];exact hi)
 refine⟨S',?_,sm⟩
 have dq:=AW hq
 have cl:=AJ hq
 have sq:=EE hq
 generalize As t ls ds=bk at*
 generalize owL (Mj t ls ds)=OW at*
 generalize AG (reN (Mj t ls ds) load)=RR at*
 generalize (Ag ls.length ds).map nD=RO at*
 unfold Cc
 simp[Hy,e1,e2,e3,e4,e5,sq,QH,c]
end
section
variable{E:En}{S:Sto}{r r1 r2:Rx}{f:Ex}{k:Ev}{R:Rf}{fs:Wp Ev}{x:Str}
noncomputable def nxR(r2:Rx)(q:Fl×En×Sto):qY (Tg×En×Sto):=match q.1 with
 | .nx=>r2 q.2.1 q.2.2
 | .ret _=>none
theorem dI:nxR r2 (.nx,E,S)=r2 E S:=nr rfl
theorem X6:Y7 r f r2 E S=(r E S).or ((f E S).bind (nxR r2)):=by
 unfold Y7
 cases r E S with
 |some z=>exact nr rfl
 |none=>exact nr rfl
theorem Vt:rNo E S=none:=nr rfl
noncomputable def ifR(r1 r2:Rx)(E:En)(q:D×Sto):qY (Tg×En×Sto):=match q.1 with
 | .bl true=>r1 E q.2
 | .bl false=>r2 E q.2
 |_=>none
theorem jR:ifR r1 r2 E (.bl true,S)=r1 E S:=nr rfl
theorem kF:ifR r1 r2 E (.bl false,S)=r2 E S:=nr rfl
theorem UC:rIf k r1 r2 E S=(k E S).bind (ifR r1 r2 E):=nr rfl
theorem O7:TV R fs E S=(evs fs E S).bind λq=>(R q.1 q.2).map λz=>(z.1,E,z.2):=nr rfl
theorem SQ:RH x fs E S=(evs fs E S).map λq=>(⟨x,none⟩,E,q.2):=nr rfl
theorem mT{N:Nat}{ds:Wp D}:Ap (SH N r) ds S=(r (ds.map Gc++qz (N-ds.length) none) S).map λq=>(q.1,q.2.2):=by
 rw[Mz];rfl
theorem R0:LH E S=none:=nr rfl
end
section
variable{S:Sto}{t:Tr}{ls:Wp Ld}{ds:Wp AO}{load:Nat}
theorem jr(h:ED t ls ds)(hi:load<(Ag ls.length ds).length):CO [As t ls ds,.int load] S=none:=by
 have k1:St.Kd.int.isA "int"=true:=by decide
 have k2:St.Kd.int.isA "bool"=false:=by decide
 have m:=Pr (S:=S) h
 have h1:(load:Int)<=((Ag ls.length ds).length:Int)-1:=by lia
 generalize ((Ag ls.length ds).length:Int)=L at*
 simp only[As]at m⊢
 simp[CO,FN,mT,UC,Vt,kF,m,k1,k2,BE,ES,Ez,GU,Dw,FZ,kdW,h1]
theorem ZC(h:ED t ls ds)(hi:load<(Ag ls.length ds).length)(hr:rowAt (Ag ls.length ds) load=[]):∃S',Dg [As t ls ds,.int load] S=Gc (.lst (AG (reN (Mj t ls ds) load)),S')/\Bh [] S S':=by
 obtain⟨S',e,sm⟩:=R3 (S:=S) h hi hr
 refine⟨S',?_,sm⟩
 generalize As t ls ds=bk at*
 have a:(BG (AE Cc [eV 0,eV 1])) [Gc bk,Gc (.int load)] S=Gc (.ret (.lst (AG (reN (Mj t ls ds) load))),[Gc bk,Gc (.int load)],S'):=by simp[e]
 have e1:Fs [Gc bk,Gc (.int load)] S=Gc (.ret (.lst (AG (reN (Mj t ls ds) load))),[Gc bk,Gc (.int load)],S'):=by
  unfold Fs dQ
  rw[a]
 simp[Dg,e1]
theorem Pz{rows:Wp (Wp Nat)}(h:load<rows.length):atI (rows.map nD) (load:Int)=Gc (.lst (AG (rowAt rows load))):=Bf (by
 unfold rowAt
 rw[ql,qW h,qV,qW h]
 rfl)
theorem Ys(h:ED t ls ds)(hi:load<(Ag ls.length ds).length)(hr:rowAt (Ag ls.length ds) load≠[]):Dg [As t ls ds,.int load] S=Gc (.str "no",S):=by
 have e1:=Kk (S:=S) h
 have e2:=K9 (S:=S) h hi
 have e3:=Cp (S:=S) h
 have e4:=Pz hi
 have r2:=jr (S:=S) h hi
 have l0:(0:Int)<((AG (rowAt (Ag ls.length ds) load)).length:Int):=by
  unfold AG
  rw[qy]
  have:=uo.mpr hr
  lia
 generalize As t ls ds=bk at*
 generalize AG (rowAt (Ag ls.length ds) load)=R at*
 generalize (Ag ls.length ds).map nD=RO at*
 have l1:0<R.length:=by lia
 have f:Cc [bk,.int load] S=none:=by
  unfold Cc
  simp[Hy,e1,e2,e3,e4,R0,l1]
 have g:Ek [bk,.int load] S=Gc (⟨"NoLoad",none⟩,S):=by
  unfold Ek
  simp[K8,mT,X6,O7,Vt,r2,e1,e2,e3,e4,dI,UC,jR,SQ,l1]
 have a:(BG (AE Cc [eV 0,eV 1])) [Gc bk,Gc (.int load)] S=none:=by simp[f]
 have b:(TV Ek [eV 0,eV 1]) [Gc bk,Gc (.int load)] S=Gc (⟨"NoLoad",none⟩,[Gc bk,Gc (.int load)],S):=by simp[O7,g]
 have e5:Fs [Gc bk,Gc (.int load)] S=Gc (.ret (.str "no"),[Gc bk,Gc (.int load)],S):=by
  unfold Fs dQ
  rw[a]
  show Option.bind _ _=_
  rw[b]
  have g:gOr ["NoLoad"] "NoLoad" (BG (eC (.str "no"))) gNo ⟨"NoLoad",none⟩=BG (eC (.str "no")):=by
   unfold gOr
   rw[q9 qp,q9 (by decide)]
  show gOr _ _ _ _ _ _ _=_
  rw[g]
  simp
 simp[Dg,e5]
end
theorem eE{S:Sto}{k:Nat}{row:Wp Nat}{f:Nat->Wp Nat}:∃is,mnK (.lst (row.map λs=>.tup (AG (f s++[k]))),S) (.tup [.int k],S)=Gc (.tup (AG is),S)/\((row=[]/\is=[k])\/∃s∈row,is=f s++[k]/\∀s'∈row,lxN (f s'++[k]) (f s++[k])=false):=by
 have m:U5 tupI (row.map λs=>D.tup (AG (f s++[k])))=Gc ((row.map λs=>f s++[k]).map iN):=by rw[r9];exact QE λs _=>cW _
 cases row with
 |nil=>exact⟨[k],rfl,.inl ⟨rfl,rfl⟩⟩
 |cons s row=>
  have lb:∀i,i<(s::row).length->_:=λi hi=>RA (css:=(s::row).map λs=>f s++[k]) (i:=i) (by simpa using hi)
  have hlt:argBest (JF (((s::row).map λs=>f s++[k]).map iN)) (((s::row).map λs=>f s++[k]).length-1)<(s::row).length:=by
   have:=Mp (bt:=JF (((s::row).map λs=>f s++[k]).map iN)) (((s::row).map λs=>f s++[k]).length-1)
   simp only[qy,rV]at this⊢
   lia
  generalize hB:argBest (JF (((s::row).map λs=>f s++[k]).map iN)) (((s::row).map λs=>f s++[k]).length-1)=B at*
  have gd:∀{i} (h:i<(s::row).length),((s::row).map λs=>f s++[k]).getD i []=f ((s::row)[i])++[k]:=λ{i} h=>by
   rw[qV,ql,qW h];rfl
  refine⟨f ((s::row)[B])++[k],?_,.inr ⟨_,uE hlt,rfl,λs' hs'=>?_⟩⟩
  .show(U5 tupI ((s::row).map λs=>D.tup (AG (f s++[k])))).map (λnss=>(Zh (.tup [.int k]) nss ((s::row).map λs=>D.tup (AG (f s++[k]))),S))=_
   rw[m]
   show Gc (List.getD ((s::row).map λs=>D.tup (AG (f s++[k]))) (argBest (JF (((s::row).map λs=>f s++[k]).map iN)) (((s::row).map λs=>D.tup (AG (f s++[k]))).length-1)) .non,S)=_
   rw[show((s::row).map λs=>D.tup (AG (f s++[k]))).length=((s::row).map λs=>f s++[k]).length by simp,hB,qV,ql,qW hlt]
   rfl
  .obtain⟨i,hi,e⟩:=AAE hs'
   have:=lb i hi
   rw[gd hi,gd hlt,e]at this
   exact this
section
variable{S:Sto}{t:Tr}{ls:Wp Ld}{ds:Wp AO}{load:Nat}
theorem ZH{rows:Wp (Wp Nat)}(ha:FC rows)(hr:rows.length<=50)(hw:∀k,(rowAt rows k).length<=2){css:Wp (Wp Nat)}{q:Nat}{a0 a1 o5:qY D}(hk:css.length<rows.length)(hc:∀i,i<css.length->Lst rows i (css.getD i []))(hq:S[q]?=Gc (.lst (css.map chD))):∃is o,fcB [a0,a1,Gc (.ref q),Gc (.int css.length),Gc (.lst (AG (rowAt rows css.length))),o5] S=Gc (.nx,[a0,a1,Gc (.ref q),Gc (.int css.length),Gc (.lst (AG (rowAt rows css.length))),o],S.set q (.lst ((css++[is]).map chD)))/\Lst rows css.length is:=by
 obtain⟨is,e1,e2⟩:=eE (S:=S) (k:=css.length) (row:=rowAt rows css.length) (f:=λs=>css.getD s [])
 have hs2:=hw css.length
 have cz:=CL (gs:=[]) (t:=tNm 2) (f:=eOp (o2 CP) [eOp (o2 wIx) [eV 0,eV 2],BH [eV 1]]) (C:=[Gc (.ref q),Gc (.int css.length)]) (m:=1) (e:=λi:Nat=>D.int i) (g:=λs=>D.tup (AG (css.getD s []++[css.length]))) (S:=S) Aa (xs:=rowAt rows css.length) (acc:=[]) (os:=[none]) rfl (qh (show _<=50 by simp;lia) (AI (by decide))) (by
  intro s hs os ho
  obtain⟨x1,rfl⟩:∃x1,os=[x1]:=by
   match os,ho with
   | [a],_=>exact⟨a,rfl⟩
  have hlt:=ha _ _ hs
  have at1:atI (css.map chD) (s:Int)=Gc (.tup (AG (css.getD s []))):=Bf (by rw[ql,qV,qW hlt];rfl)
  have dq:=AW hq
  have hlen:=(hc s hlt).c.len ha
  have sz:(AG (css.getD s [])).length+1<=sizeLine:=qh (show _<=100 by unfold AG;rw[qy];lia) (AI (by decide))
  have en:AG (css.getD s []++[css.length])=AG (css.getD s [])++[.int css.length]:=by unfold AG;rw[tU];rfl
  refine⟨[Gc (.int s)],rfl,by simp,?_⟩
  rw[en]
  generalize AG (css.getD s [])=NX at*
  generalize css.map chD=CM at*
  simp[dq,at1,sz])
 have hz:(css.map chD).length<sizeLine:=qf (show _<51 by rw[qy];lia) (AI (by decide))
 refine⟨is,Gc (.lst ((rowAt rows css.length).map λs=>D.tup (AG (css.getD s []++[css.length])))),?_,?_⟩
 .have eM:∀(fa fb:Ev) (E:En) (T:Sto),eMn fa fb E T=(fa E T).bind λp=>(fb E p.2).bind λq=>mnK p q:=λ_ _ _ _=>rfl
  have ea:(css++[is]).map chD=css.map chD++[.tup (AG is)]:=by rw[tU];rfl
  rw[ea]
  simp only[sF,sY]at cz
  change Bs [] (tNm 2) By _ (AG (rowAt rows css.length)) _ _ _=_ at cz
  have sq:sqD S (.lst (AG (rowAt rows css.length)))=Gc (AG (rowAt rows css.length),[]):=nr rfl
  generalize ((rowAt rows css.length).map λs=>D.tup (AG (css.getD s []++[css.length])))=LG at*
  generalize AG (rowAt rows css.length)=RX at*
  generalize css.map chD=CM at*
  simp[fcB,sq,QH,cz,eM,e1,AJ hq,hz]
 .rcases e2 with⟨h1,rfl⟩|⟨s,hs,rfl,hl⟩
  .exact .root h1 hk
  .exact .step ha (f:=λs=>css.getD s []) (λs hs=>hc s (ha _ _ hs)) hs hk hl
theorem OC(h:ED t ls ds)(hi:load<(Ag ls.length ds).length):∃is S',CV [As t ls ds,.int load] S=Gc (.tup (AG is),S')/\Lst (Ag ls.length ds) load is/\Bh [] S S':=by
 have r1:=Kk (S:=S) h
 have r2:=K9 (S:=S) h hi
 have sr:=Cp (S:=S++[Cl.lst []]) h
 have ha:=Hc h
 have hr:=FU h
 have hw:=Nk (ls:=ls) (ds:=ds)
 generalize Ag ls.length ds=rows at*
 have hq:(S++[Cl.lst []])[S.length]?=Gc (.lst []):=qm
 obtain⟨E',S',ef,css,u3,u4,u5,f1,rfl,f3,f4,f5⟩:=Ed (gs:=[]) (t:=tTp [tNm 3,tNm 4]) (b:=fcB)
  (I:=λrs E S'=>∃(css:Wp (Wp Nat)) (u3 u4 u5:qY D),(rs=(JD 0 (rows.map nD)).drop css.length/\css.length<=rows.length)/\E=[Gc (As t ls ds),Gc (.int load),Gc (.ref S.length),u3,u4,u5]/\S'[S.length]?=Gc (.lst (css.map chD))/\(∀i,i<css.length->Lst rows i (css.getD i []))/\Bh [S.length] (S++[Cl.lst []]) S')
  (λ_ _ _ _=>Aa) (ds:=JD 0 (rows.map nD)) (E:=[Gc (As t ls ds),Gc (.int load),Gc (.ref S.length),none,none,none]) (S:=S++[Cl.lst []])
  ⟨[],none,none,none,⟨by simp,sf _⟩,rfl,hq,λi hi=>by simp at hi,.refl⟩ (by
    rintro dd rs E T ⟨css,u3,u4,u5,⟨i1,i2⟩,rfl,i3,i4,i5⟩
    have el:(JD 0 (rows.map nD)).length=rows.length:=by rw[Iy];simp
    have hlt:css.length<rows.length:=by
     rcases ux css.length rows.length with w|w
     .exact w
     .rw[uR (by lia)]at i1;cases i1
    rw[sW (by lia)]at i1
    injection i1 with z1 z2
    have hd1:dd=.tup [.int css.length,.lst (AG (rowAt rows css.length))]:=by
     have:(JD 0 (rows.map nD))[css.length]?=Gc (.tup [.int css.length,.lst (AG (rowAt rows css.length))]):=by
      rw[Iy,ql,wN hlt];rfl
     rw[qW (by lia),<-z1]at this
     exact sL this
    subst z2 hd1
    obtain⟨is,o,e,c⟩:=ZH (S:=T) (a0:=Gc (As t ls ds)) (a1:=Gc (.int load)) (o5:=u5) ha (by lia) hw hlt i4 i3
    refine⟨_,_,_,by simp,e,css++[is],_,_,_,⟨by simp,by simp;lia⟩,rfl,qo (AL i3),λi hi=>?_,i5.trans (.set (by simp))⟩
    by_cases hz:i<css.length
    .have:(css++[is]).getD i []=css.getD i []:=by rw[qV,qZ hz,<-qV]
     rw[this];exact i4 i hz
    .have:i=css.length:=by simp at hi;lia
     subst this
     rw[qV,qm]
     exact c)
 have el:(JD 0 (rows.map nD)).length=rows.length:=by rw[Iy];simp
 have hn:css.length=rows.length:=by
  have:=congrArg yT f1.1
  rw[yr,el]at this
  simp at this
  lia
 have at1:atI (css.map chD) (load:Int)=Gc (.tup (AG (css.getD load []))):=Bf (by rw[ql,qV,qW (by lia)];rfl)
 refine⟨css.getD load [],S',?_,f4 load (by lia),Bh.new (A:=[]) (B:=[S.length]) .app f5 (by simp)⟩
 have eb:HA=(AU (Ao (AE Al [eV 0]))
  (AU (Ao (AE Ai [eV 0,eV 1]))
  (AU (BC 2 (Cg []))
  (AU (IL (Qd (AE An [eV 0])) (tTp [tNm 3,tNm 4]) fcB)
  (BG (eOp (o2 wIx) [eV 2,eV 1])))))):=rfl
 have dq:=AW f3
 unfold CV
 rw[eb]
 generalize As t ls ds=bk at*
 generalize rows.map nD=RO at*
 generalize css.map chD=CM at*
 simp[r1,r2,sr,ef,dq,at1]
end
theorem TQ{α:Type}{gs:Gd}{t:Tf}{b:Ex}{C:En}{m q:Nat}{S0:Sto}{e:α->D}{h:α->Wp D}(hg:∀T,Bh [q] S0 T->gOk gs T):∀{xs:Wp α} {acc:Wp D} {os:En} {S:Sto},os.length=m->S[q]?=Gc (.lst acc)->Bh [q] S0 S->acc.length+xs.length<=1000->(∀x∈xs,(h x).length<=1)->(∀x∈xs,∀os S acc,os.length=m->S[q]?=Gc (.lst acc)->acc.length<sizeLine->Bh [q] S0 S->∃us us' S',t (e x) (C++os) S=Gc (C++us)/\b (C++us) S=Gc (.nx,C++us',S'.set q (.lst (acc++h x)))/\us'.length=m/\Bh [] S S')->∃os' S',os'.length=m/\KJ gs t b (xs.map e) (C++os) S=Gc (.nx,C++os',S')/\S'[q]?=Gc (.lst (acc++xs.flatMap h))/\Bh [q] S S'
 | [],acc,os,S,ho,hq,hs,hz,h1,H=>⟨os,S,ho,by rw[uC,GQ (hg S hs)],by simpa using hq,.refl⟩
 |x::xs,acc,os,S,ho,hq,hs,hz,h1,H=>by
  obtain⟨us,us',S1,e1,e2,hu,sm⟩:=H x qp os S acc ho hq (qf (show acc.length<1001 by simp at hz;lia) (by decide)) hs
  have q1:=sm.get hq (by simp)
  have s1:Bh [q] S (S1.set q (.lst (acc++h x))):=(sm.mono λ_ z=>(nomatch z)).trans (.set (by simp))
  have hx:=h1 x qp
  obtain⟨os',S2,ho',e3,q2,s2⟩:=TQ hg (t:=t) (b:=b) (C:=C) (e:=e) (h:=h) (xs:=xs) (acc:=acc++h x) (os:=us') (S:=S1.set q (.lst (acc++h x))) hu (qo (AL q1)) (hs.trans s1) (by simp at hz ⊢; lia) (λx' hx=>h1 x' (qi _ hx)) λx' hx=>H x' (qi _ hx)
  refine⟨os',S2,ho',?_,by simpa using q2,s1.trans s2⟩
  rw[rD,Dk (hg S hs),e1,Ab,e2,Ab,BP,e3]
section
variable{S:Sto}{t:Tr}{ls:Wp Ld}{ds:Wp AO}
noncomputable def V8(d:AO):Wp D:=if Hn d=true then [nD (Md d)]else []
theorem S9:(ls.map λ_=>D.lst [])++ds.flatMap V8=(Ag ls.length ds).map nD:=by
 rw[Nz]
 congr 1
 induction ds with
 |nil=>rfl
 |cons d ds ih=>
  rw[xG,xR,ih]
  unfold V8
  cases Hn d<;>simp
def YC:Ex:=(xIf (eOp (o2 wEq) [eOp (o2 wIx) [eV 2,eC (.int 0)],eC (.str "bring")]) (Ao (EL EN (eV 1) [FD []])) (xIf (eOp (o2 wEq) [eOp (o2 wIx) [eV 2,eC (.int 0)],eC (.str "pool")]) (Ao (EL EN (eV 1) [eOp (o1 IU) [eOp (Ln true true) [eV 2,eC (.int 1),eC (.int 3)]]])) (xIf (eOp (o2 (wIn false)) [eOp (o2 wIx) [eV 2,eC (.int 0)],BH [eC (.str "swap"),eC (.str "trade")]]) (Ao (EL EN (eV 1) [FD [eOp (o2 wIx) [eV 2,eOp (o1 PN) [eC (.int 4)]]]])) DY)))
theorem Y5{d:AO}{q:Nat}{acc:Wp D}{a0:qY D}(hq:S[q]?=Gc (.lst acc))(hz:acc.length<sizeLine):YC [a0,Gc (.ref q),Gc d.d] S=Gc (.nx,[a0,Gc (.ref q),Gc d.d],S.set q (.lst (acc++V8 d))):=by
 have sz:(1:Nat)<=sizeLine:=AI (by decide)
 have sz2:(2:Nat)<=sizeLine:=AI (by decide)
 have cq:=AJ hq
 have sm:=set_same hq
 cases d with
 |DV p k n=>simp[-Cf,YC,AO.d,V8,Hn,Md,nD,AG,cq,hz]
 |DR a b=>
  have e:=Vq (a:=a) (b:=b)
  have er:V8 (.DR a b)=[.lst ((if(a:Int)<=(b:Int)then [(a:Int),(b:Int)]else [(b:Int),(a:Int)]).map D.int)]:=by
   rw[e];rfl
  rw[er]
  simp[-Cf,YC,AO.d,cq,hz,QM]
 |swap l g k n=>simp[-Cf,YC,AO.d,V8,Hn,Md,nD,AG,cq,hz,sz]
 |C8 u l g k n=>simp[-Cf,YC,AO.d,V8,Hn,Md,nD,AG,cq,hz,sz]
 |_=>simp[-Cf,YC,AO.d,V8,Hn,sm]
theorem Ro(h:ED t ls ds):∃q S',DP [As t ls ds] S=Gc (.ref q,S')/\S'[q]?=Gc (.lst ((Ag ls.length ds).map nD))/\Bh [] S S'/\S.length<=q:=by
 have hd:=h.len
 have hl:=h.few
 have c1:=CL (gs:=[]) (t:=tNm 0) (f:=FD []) (C:=[]) (m:=1) (e:=Ld.d) (g:=λ_=>D.lst []) (S:=S) Aa (xs:=ls) (acc:=[]) (os:=[none]) rfl (qh (show _<=50 by simp;lia) (AI (by decide))) (by
  intro x hx os ho
  obtain⟨x1,rfl⟩:∃x1,os=[x1]:=by
   match os,ho with
   | [a],_=>exact⟨a,rfl⟩
  exact⟨[Gc x.d],rfl,by simp,by simp⟩)
 have hq:(S++[Cl.lst (ls.map λ_=>D.lst [])])[S.length]?=Gc (.lst (ls.map λ_=>D.lst [])):=qm
 obtain⟨os',S2,ho',e2,q2,s2⟩:=TQ (gs:=[]) (S0:=S++[Cl.lst (ls.map λ_=>D.lst [])]) (t:=tNm 2) (b:=YC) (C:=[Gc (As t ls ds),Gc (.ref S.length)]) (m:=1) (q:=S.length) (e:=AO.d) (h:=V8) (λ_ _=>Aa) (xs:=ds) (acc:=ls.map λ_=>D.lst []) (os:=[none]) (S:=S++[Cl.lst (ls.map λ_=>D.lst [])]) rfl hq .refl (by simp;lia) (λd _=>by unfold V8;split<;>simp) (by
  intro d _ os T acc ho hq0 hz hT
  obtain⟨x1,rfl⟩:∃x1,os=[x1]:=by
   match os,ho with
   | [a],_=>exact⟨a,rfl⟩
  exact⟨[Gc d.d],[Gc d.d],T,by simp,Y5 (d:=d) hq0 hz,rfl,.refl⟩)
 rw[S9]at q2
 refine⟨S.length,S2,?_,q2,Bh.new (A:=[]) (B:=[S.length]) .app s2 (by simp),qg _⟩
 have eb:IV=(AU (BC 1 (Jc [] 1 (Fd (eOp (o2 wIx) [eV 0,eC (.int 1)])) (tNm 0) By (FD [])))
  (AU (IL (Fd (eOp (o2 wIx) [eV 0,eC (.int 2)])) (tNm 2) YC)
  (BG (eV 1)))):=rfl
 unfold DP
 rw[eb]
 simp only[sF,sY]at c1 e2
 simp only[As]at e2⊢
 generalize (ls.map λ_=>D.lst [])=A at*
 simp[c1,e2]
end
noncomputable def cv(ns:Wp Int)(row:Wp Nat):Int:=if row=[]then 1 else(row.map λs=>ns.getD s 0).sum
noncomputable def Fi(rows:Wp (Wp Nat)):Nat->Wp Int
 |0=>[]
 |k+1=>Fi rows k++[cv (Fi rows k) (rowAt rows k)]
noncomputable def cN(rows:Wp (Wp Nat))(k:Nat):Int:=cv (Fi rows k) (rowAt rows k)
section
variable{S:Sto}{t:Tr}{ls:Wp Ld}{ds:Wp AO}{load:Nat}{rows:Wp (Wp Nat)}
theorem JT:∀{k:Nat},(Fi rows k).length=k
 |0=>rfl
 |k+1=>by
  show(Fi rows k++[_]).length=_
  rw[rZ,JT];rfl
theorem VF{i:Nat}:∀{k:Nat},i<k->(Fi rows k)[i]?=Gc (cN rows i)
 |k+1,h=>by
  show(Fi rows k++[_])[i]?=_
  rcases ux i k with g|g
  .rw[qZ (by rw[JT];exact g)];exact VF g
  .have:i=(Fi rows k).length:=by rw[JT];lia
   subst this
   rw[qm,JT];rfl
theorem Ut{i k:Nat}(h:i<k):(Fi rows k).getD i 0=cN rows i:=by rw[qV,VF h];rfl
theorem Ni{i k:Nat}(h:i<k):atI ((Fi rows k).map D.int) (i:Int)=Gc (.int (cN rows i)):=Bf (by rw[ql,VF h];rfl)
theorem dM{n:Nat}(h:rowAt rows n=[]):cN rows n=1:=by unfold cN cv;rw[q9 h]
theorem bU(ha:FC rows){n:Nat}(h:rowAt rows n≠[]):cN rows n=((rowAt rows n).map (cN rows)).sum:=by
 unfold cN
 conv=>lhs;unfold cv
 rw[rA h]
 congr 1
 exact wO λs hs=>Ut (ha _ _ hs)
theorem nG{k q:Nat}(ha:FC rows)(hw:∀k,(rowAt rows k).length<=2)(hq:S[q]?=Gc (.lst ((Fi rows k).map D.int))):Bs [] (tNm 1) By (eIx (eV 0) (eV 1)) (AG (rowAt rows k)) [] [Gc (.ref q),none] S=Gc ((rowAt rows k).map λs=>D.int ((Fi rows k).getD s 0),S):=by
 have hl:=hw k
 have dq:=AW hq
 exact CL (gs:=[]) (t:=tNm 1) (f:=eIx (eV 0) (eV 1)) (C:=[Gc (.ref q)]) (m:=1) (e:=λi:Nat=>D.int i) (g:=λs=>D.int ((Fi rows k).getD s 0)) (S:=S) Aa (xs:=rowAt rows k) (acc:=[]) (os:=[none]) rfl (qh (show _<=50 by simp;lia) (AI (by decide))) (by
  intro s hs os ho
  obtain⟨x1,rfl⟩:∃x1,os=[x1]:=by
   match os,ho with
   | [a],_=>exact⟨a,rfl⟩
  have at1:=Ni (rows:=rows) (ha _ _ hs)
  rw[<-Ut (ha _ _ hs)]at at1
  refine⟨[Gc (.int s)],rfl,by simp,?_⟩
  generalize (Fi rows k).map D.int=N at*
  generalize (Fi rows k).getD s 0=V at*
  simp[dq,at1])
theorem RP{k:Nat}:(Fi rows (k+1)).map D.int=(Fi rows k).map D.int++[.int (cN rows k)]:=by
 show(Fi rows k++[_]).map D.int=_
 rw[tU];rfl
theorem cnt_ints{k:Nat}:Gw ((rowAt rows k).map λs=>D.int ((Fi rows k).getD s 0))=Gc ((rowAt rows k).map λs=>(Fi rows k).getD s 0):=by
 have:=D3 ((rowAt rows k).map λs=>(Fi rows k).getD s 0)
 rw[r9]at this
 exact this
def mcB:Ex:=(Ao (EL EN (eV 2) [eIf (eOp (o2 wGt) [eOp (o1 DX) [eV 3],eI 0]) (eOp (o1 Sw) [CF [2] 1 (Fd (eV 3)) (tNm 1) By (eIx (eV 0) (eV 1))]) (eI 1)]))
theorem gJ{q k:Nat}{a0 a1:qY D}(ha:FC rows)(hw:∀k,(rowAt rows k).length<=2)(hq:S[q]?=Gc (.lst ((Fi rows k).map D.int)))(hn:k<=50):mcB [a0,a1,Gc (.ref q),Gc (.lst (AG (rowAt rows k)))] S=Gc (.nx,[a0,a1,Gc (.ref q),Gc (.lst (AG (rowAt rows k)))],S.set q (.lst ((Fi rows (k+1)).map D.int))):=by
 have hz:((Fi rows k).map D.int).length<sizeLine:=qf (show _<51 by rw[qy,JT];lia) (AI (by decide))
 have cq:=AJ hq
 have cz:=nG ha hw hq
 have is:=cnt_ints (rows:=rows) (k:=k)
 have cn:cN rows k=cv (Fi rows k) (rowAt rows k):=rfl
 unfold cv at cn
 rw[RP,cn]
 generalize (Fi rows k).map D.int=N at*
 generalize cN rows k=V at*
 generalize Fi rows k=NS at*
 cases hr:rowAt rows k with
 |nil=>
  simp[mcB,AG,cq,hz]
 |cons s0 row=>
  rw[hr]at cz is
  have sq:sqD S (.lst (AG (s0::row)))=Gc (AG (s0::row),[]):=nr rfl
  have ln:0<(AG (s0::row)).length:=by simp[AG]
  rw[rA (by simp)]
  generalize ((s0::row).map λs=>D.int (NS.getD s 0))=Z at*
  generalize ((s0::row).map λs=>NS.getD s 0)=Z' at*
  generalize AG (s0::row)=RX at*
  simp[mcB,cq,hz,sq,QH,cz,is,ln]
theorem Li(h:ED t ls ds)(hn:load<(Ag ls.length ds).length):∃S',CW [As t ls ds,.int load] S=Gc (.int (cN (Ag ls.length ds) load),S')/\Bh [] S S':=by
 have e1:=Kk (S:=S) h
 have e2:=K9 (S:=S) h hn
 have e3:=Cp (S:=S++[Cl.lst []]) h
 have ha:=Hc h
 have hr:=FU h
 have hw:=Nk (ls:=ls) (ds:=ds)
 generalize Ag ls.length ds=rows at*
 have hq:(S++[Cl.lst []])[S.length]?=Gc (.lst []):=qm
 obtain⟨E',S',ef,k,u3,⟨f1,f2⟩,rfl,f3,f5⟩:=Ed (gs:=[]) (t:=tNm 3) (b:=mcB)
  (I:=λrs E S'=>∃(k:Nat) (u3:qY D),(rs=(rows.map nD).drop k/\k<=rows.length)/\E=[Gc (As t ls ds),Gc (.int load),Gc (.ref S.length),u3]/\S'[S.length]?=Gc (.lst ((Fi rows k).map D.int))/\Bh [S.length] (S++[Cl.lst []]) S')
  (λ_ _ _ _=>Aa) (ds:=rows.map nD) (E:=[Gc (As t ls ds),Gc (.int load),Gc (.ref S.length),none]) (S:=S++[Cl.lst []])
  ⟨0,none,⟨by simp,sf _⟩,rfl,hq,.refl⟩ (by
    rintro dd rs E T ⟨k,u3,⟨i1,i2⟩,rfl,i3,i5⟩
    have hlt:k<rows.length:=by
     rcases ux k rows.length with w|w
     .exact w
     .rw[uR (by simpa using w)]at i1;cases i1
    rw[sW (by simpa using hlt)]at i1
    injection i1 with z1 z2
    have hd1:dd=.lst (AG (rowAt rows k)):=by
     rw[z1,List.getElem_map]
     unfold rowAt
     rw[qV,qW hlt]
     rfl
    subst z2 hd1
    have e:=gJ (S:=T) (a0:=Gc (As t ls ds)) (a1:=Gc (.int load)) ha hw i3 (by lia)
    exact⟨_,_,_,by simp,e,k+1,_,⟨rfl,hlt⟩,rfl,qo (AL i3),i5.trans (.set (by simp))⟩)
 have hz:k=rows.length:=by
  have:=congrArg yT f1
  simp at this
  lia
 have at1:=Ni (rows:=rows) (show load<k by lia)
 have dq:=AW f3
 refine⟨S',?_,Bh.new (A:=[]) (B:=[S.length]) .app f5 (by simp)⟩
 have eb:HM=(AU (Ao (AE Al [eV 0]))
  (AU (Ao (AE Ai [eV 0,eV 1]))
  (AU (BC 2 (Cg []))
  (AU (IL (Fd (AE An [eV 0])) (tNm 3) mcB)
  (BG (eIx (eV 2) (eV 1))))))):=rfl
 unfold CW
 rw[eb]
 have sq:sqD (S++[Cl.lst []]) (.lst (rows.map nD))=Gc (rows.map nD,[]):=nr rfl
 generalize (Fi rows k).map D.int=N at*
 generalize cN rows load=V at*
 generalize rows.map nD=RD at*
 generalize As t ls ds=bk at*
 simp[e1,e2,e3,sq,ef,dq,at1]
end
noncomputable def G3(rows:Wp (Wp Nat))(is:Wp Nat):rR:=(is.zip is.tail).all λz=>(rowAt rows z.2).contains z.1
theorem Xe{is:Wp Nat}{i:Nat}:inD (.int i) (AG is)=is.contains i:=by
 have e:AG is=(is.map λj:Nat=>(j:Int)).map D.int:=by unfold AG;rw[r9];rfl
 rw[e,Mb,List.any_map,List.contains_eq_any_beq,xl,uZ,uZ]
 constructor
 .rintro ⟨x,hx,z⟩
  exact⟨x,hx,by simp at z ⊢; lia⟩
 .rintro ⟨x,hx,z⟩
  exact⟨x,hx,by simp at z ⊢; lia⟩
theorem Ul{is:Wp Nat}:(AG is).all Gs=true:=by
 unfold AG
 rw[xt,y0]
 intro x _;rfl
theorem Vi{α:Type}{xs:Wp α}{x:α}{k:Nat}(hl:xs.length=k+1)(h:xs[k]?=Gc x):atI xs (-1:Int)=Gc x:=by
 have ix:ixN xs.length (-1)=Gc k:=by
  rw[hl]
  unfold ixN
  simp
  lia
 unfold atI
 rw[ix]
 exact h
theorem V3{is:Wp Nat}{a:Nat}(h:is.getLast?=Gc a):atI (AG is) (-1)=Gc (.int a):=by
 cases is with
 |nil=>cases h
 |cons x xs=>
  refine Vi (k:=xs.length) (by simp[AG]) ?_
  rw[List.getLast?_eq_getElem?]at h
  unfold AG
  rw[ql]
  have:(x::xs)[xs.length]?=Gc a:=by simpa using h
  rw[this];rfl
theorem Ti{x:Nat}{xs:Wp Nat}:atI (AG (x::xs)) 0=Gc (.int x):=by
 have:=Bf (xs:=AG (x::xs)) (n:=0) (x:=.int x) rfl
 simpa using this
theorem WK{xs:Wp D}(h:xs≠[]):Lc xs (Gc 1) none=xs.tail:=by
 have:=Qt (ds:=xs) (n:=1) (by cases xs with|nil=>exact absurd rfl h|cons=>simp)
 rw[show((1:Nat):Int)=1 by rfl]at this
 rw[this,List.drop_one]
theorem Xf{is:Wp Nat}:Lh (AG is) (AG is).tail=(is.zip is.tail).map λz=>D.tup [.int z.1,.int z.2]:=by
 have e:(AG is).tail=AG is.tail:=by cases is<;>rfl
 rw[e]
 unfold Lh AG
 rw[List.zip_map,r9]
 rfl
theorem fC{n:Nat}{is:Wp Nat}(h:∀i∈is,i<n):∀z∈is.zip is.tail,z.1<n/\z.2<n:=λz hz=>by
 have:=vJ (show(z.1,z.2)∈is.zip is.tail from hz)
 exact⟨h _ this.1,h _ (List.mem_of_mem_tail this.2)⟩
section
variable{S:Sto}{t:Tr}{ls:Wp Ld}{ds:Wp AO}{load:Nat}{rows:Wp (Wp Nat)}
theorem Lv:∀{xs:Wp Nat} {x n a:Nat},(x::xs).getLast?=Gc a->G3 rows ((x::xs)++[n])=(G3 rows (x::xs) && (rowAt rows n).contains a)
 | [],x,n,a,h=>by
   simp at h
   subst h
   simp[G3]
 |y::xs,x,n,a,h=>by
  have ih:=Lv (xs:=xs) (x:=y) (n:=n) (a:=a) (by simpa using h)
  have e1:G3 rows (x::y::xs++[n])=((rowAt rows y).contains x && G3 rows (y::xs++[n])):=by simp[G3]
  have e2:G3 rows (x::y::xs)=((rowAt rows y).contains x && G3 rows (y::xs)):=by simp[G3]
  rw[e1,e2,ih,Bool.and_assoc]
theorem Chn.facts:∀{n:Nat} {is:Wp Nat},Chn rows n is->is≠[]/\is.getLast?=Gc n/\(∀i∈is,i<rows.length)/\rowAt rows (is.headD 0)=[]/\G3 rows is=true
 |_,_,.root (n:=n) h hn=>⟨by simp,by simp,λi hi=>by simp at hi;subst hi;exact hn,by simpa using h,by simp[G3]⟩
 |_,_,.step (n:=n) (s:=s) (is:=is) c m hn=>by
  obtain⟨h1,h2,h3,h4,h5⟩:=c.facts
  obtain⟨x,xs,rfl⟩:∃x xs,is=x::xs:=by
   cases is with
   |nil=>exact absurd rfl h1
   |cons x xs=>exact⟨x,xs,rfl⟩
  refine⟨by simp,List.getLast?_concat,λi hi=>?_,by simpa using h4,?_⟩
  .rcases rC.mp hi with hi|hi
   .exact h3 i hi
   .simp at hi;subst hi;exact hn
  .rw[Lv h2,h5,AAK]
   simpa using m
theorem kG {is : Wp Nat} (h : ∀ i ∈ is, i < rows.length) (hl : is.length ≤ 1000) : Bs [] (tTp [(tNm 1), (tNm 2)]) By (eOp (o2 (wIn false)) [(eV 1), (eIx (eV 0) (eV 2))]) (Lh (AG is) (AG is).tail) [] [Gc (.lst (rows.map nD)), none, none] S = Gc ((is.zip is.tail).map fun z => D.bl ((rowAt rows z.2).contains z.1), S) := by
  have c := CL (gs := []) (t := tTp [(tNm 1), (tNm 2)]) (f := eOp (o2 (wIn false)) [(eV 1), (eIx (eV 0) (eV 2))]) (C := [Gc (.lst (rows.map nD))]) (m := 2) (e := fun z : Nat × Nat => D.tup [.int z.1, .int z.2]) (g := fun z => D.bl ((rowAt rows z.2).contains z.1)) (S := S) Aa (xs := is.zip is.tail) (acc := []) (os := [none, none]) rfl (qh (show _ ≤ 1000 by
      have := @List.length_zip _ _ is is.tail
      simp only [uA, w9]; lia) (AI (by decide))) (by
    intro z hz os ho
    obtain ⟨x1, x2, rfl⟩ : ∃ x1 x2, os = [x1, x2] := by
      match os, ho with
      | [a, b], _ => exact ⟨a, b, rfl⟩
    have hz' := fC h z hz
    have ra := Pz (rows := rows) hz'.2
    have fo := Ul (is := rowAt rows z.2)
    have io := Xe (is := rowAt rows z.2) (i := z.1)
    refine ⟨[Gc (.int z.1), Gc (.int z.2)], rfl, by simp, ?_⟩
    generalize (rowAt rows z.2).contains z.1 = bb at *
    generalize AG (rowAt rows z.2) = RR at *
    generalize rows.map nD = RO at *
    simp [ra, fo, io])
  rw [Xf]
  exact c
theorem aS{i n:Nat}(h:i<n):BE [.int i,.int 0,.int ((n:Int)-1)] S=Gc (.bl true,S):=by
 have k1:St.Kd.int.isA "int"=true:=by decide
 have k2:St.Kd.int.isA "bool"=false:=by decide
 have h1:(i:Int)<=(n:Int)-1:=by lia
 generalize (n:Int)=L at*
 simp[k1,k2,BE,ES,Ez,GU,Dw,FZ,kdW,h1]
theorem Z3{is:Wp Nat}{n:Nat}{RO:Wp D}(hn:RO.length=n)(hb:∀i∈is,i<n)(hl:is.length<=1000):Bs [] (tNm 1) By (AE BE [eV 1,eI 0,eOp (o2 Le) [eOp (o1 DX) [eV 0],eI 1]]) (AG is) [] [Gc (.lst RO),none] S=Gc (is.map λ_=>D.bl true,S):=
 CL (gs:=[]) (t:=tNm 1) (f:=AE BE [eV 1,eI 0,eOp (o2 Le) [eOp (o1 DX) [eV 0],eI 1]]) (C:=[Gc (.lst RO)]) (m:=1) (e:=λi:Nat=>D.int i) (g:=λ_=>D.bl true) (S:=S) Aa (xs:=is) (acc:=[]) (os:=[none]) rfl (AI (by simpa using hl)) (by
  intro x hx' os ho
  obtain⟨x1,rfl⟩:∃x1,os=[x1]:=by
   match os,ho with
   | [a],_=>exact⟨a,rfl⟩
  have w:=aS (S:=S) (hb x hx')
  refine⟨[Gc (.int x)],rfl,by simp,?_⟩
  simp[hn,w])
theorem O2{is:Wp Nat}(h:ED t ls ds)(hi:load<(Ag ls.length ds).length)(c:Chn (Ag ls.length ds) load is):D5 [As t ls ds,.int load,.tup (AG is)] S=Gc (.bl true,S):=by
 have r1:=Kk (S:=S) h
 have r2:=K9 (S:=S) h hi
 have sr:=Cp (S:=S) h
 have few:=FU h
 have hl:=c.len (Hc h)
 obtain⟨hn,h2,hb,h4,h5⟩:=c.facts
 have w:=Z3 (S:=S) (is:=is) (RO:=(Ag ls.length ds).map nD) (by simp) hb (by lia)
 have al:=Pl (λ_=>true) is
 have aa:(is.map λ_=>true).all id=true:=by rw[xt,y0];intro _ _;rfl
 obtain⟨x,xs,rfl⟩:∃x xs,is=x::xs:=by
  cases is with
  |nil=>exact absurd rfl hn
  |cons x xs=>exact⟨x,xs,rfl⟩
 have h4:rowAt (Ag ls.length ds) x=[]:=h4
 have la:=V3 h2
 have hd0:=Ti (x:=x) (xs:=xs)
 have rx:=Vj (hb x qp) h4
 have lk:=kG (S:=S) (rows:=Ag ls.length ds) (is:=x::xs) hb (by lia)
 have ct:=WK (xs:=AG (x::xs)) (by simp[AG])
 have bl:=Pl (λz:Nat×Nat=>(rowAt (Ag ls.length ds) z.2).contains z.1) ((x::xs).zip (x::xs).tail)
 have ba:(((x::xs).zip (x::xs).tail).map λz=>(rowAt (Ag ls.length ds) z.2).contains z.1).all id=true:=by
  rw[xt];exact h5
 have sq:sqD S (.tup (AG (x::xs)))=Gc (AG (x::xs),[]):=nr rfl
 have sq2:sqD S (.tup (AG (x::xs)).tail)=Gc ((AG (x::xs)).tail,[]):=nr rfl
 have ln:((AG (x::xs)).length:Int)=(xs.length:Int)+1:=by simp[AG]
 have ne:(((xs.length:Int)+1)==0)=false:=by simp;lia
 have wl:DX (.val (.tup (AG (x::xs))))=Gc (.val (.int ((xs.length:Int)+1))):=by
  show Gc (Wv.val (.int ((AG (x::xs)).length:Int)))=_
  rw[ln]
 have tupS:St.Kd.isA .tup "tuple"=true:=rfl
 generalize ((x::xs).zip (x::xs).tail).map (λz=>D.bl ((rowAt (Ag ls.length ds) z.2).contains z.1))=LK at*
 generalize ((x::xs).zip (x::xs).tail).map (λz=>(rowAt (Ag ls.length ds) z.2).contains z.1)=LB at*
 generalize ((x::xs).map λ_=>D.bl true)=WL at*
 generalize ((x::xs).map λ_=>true)=BL at*
 generalize As t ls ds=bk at*
 generalize (Ag ls.length ds).map nD=RO at*
 generalize AG (x::xs)=NX at*
 generalize ((xs.length:Int)+1)=XL at*
 simp[D5,Jj,r1,r2,tupS,kdW,ne,sr,sq,sq2,QH,w,al,aa,-XX,wl,la,hd0,rx,ct,lk,bl,ba]
end
noncomputable def chL(rows:Wp (Wp Nat)):Nat->Nat->Wp (Wp Nat)
 |0,_=>[]
 |f+1,n=>if rowAt rows n=[]then [[n]]else(rowAt rows n).flatMap λs=>(chL rows f s).map (· ++[n])
section
variable{S:Sto}{t:Tr}{ls:Wp Ld}{ds:Wp AO}{rows:Wp (Wp Nat)}
theorem Kq(ha:FC rows):∀{f n:Nat} {js:Wp Nat},n<f->n<rows.length->(js∈chL rows f n↔Chn rows n js)
 |f+1,n,js,hf,hn=>by
  show js∈(if rowAt rows n=[]then [[n]]else _)↔_
  by_cases h:rowAt rows n=[]
  .rw[q9 h,q8]
   constructor
   .rintro rfl;exact .root h hn
   .intro c
    cases c with
    |root=>rfl
    |step c m _=>rw[h]at m;cases m
  .rw[rA h,List.mem_flatMap]
   constructor
   .rintro ⟨s,hs,hj⟩
    obtain⟨is,hi,rfl⟩:=rW.mp hj
    have:=ha _ _ hs
    exact .step ((Kq ha (by lia) (by lia)).mp hi) hs hn
   .intro c
    cases c with
    |root z=>exact absurd z h
    |step c m _=>
     have:=ha _ _ m
     exact⟨_,m,rW.mpr ⟨_,(Kq ha (by lia) (by lia)).mpr c,rfl⟩⟩
theorem Ql{α:Type}{f:α->Wp (Wp Nat)}{g:α->Int}:∀{xs:Wp α},(∀x∈xs,((f x).length:Int)=g x)->((xs.flatMap f).length:Int)=(xs.map g).sum
 | [],_=>rfl
 |x::xs,h=>by
  have a:=h x qp
  have b:=Ql λy hy=>h y (qi _ hy)
  rw[xG,rZ,rD,tK]
  lia
theorem Qc(ha:FC rows):∀{f n:Nat},n<f->((chL rows f n).length:Int)=cN rows n
 |f+1,n,hf=>by
  show((if rowAt rows n=[]then [[n]]else _:Wp (Wp Nat)).length:Int)=_
  by_cases h:rowAt rows n=[]
  .rw[q9 h,dM h];rfl
  .rw[rA h,bU ha h]
   refine Ql λs hs=>?_
   have:=ha _ _ hs
   rw[qy]
   exact Qc ha (by lia)
theorem Zt{r:Wp Nat}:wEq (.val (.lst (AG r))) (.val (.lst []))=Gc (.val (.bl r.isEmpty)):=by
 show(if MI (.lst (AG r)) (.lst [])=true then Gc (Wv.val (.bl (deq (.lst (AG r)) (.lst []))))else none)=_
 rw[q9 D6,GW]
theorem bC{r:Wp Nat}:wNe (.val (.lst (AG r))) (.val (.lst []))=Gc (.val (.bl (!r.isEmpty))):=by
 rw[Mt]
 show(if MI (.lst (AG r)) (.lst [])=true then Gc (Wv.val (.bl (!deq (.lst (AG r)) (.lst []))))else none)=_
 rw[q9 D6]
 cases r<;>rfl
theorem chC{f n s:Nat}(ha:FC rows)(hr:rows.length<=24)(hs:s<f)(hs2:s<rows.length)(hz:((chL rows f s).length:Int)<200):Bs [] (tNm 1) By (eOp (o2 CP) [eV 1,BH [eV 0]]) ((chL rows f s).map chD) [] [Gc (.int n),none] S=Gc (((chL rows f s).map (· ++[n])).map chD,S):=by
 have c:=CL (gs:=[]) (t:=tNm 1) (f:=eOp (o2 CP) [eV 1,BH [eV 0]]) (C:=[Gc (.int n)]) (m:=1) (e:=chD) (g:=λjs=>chD (js++[n])) (S:=S) Aa (xs:=chL rows f s) (acc:=[]) (os:=[none]) rfl (qh (show _<=200 by simp;lia) (AI (by decide))) (by
  intro js hj os ho
  obtain⟨x1,rfl⟩:∃x1,os=[x1]:=by
   match os,ho with
   | [a],_=>exact⟨a,rfl⟩
  have hl:=((Kq ha hs hs2).mp hj).len ha
  have sz:(AG js).length+1<=sizeLine:=qh (show _<=100 by unfold AG;rw[qy];lia) (AI (by decide))
  have en:chD (js++[n])=.tup (AG js++[.int n]):=by unfold chD AG;rw[tU];rfl
  refine⟨[Gc (chD js)],rfl,by simp,?_⟩
  rw[en]
  unfold chD
  generalize AG js=NX at*
  simp[sz])
 rw[r9]
 exact c
theorem OD(ha:FC rows)(hr:rows.length<=24){q:Nat}(hq:S[q]?=Gc (.lst (rows.map nD))):∀{f n:Nat},n<f->n<rows.length->cN rows n<200->Bk f [.ref q,.int n] S=Gc (.lst ((chL rows f n).map chD),S)
 |f+1,n,hf,hn,hc=>by
  have len:=Qc ha hf
  have ra:=Pz (rows:=rows) hn
  have dq:=AW hq
  have en:=Zt (r:=rowAt rows n)
  have es:Bk (f+1)=Ap (Av 4 (FW (Bk f))):=rfl
  rw[es]
  have ec:chL rows (f+1) n=if rowAt rows n=[]then [[n]]else(rowAt rows n).flatMap λs=>(chL rows f s).map (· ++[n]):=rfl
  by_cases h:rowAt rows n=[]
  .rw[ec,q9 h]
   rw[h]at ra en
   generalize rows.map nD=RO at*
   have sz:(1:Nat)<=sizeLine:=AI (by decide)
   simp[AG]at ra en
   simp[FW,dq,ra,en,chD,AG,sz]
  .rw[rA h]at ec
   have le:∀{done rest:Wp Nat},rowAt rows n=done++rest->((done.flatMap λs=>(chL rows f s).map (· ++[n])).length:Int)<=cN rows n:=λ{done rest} e=>by
    rw[ec,e,xp,rZ]at len
    lia
   obtain⟨E',S',ef,done,rest,u3,f1,f2,rfl,rfl⟩:=Ed (gs:=[]) (t:=tNm 3) (b:=BC 2 (eOp (o2 CP) [eV 2,CF [1] 1 (Fd (AE (Bk f) [eV 0,eV 3])) (tNm 1) By (eOp (o2 CP) [eV 1,BH [eV 0]])]))
    (I:=λrs E S'=>∃(done rest:Wp Nat) (u3:qY D),rowAt rows n=done++rest/\rs=AG rest/\E=[Gc (.ref q),Gc (.int n),Gc (.lst ((done.flatMap λs=>(chL rows f s).map (· ++[n])).map chD)),u3]/\S=S')
    (λ_ _ _ _=>Aa) (ds:=AG (rowAt rows n)) (E:=[Gc (.ref q),Gc (.int n),Gc (.lst []),none]) (S:=S)
    ⟨[],rowAt rows n,none,rfl,rfl,rfl,rfl⟩ (by
      rintro dd rs E T ⟨done,rest,u3,i1,i2,rfl,rfl⟩
      cases rest with
      |nil=>cases i2
      |cons s rest=>
       injection i2 with z1 z2
       subst z1 z2
       have hs:s∈rowAt rows n:=by rw[i1];simp
       have hlt:=ha _ _ hs
       have i1':rowAt rows n=(done++[s])++rest:=by rw[i1];simp
       have l2:=le i1'
       have l3:=l2
       rw[xp,xG,List.flatMap_nil,uL,rZ,qy]at l3
       have cs:=Qc ha (rows:=rows) (f:=f) (n:=s) (by lia)
       have ih:=OD ha hr hq (f:=f) (n:=s) (by lia) (by lia) (by lia)
       have cc:=chC (S:=S) (n:=n) (f:=f) (s:=s) ha hr (by lia) (by lia) (by lia)
       have sz:((done.flatMap λs=>(chL rows f s).map (· ++[n])).map chD).length+(((chL rows f s).map (· ++[n])).map chD).length<=sizeLine:=qh (show _<=200 by rw[qy,qy,qy];lia) (AI (by decide))
       have sq:sqD S (.lst ((chL rows f s).map chD))=Gc ((chL rows f s).map chD,[]):=nr rfl
       refine⟨[Gc (.ref q),Gc (.int n),Gc (.lst ((done.flatMap λs=>(chL rows f s).map (· ++[n])).map chD)),Gc (.int s)],[Gc (.ref q),Gc (.int n),Gc (.lst (((done++[s]).flatMap λs=>(chL rows f s).map (· ++[n])).map chD)),Gc (.int s)],S,by simp,?_,done++[s],rest,_,i1',rfl,rfl,rfl⟩
       rw[xp,xG,List.flatMap_nil,uL,tU]
       generalize ((done.flatMap λs=>(chL rows f s).map (· ++[n])).map chD)=A at*
       generalize (((chL rows f s).map (· ++[n])).map chD)=B at*
       generalize (chL rows f s).map chD=C at*
       simp[ih,sq,QH,cc,sz])
   have hd:done=rowAt rows n:=by
    cases rest with
    |nil=>rw[f1,uL]
    |cons=>cases f2
   rw[hd,<-ec]at ef
   have ie:(rowAt rows n).isEmpty=false:=by
    cases z:rowAt rows n with
    |nil=>exact absurd z h
    |cons=>rfl
   have ok:=D6 (is:=rowAt rows n)
   have dn:=GW (is:=rowAt rows n)
   rw[ie]at dn
   have sq:sqD S (.lst (AG (rowAt rows n)))=Gc (AG (rowAt rows n),[]):=nr rfl
   generalize (chL rows (f+1) n).map chD=CC at*
   generalize AG (rowAt rows n)=RR at*
   generalize rows.map nD=RO at*
   simp[FW,dq,ra,ok,dn,sq,ef]
theorem VE{is:Wp Nat}:MI (.tup (AG is)) (.tup (AG is))=true/\deq (.tup (AG is)) (.tup (AG is))=true:=by
 have lay:(D.tup (AG is)).lay=true:=Kc λ_ _=>rfl
 refine⟨Ov lay (qh (lG (n:=1) ?_) (by decide)),NJ lay⟩
 intro d hd
 obtain⟨i,_,rfl⟩:=rW.mp hd
 exact bT
theorem Rt{is:Wp Nat}:MI (.lst (AG is)) (.lst (AG is))=true/\deq (.lst (AG is)) (.lst (AG is))=true:=by
 have lay:(D.lst (AG is)).lay=true:=Kc λ_ _=>rfl
 refine⟨Ov lay (qh (kH (n:=1) ?_) (by decide)),NJ lay⟩
 intro d hd
 obtain⟨i,_,rfl⟩:=rW.mp hd
 exact bT
theorem Wx(ha:FC rows){f n:Nat}{is:Wp Nat}(hf:n<f)(hn:n<rows.length)(h:Lst rows n is):gY (.val (.lst ((chL rows f n).map chD)))=Gc (.val (.tup (AG is))):=by
 have h0:chL rows f n≠[]:=λz=>by
  have:=(Kq ha hf hn).mpr h.c
  rw[z]at this;cases this
 have b:=Lst.best h0 λjs=>Kq ha hf hn
 have e:=b.eq h
 have hp:=uo.mpr h0
 generalize chL rows f n=css at*
 have m:U5 tupI (css.map chD)=Gc (css.map iN):=QE λjs _=>cW js
 have hlt:argBest (JF (css.map iN)) (css.length-1)<css.length:=by have:=Mp (bt:=JF (css.map iN)) (css.length-1);lia
 show(U5 tupI (css.map chD)).bind (λnss=>mn1 nss (css.map chD))=_
 rw[m,Ab]
 unfold mn1
 rw[qy,rA (by lia),qV,ql,qW hlt]
 rw[qV,qW hlt]at e
 have e:css[argBest (JF (css.map iN)) (css.length-1)]=is:=e
 rw[e];rfl
end
section
variable{S:Sto}{o:Stt}{load M q:Nat}{xs:Wp D}
theorem DOk.has{es:Wp (Key×D)}{ow:Wp Rat}(h:DOk M es ow):(PQ es (.inl (load:Int))).isSome=decide (0<ow.getD load 0):=by
 obtain⟨ks,rfl,_,_,h0,_,h1⟩:=h
 rw[QL]
 by_cases z:load∈ks
 .rw[q9 z,sZ (h1 _ z)];rfl
 .rw[rA z,h0 _ z];rfl
theorem ak{x:D}{es:Wp (Key×D)}(h:DAt S x es):OH S x=Gc es:=by
 rcases h with rfl|⟨n,rfl,e⟩
 .rfl
 .unfold OH
  simp[e]
theorem nV(h:OAt S q M xs o)(hl:o.AA.length<=50):Bs [(q,xs)] (tTp [tNm 1,tNm 2]) (Z9 (eV 0) (eV 2)) (eV 1) (JD 0 xs) [] [Gc (.int load),none,none] S=Gc (AG (reN o load),S):=by
 have hx:=h.len
 have c:=CG (gs:=[(q,xs)]) (t:=tTp [tNm 1,tNm 2]) (c:=Z9 (eV 0) (eV 2)) (f:=eV 1) (C:=[Gc (.int load)]) (m:=2) (e:=λi:Nat=>D.tup [.int i,xs.getD i .non]) (g:=λi:Nat=>D.int i) (b:=λi=>decide (0<(AH o.AA i).ow.getD load 0)) (S:=S) (λg hg=>by rw[q8.mp hg];exact AJ h.cell) (xs:=rO o.AA.length) (acc:=[]) (os:=[none,none]) rfl (qh (show _<=50 by simp;lia) (AI (by decide))) (by
  intro i hi os ho
  obtain⟨x1,x2,rfl⟩:∃x1 x2,os=[x1,x2]:=by
   match os,ho with
   | [a,b],_=>exact⟨a,b,rfl⟩
  obtain⟨x,es,e1,e2,da,dk⟩:=h.get (tN.mp hi)
  have gx:xs.getD i .non=x:=by rw[qV,e1];rfl
  refine⟨[Gc (.int i),Gc x],rfl,by rw[gx];simp,?_,by simp⟩
  have eD:∀(fk fd:Ev) (E:En) (T:Sto),Z9 fk fd E T=(fk E T).bind λb=>(fd E b.2).bind λa=>(OH a.2 a.1).bind λes=>(Su b.1).map λk=>(.bl (PQ es k).isSome,a.2):=λ_ _ _ _=>rfl
  have dd:=ak da
  have hs:=dk.has (load:=load)
  have kd:Su (.int (load:Int))=Gc (.inl (load:Int)):=rfl
  rw[<-hs]
  simp[eD,dd,kd])
 rw[Fz,hx]
 exact c
end
theorem GN{ls:Wp Ld}{l i:Nat}{x:Ld}(h:l<ls.length):AH (ls.set l x) i=if i=l then x else AH ls i:=by
 unfold AH
 rw[qV,List.getElem?_set,qV]
 by_cases e:i=l
 .subst e;simp[h]
 .have e':¬l=i:=λz=>e z.symm
  simp[e,e']
theorem QN{ls:Wp Ld}{x:Ld}{i:Nat}(h:i<ls.length):AH (ls++[x]) i=AH ls i:=by
 unfold AH
 rw[qV,qZ h,qV]
theorem P7{ls:Wp Ld}{x:Ld}:AH (ls++[x]) ls.length=x:=by
 unfold AH
 rw[qV,qm]
 rfl
noncomputable def kA(st:Stt)(i:Nat):Nat:=(AH st.AA i).k
noncomputable def nA(st:Stt)(i:Nat):Int:=(AH st.AA i).n
section
variable{t:Tr}{st:Stt}{a b l:Nat}
theorem Mr:(step t st (.DR a b)).AA.length=st.AA.length+1:=by simp[step,AV]
theorem Us{i:Nat}(hab:a≠b)(ha:a<st.AA.length)(hb:b<st.AA.length)(hi:i<st.AA.length):kA (step t st (.DR a b)) i=kA st i/\nA (step t st (.DR a b)) i=if i=b then 0 else if i=a then 0 else nA st i:=by
 unfold kA nA
 have e:AH (step t st (.DR a b)).AA i=AH (less (less st.AA a (AH st.AA a).n) b (AH st.AA b).n) i:=QN (by simpa[AV]using hi)
 rw[e]
 have e2:AH (less st.AA a (AH st.AA a).n) b=AH st.AA b:=by
  unfold less
  rw[GN ha,rA (rh hab)]
 have e3:AH (less (less st.AA a (AH st.AA a).n) b (AH st.AA b).n) i=if i=b then{AH st.AA b with n:=(AH st.AA b).n-(AH st.AA b).n}else if i=a then{AH st.AA a with n:=(AH st.AA a).n-(AH st.AA a).n}else AH st.AA i:=by
  conv=>lhs;unfold less
  rw[GN (by rw[uS];exact hb)]
  have e2':AH (st.AA.set a {AH st.AA a with n:=(AH st.AA a).n-(AH st.AA a).n}) b=AH st.AA b:=e2
  rw[e2',GN ha]
 rw[e3]
 by_cases h1:i=b
 .subst h1;simp
 .by_cases h2:i=a
  .subst h2;simp[h1]
  .simp[h1,h2]
theorem Kb:kA (step t st (.DR a b)) st.AA.length=kA st a/\nA (step t st (.DR a b)) st.AA.length=nA st a+nA st b:=by
 unfold kA nA
 have e:AH (step t st (.DR a b)).AA (less (less st.AA a (AH st.AA a).n) b (AH st.AA b).n).length=_:=P7
 rw[AV,AV]at e
 rw[e]
 exact⟨rfl,rfl⟩
variable{g n:Int}{k:Nat}
theorem MZ:(step t st (.swap l g k n)).AA.length=st.AA.length+1:=by simp[step,AV]
theorem Ur{i:Nat}(hl:l<st.AA.length)(hi:i<st.AA.length):kA (step t st (.swap l g k n)) i=kA st i/\nA (step t st (.swap l g k n)) i=if i=l then nA st l-g else nA st i:=by
 unfold kA nA
 have e:AH (step t st (.swap l g k n)).AA i=AH (less st.AA l g) i:=QN (by simpa[AV]using hi)
 rw[e]
 unfold less
 rw[GN hl]
 by_cases h1:i=l
 .subst h1;simp
 .simp[h1]
theorem NY:kA (step t st (.swap l g k n)) st.AA.length=k/\nA (step t st (.swap l g k n)) st.AA.length=n:=by
 unfold kA nA
 have e:AH (step t st (.swap l g k n)).AA (less st.AA l g).length=_:=P7
 rw[AV]at e
 rw[e]
 exact⟨rfl,rfl⟩
end
noncomputable def tP:Tr:=⟨2,2,1,[1 / 2,1 / 2],0,0⟩
noncomputable def szC(st:Stt)(i:Nat):Cl:=.lst [.int (kA st i),.int (nA st i)]
theorem MU{as:Wp Nat}{a x:Nat}(ma:a∈as)(hx:x∉as):a≠x:=λz=>hx (z▸ma)
structure PAt(S:Sto)(p qd qs:Nat)(as:Wp Nat)(st:Stt)(ds:Wp AO):Prop where
 pen:B9 p S
 dd:S[qd]?=Gc (.lst (ds.map AO.d))
 ss:S[qs]?=Gc (.lst (as.map D.ref))
 len:as.length=st.AA.length
 cel:∀i a,as[i]?=Gc a->S[a]?=Gc (szC st i)
 nd:as.Nodup
 ap:p∉as/\qd∉as/\qs∉as
 ne:p≠qd/\p≠qs/\qd≠qs
section
variable{S S':Sto}{p qd qs:Nat}{as:Wp Nat}{st st':Stt}{ds:Wp AO}
theorem PAt.draw(h:PAt S p qd qs as st ds)(g:Pn p S S'):PAt S' p qd qs as st ds:=
 ⟨g.pen,g.get h.dd (rh h.ne.1),g.get h.ss (rh h.ne.2.1),h.len,λi a e=>g.get (h.cel i a e) (MU (qx e) h.ap.1),h.nd,h.ap,h.ne⟩
theorem PAt.nB(h:PAt S p qd qs as st ds)(d:AO):PAt (S.set qd (.lst (ds.map AO.d++[d.d]))) p qd qs as st (ds++[d]):=by
 obtain⟨pd,pe,ph⟩:=h.pen
 refine⟨⟨pd,by rw[qc (rh h.ne.1)];exact pe,ph⟩,?_,by rw[qc h.ne.2.2];exact h.ss,h.len,λi a e=>?_,h.nd,h.ap,h.ne⟩
 .rw[qo (AL h.dd)];simp
 .rw[qc (rh (MU (qx e) h.ap.2.1))];exact h.cel i a e
theorem PAt.put{i a:Nat}{n:Int}(h:PAt S p qd qs as st ds)(e:as[i]?=Gc a)(hl:st'.AA.length=st.AA.length)(hk:∀j,j<st.AA.length->kA st' j=kA st j/\nA st' j=if j=i then n else nA st j):PAt (S.set a (.lst [.int (kA st i),.int n])) p qd qs as st' ds:=by
 have ma:=qx e
 have hi:=(qe.mp e).1
 obtain⟨pd,pe,ph⟩:=h.pen
 refine⟨⟨pd,by rw[qc (MU ma h.ap.1)];exact pe,ph⟩,by rw[qc (MU ma h.ap.2.1)];exact h.dd,by rw[qc (MU ma h.ap.2.2)];exact h.ss,by rw[hl];exact h.len,λj b eb=>?_,h.nd,h.ap,h.ne⟩
 have hj:=(qe.mp eb).1
 have hkj:=hk j (by rw[<-h.len];exact hj)
 by_cases hji:j=i
 .subst hji
  rw[e]at eb;cases eb
  rw[qo (AL (h.cel j a e))]
  unfold szC
  rw[hkj.1,hkj.2,q9 rfl]
 .have hab:a≠b:=λz=>by
   subst z
   have e1:=(qe.mp e).2
   have e2:=(qe.mp eb).2
   rcases Nat.lt_or_gt_of_ne hji with w|w
   .exact wK.mp h.nd j i hj hi w (by rw[e1,e2])
   .exact wK.mp h.nd i j hi hj w (by rw[e1,e2])
  rw[qc hab,h.cel j b eb]
  unfold szC
  rw[hkj.1,hkj.2,rA hji]
theorem PAt.new{k:Nat}{n:Int}(h:PAt S p qd qs as st ds)(hl:st'.AA.length=st.AA.length+1)(hk:∀j,j<st.AA.length->kA st' j=kA st j/\nA st' j=nA st j)(hn:kA st' st.AA.length=k/\nA st' st.AA.length=n):PAt ((S++[Cl.lst [.int k,.int n]]).set qs (.lst (as.map D.ref++[.ref S.length]))) p qd qs (as++[S.length]) st' ds:=by
 have lp:=h.pen.lt
 have ld:=AL h.dd
 have lsz:=AL h.ss
 have keep:∀{x:Nat} {c:Cl},x≠qs->S[x]?=Gc c->((S++[Cl.lst [.int k,.int n]]).set qs (.lst (as.map D.ref++[.ref S.length])))[x]?=Gc c:=λ{x c} hx e=>by
  rw[qc (rh hx),qZ (AL e)];exact e
 obtain⟨pd,pe,ph⟩:=h.pen
 refine⟨⟨pd,keep h.ne.2.1 pe,ph⟩,keep h.ne.2.2 h.dd,?_,by rw[rZ,hl,h.len];rfl,λj b eb=>?_,?_,?_,h.ne⟩
 .rw[qo (by simp;lia)];simp
 .by_cases hj:j<as.length
  .rw[qZ hj]at eb
   have hkj:=hk j (by rw[<-h.len];exact hj)
   rw[keep (MU (qx eb) h.ap.2.2) (h.cel j b eb)]
   unfold szC
   rw[hkj.1,hkj.2]
  .have ej:j=as.length:=by
    have:=(qe.mp eb).1
    simp at this;lia
   subst ej
   rw[qm]at eb
   cases eb
   rw[qc (by lia),qm]
   unfold szC
   rw[h.len,hn.1,hn.2]
 .rw[vQ]
  refine⟨h.nd,by simp,λx hx y hy z=>?_⟩
  simp at hy
  subst hy
  subst z
  obtain⟨i,hi,ei⟩:=z8.mp hx
  have:=AL (h.cel i _ (by rw[qW hi,ei]))
  lia
 .refine⟨λz=>?_,λz=>?_,λz=>?_⟩
  .rcases rC.mp z with z|z
   .exact h.ap.1 z
   .simp at z;lia
  .rcases rC.mp z with z|z
   .exact h.ap.2.1 z
   .simp at z;lia
  .rcases rC.mp z with z|z
   .exact h.ap.2.2 z
   .simp at z;lia
noncomputable def Cm(st:Stt):Wp Nat:=(rO st.AA.length).filter λi=>decide (0<nA st i)
theorem PAt.get{i:Nat}(h:PAt S p qd qs as st ds)(hi:i<st.AA.length):∃a,as[i]?=Gc a/\atI (as.map D.ref) (i:Int)=Gc (.ref a)/\dr S (.ref a)=.own [.int (kA st i),.int (nA st i)]/\DU S a=Gc [.int (kA st i),.int (nA st i)]:=by
 have hi':i<as.length:=by rw[h.len];exact hi
 refine⟨as[i],qW hi',Bf (by rw[ql,qW hi'];rfl),AW (h.cel i _ (qW hi')),AJ (h.cel i _ (qW hi'))⟩
theorem W6(h:PAt S p qd qs as st ds)(hl:st.AA.length<=50):Bs [(qs,as.map D.ref)] (tTp [tNm 0,tNm 1]) (eOp (o2 wGt) [eOp (o2 wIx) [eV 1,eC (.int 1)],eC (.int 0)]) (eV 0) (JD 0 (as.map D.ref)) [] [none,none] S=Gc (AG (Cm st),S):=by
 have:=CG (gs:=[(qs,as.map D.ref)]) (t:=tTp [tNm 0,tNm 1]) (c:=eOp (o2 wGt) [eOp (o2 wIx) [eV 1,eC (.int 1)],eC (.int 0)]) (f:=eV 0) (C:=[]) (m:=2) (e:=λi:Nat=>D.tup [.int i,(as.map D.ref).getD i .non]) (g:=λi:Nat=>D.int i) (b:=λi=>decide (0<nA st i)) (S:=S) (λg hg=>by rw[q8.mp hg];exact AJ h.ss) (xs:=rO st.AA.length) (acc:=[]) (os:=[none,none]) rfl (qh (show _<=50 by simp;lia) (AI (by decide))) (by
  intro i hi os ho
  obtain⟨x1,x2,rfl⟩:∃x1 x2,os=[x1,x2]:=by
   match os,ho with
   | [a,b],_=>exact⟨a,b,rfl⟩
  obtain⟨a,e1,_,e3,_⟩:=h.get (tN.mp hi)
  have eg:(as.map D.ref).getD i .non=.ref a:=by rw[qV,ql,e1];rfl
  refine⟨[Gc (.int i),Gc (.ref a)],rfl,by show tTp _ (D.tup [.int i,(as.map D.ref).getD i .non]) _ _=_;rw[eg];simp,?_,by simp⟩
  simp[e3])
 rw[Fz,qy,h.len]
 exact this
noncomputable def Cn(st:Stt)(l:Nat):Wp Nat:=(Cm st).filter λi=> !(i==l) && (kA st i==kA st l)
theorem XU{l:Nat}(h:PAt S p qd qs as st ds)(hl:st.AA.length<=50)(hll:l<st.AA.length):Bs [] (tNm 2) (IM (eOp (o2 wNe) [eV 2,eV 1]) (eOp (o2 wEq) [eOp (o2 wIx) [eOp (o2 wIx) [eV 0,eV 2],eC (.int 0)],eOp (o2 wIx) [eOp (o2 wIx) [eV 0,eV 1],eC (.int 0)]])) (eV 2) (AG (Cm st)) [] [Gc (.ref qs),Gc (.int l),none] S=Gc (AG (Cn st l),S):=by
 have hf:(Cm st).length<=50:=qh (sg _ _) (by simpa using hl)
 exact CG (gs:=[]) (t:=tNm 2) (f:=eV 2) (C:=[Gc (.ref qs),Gc (.int l)]) (m:=1) (e:=λi:Nat=>D.int i) (g:=λi:Nat=>D.int i) (b:=λi=> !(i==l) && (kA st i==kA st l)) (S:=S) Aa (xs:=Cm st) (acc:=[]) (os:=[none]) rfl (qh (show _<=50 by simp;lia) (AI (by decide))) (by
  intro i hi os ho
  obtain⟨x1,rfl⟩:∃x1,os=[x1]:=by
   match os,ho with
   | [a],_=>exact⟨a,rfl⟩
  have hi':i<st.AA.length:=tN.mp (uK.mp hi).1
  obtain⟨a,_,e2,e3,_⟩:=h.get hi'
  obtain⟨b,_,e5,e6,_⟩:=h.get hll
  have dq:=AW h.ss
  refine⟨[Gc (.int i)],rfl,by simp,?_,by simp⟩
  have c1:((i:Int)==(l:Int))=(i==l):=by rw[xl,vf,vf];lia
  have c2:((kA st i:Int)==(kA st l:Int))=(kA st i==kA st l):=by rw[xl,vf,vf];lia
  generalize as.map D.ref=AR at*
  cases h1:(i==l)with
  |true=>
   rw[h1]at c1
   simp[c1]
  |false=>
   rw[h1]at c1
   simp[c1,dq,e2,e3,e5,e6,c2])
end
def Wg:Ex:=(AU (BC 8 (eOp (o2 wIx) [eV 7,AE AD [eV 0,eOp (o1 DX) [eV 7]]]))
    (AU (Ao (EL EN (eV 2) [BH [eC (.str "pool"),eV 6,eV 8]]))
    (AU (Ao (EL EN (eV 3) [Cg [eOp (o2 wIx) [eOp (o2 wIx) [eV 3,eV 6],eC (.int 0)],eOp (o2 CP) [eOp (o2 wIx) [eOp (o2 wIx) [eV 3,eV 6],eC (.int 1)],eOp (o2 wIx) [eOp (o2 wIx) [eV 3,eV 8],eC (.int 1)]]]]))
    (AU (Ja (eC (.int 0)) (eOp (o2 wIx) [eV 3,eV 6]) (eC (.int 1)))
    (Ja (eC (.int 0)) (eOp (o2 wIx) [eV 3,eV 8]) (eC (.int 1)))))))
def U4:Ex:=(AU (BC 9 (eOp (o2 Le) [eC (.int 1),eOp (o2 wIx) [eOp (o2 wIx) [eV 3,eV 6],eC (.int 0)]]))
    (AU (BC 10 (eOp (o2 CP) [eC (.int 1),AE AD [eV 0,eOp (o2 wIx) [eOp (o2 wIx) [eV 3,eV 6],eC (.int 1)]]]))
    (AU (Ao (EL EN (eV 2) [BH [eC (.str "swap"),eV 6,eV 10,eV 9,eOp (o2 CP) [eC (.int 2),AE AD [eV 0,eC (.int 5)]]]]))
    (AU (Ja (eOp (o2 Le) [eOp (o2 wIx) [eOp (o2 wIx) [eV 3,eV 6],eC (.int 1)],eV 10]) (eOp (o2 wIx) [eV 3,eV 6]) (eC (.int 1)))
    (Ao (EL EN (eV 3) [Cg [eV 9,eOp (o2 wIx) [eOp (o2 wIx) [eV 2,eOp (o1 PN) [eC (.int 1)]],eC (.int 4)]]]))))))
def bP:Ex:=(AU (BC 5 (CF [] 2 (Qd (eV 3)) (tTp [tNm 0,tNm 1]) (eOp (o2 wGt) [eOp (o2 wIx) [eV 1,eC (.int 1)],eC (.int 0)]) (eV 0)))
    (AU (BC 6 (eOp (o2 wIx) [eV 5,AE AD [eV 0,eOp (o1 DX) [eV 5]]]))
    (AU (BC 7 (CF [3,6] 1 (Fd (eV 5)) (tNm 2) (IM (eOp (o2 wNe) [eV 2,eV 1]) (eOp (o2 wEq) [eOp (o2 wIx) [eOp (o2 wIx) [eV 0,eV 2],eC (.int 0)],eOp (o2 wIx) [eOp (o2 wIx) [eV 0,eV 1],eC (.int 0)]])) (eV 2)))
    (xIf (IM (eOp (o2 wNe) [eV 7,FD []]) (eOp (o2 wEq) [AE AD [eV 0,eC (.int 2)],eC (.int 0)])) Wg U4))))
noncomputable def b1P:AO:=.DV 0 0 9
noncomputable def b2P:AO:=.DV 1 0 9
noncomputable def YE:Stt:=runs tP (st0 tP []) [b1P,b2P]
structure QB(k:Nat)(st:Stt)(rest:Wp AO):Prop where
 run:st=runs tP YE rest
 good:II tP YE rest
 inv:CQ tP k st
 len:rest.length=k
 full:∃i,i<st.AA.length/\0<nA st i
 most:∀i,i<st.AA.length->nA st i<=9*2^k
theorem trP:Jg tP:=by
 unfold Jg tP
 simp
section
variable{S:Sto}{p qd qs k l o:Nat}{as:Wp Nat}{st:Stt}{rest:Wp AO}{a1 a4 a5 a7 o8 o9 o10:qY D}
theorem jH{k:Nat}(h:k<=16):(9:Int)*2^k<=589824:=by
 have:(2:Int)^k<=2^16:=F1 h
 have e:(2:Int)^16=65536:=by decide
 lia
theorem QB.DR(h:QB k st rest)(hk:k<16)(hc:Can tP st (.DR l o)):QB (k+1) (step tP st (.DR l o)) (rest++[.DR l o]):=by
 obtain⟨h1,h2,h3,h4,h5,h6⟩:=id hc
 refine⟨by rw[h.run,Ir],Hg h.good (by rw[<-h.run];exact hc),KI trP h.inv (by lia) hc,by simp[h.len],⟨st.AA.length,by rw[Mr];lia,?_⟩,λi hi=>?_⟩
 .rw[Kb.2]
  have h4:0<nA st l:=h4
  have h5:0<nA st o:=h5
  lia
 .rw[Mr]at hi
  have e2:(9:Int)*2^(k+1)=9*2^k+9*2^k:=by rw[xF];lia
  by_cases hn:i<st.AA.length
  .rw[(Us h1 h2 h3 hn).2]
   have:=h.most i hn
   have:=h.most l h2
   have h4:0<nA st l:=h4
   split
   .lia
   .split
    .lia
    .lia
  .have:i=st.AA.length:=by lia
   subst this
   rw[Kb.2]
   have:=h.most l h2
   have:=h.most o h3
   lia
theorem QB.swap{g n:Int}{kd:Nat}(h:QB k st rest)(hk:k<16)(hc:Can tP st (.swap l g kd n))(hn:n<=6):QB (k+1) (step tP st (.swap l g kd n)) (rest++[.swap l g kd n]):=by
 obtain⟨h1,h2,h3,h4,h5,h6,h7⟩:=id hc
 have h3:g<=nA st l:=h3
 refine⟨by rw[h.run,Ir],Hg h.good (by rw[<-h.run];exact hc),KI trP h.inv (by lia) hc,by simp[h.len],⟨st.AA.length,by rw[MZ];lia,by rw[NY.2];lia⟩,λi hi=>?_⟩
 rw[MZ]at hi
 have e2:(9:Int)*2^(k+1)=9*2^k+9*2^k:=by rw[xF];lia
 have p0:(1:Int)<=2^k:=by
  have:(2:Int)^0<=2^k:=F1 (sf _)
  simpa using this
 by_cases hi':i<st.AA.length
 .rw[(Ur h1 hi').2]
  have:=h.most i hi'
  have:=h.most l h1
  split<;>lia
 .have:i=st.AA.length:=by lia
  subst this
  rw[NY.2]
  lia
theorem Rc(h:PAt S p qd qs as st (b1P::b2P::rest))(hi:QB k st rest)(hk:k<16)(hl:l<st.AA.length)(hp:0<nA st l):∃d as' u9 u10 S',U4 [Gc (.ref p),a1,Gc (.ref qd),Gc (.ref qs),a4,a5,Gc (.int l),a7,o8,o9,o10] S=Gc (.nx,[Gc (.ref p),a1,Gc (.ref qd),Gc (.ref qs),a4,a5,Gc (.int l),a7,o8,u9,u10],S')/\PAt S' p qd qs as' (step tP st d) (b1P::b2P::(rest++[d]))/\QB (k+1) (step tP st d) (rest++[d]):=by
 obtain⟨a,x1,x2,x3,x4⟩:=h.get hl
 have hm:=hi.most l hl
 have hpw:=jH (k:=k) (by lia)
 have kl:kA st l<2:=hi.inv.kind _ (AQ hl)
 obtain⟨r,S1,e1,r0,r1,p1⟩:=Ah h.pen (n:=nA st l) hp (by lia)
 have h1:=h.draw p1
 obtain⟨r5,S2,e2,r50,r51,p2⟩:=Ah h1.pen (n:=5) (by decide) (by decide)
 have h2:=h1.draw p2
 have ek:(1:Int)-(kA st l:Int)=((1-kA st l:Nat):Int):=by lia
 have can:Can tP st (.swap l (1+r) (1-kA st l) (2+r5)):=⟨hl,by lia,show 1+r<=nA st l by lia,show 1-kA st l<2 by lia,show 1-kA st l≠kA st l by lia,by lia,Int.lt_of_le_of_lt (show 2+r5<=6 by lia) (by decide)⟩
 have hi':=hi.swap hk can (by lia)
 have h3:=h2.nB (.swap l (1+r) (1-kA st l) (2+r5))
 have h4:=h3.put (st':=⟨less st.AA l (1+r),st.hold,st.nums⟩) (i:=l) (a:=a) (n:=nA st l-(1+r)) x1 (by simp[AV]) (λj hj=>by
  unfold kA nA
  show(AH (less st.AA l (1+r)) j).k=_/\(AH (less st.AA l (1+r)) j).n=_
  unfold less
  rw[GN hl]
  by_cases z:j=l
  .subst z;simp
  .simp[z])
 have h5:=h4.new (st':=step tP st (.swap l (1+r) (1-kA st l) (2+r5))) (k:=1-kA st l) (n:=2+r5) (by rw[MZ];simp[AV]) (λj hj=>by
  have hj':j<st.AA.length:=by simpa[AV]using hj
  have w:=Ur (t:=tP) (g:=1+r) (k:=1-kA st l) (n:=2+r5) hl hj'
  rw[w.1,w.2]
  unfold kA nA
  show _=(AH (less st.AA l (1+r)) j).k/\_=(AH (less st.AA l (1+r)) j).n
  unfold less
  rw[GN hl]
  by_cases z:j=l
  .subst z;simp
  .simp[z]) (by
  show kA _ (less st.AA l (1+r)).length=_/\nA _ (less st.AA l (1+r)).length=_
  rw[AV]
  exact NY)
 obtain⟨a',y1,y2,y3,y4⟩:=h3.get hl
 have ea:a'=a:=by rw[x1]at y1;cases y1;rfl
 subst ea
 obtain⟨a'',w1,w2,w3,w4⟩:=h1.get hl
 have ea:a''=a':=by rw[x1]at w1;cases w1;rfl
 subst ea
 refine⟨_,_,Gc (.int ((1-kA st l:Nat):Int)),Gc (.int (1+r)),_,?_,h5,hi'⟩
 have hz:((b1P::b2P::rest).map AO.d).length<sizeLine:=qf (show _<50 by simp[hi.len];lia) (AI (by decide))
 have hz2:(as.map D.ref).length<sizeLine:=qf (show _<50 by
  have:=hi.inv.len
  rw[qy,h.len];lia) (AI (by decide))
 have sz:(2:Nat)<=sizeLine:=AI (by decide)
 have dsw:(AO.swap l (1+r) (1-kA st l) (2+r5)).d=.tup [.str "swap",.int l,.int (1+r),.int ((1-kA st l:Nat):Int),.int (2+r5)]:=rfl
 have lst:atI ((b1P::b2P::rest++[AO.swap l (1+r) (1-kA st l) (2+r5)]).map AO.d) (-1)=Gc (AO.swap l (1+r) (1-kA st l) (2+r5)).d:=Vi (k:=rest.length+2) (by simp) (by
  rw[ql]
  have:(b1P::b2P::rest++[AO.swap l (1+r) (1-kA st l) (2+r5)])[rest.length+2]?=Gc (AO.swap l (1+r) (1-kA st l) (2+r5)):=by simp
  rw[this];rfl)
 obtain⟨E,hE⟩:∃E:En,E=[Gc (.ref p),a1,Gc (.ref qd),Gc (.ref qs),a4,a5,Gc (.int l),a7,o8,Gc (.int ((1-kA st l:Nat):Int)),Gc (.int (1+r))]:=⟨_,rfl⟩
 have s1:BC 9 (eOp (o2 Le) [eC (.int 1),eOp (o2 wIx) [eOp (o2 wIx) [eV 3,eV 6],eC (.int 0)]]) [Gc (.ref p),a1,Gc (.ref qd),Gc (.ref qs),a4,a5,Gc (.int l),a7,o8,o9,o10] S=Gc (.nx,[Gc (.ref p),a1,Gc (.ref qd),Gc (.ref qs),a4,a5,Gc (.int l),a7,o8,Gc (.int ((1-kA st l:Nat):Int)),o10],S):=by
  have dq:=AW h.ss
  rw[<-ek]
  generalize as.map D.ref=AR at*
  simp[dq,x2,x3]
 have s2:BC 10 (eOp (o2 CP) [eC (.int 1),AE AD [eV 0,eOp (o2 wIx) [eOp (o2 wIx) [eV 3,eV 6],eC (.int 1)]]]) [Gc (.ref p),a1,Gc (.ref qd),Gc (.ref qs),a4,a5,Gc (.int l),a7,o8,Gc (.int ((1-kA st l:Nat):Int)),o10] S=Gc (.nx,E,S1):=by
  rw[hE]
  have dq:=AW h.ss
  generalize as.map D.ref=AR at*
  generalize ((1-kA st l:Nat):Int)=KK at*
  generalize nA st l=NL at*
  simp[dq,x2,x3,e1]
 have s3:Ao (EL EN (eV 2) [BH [eC (.str "swap"),eV 6,eV 10,eV 9,eOp (o2 CP) [eC (.int 2),AE AD [eV 0,eC (.int 5)]]]]) E S1=Gc (.nx,E,S2.set qd (.lst ((b1P::b2P::rest).map AO.d++[(AO.swap l (1+r) (1-kA st l) (2+r5)).d]))):=by
  rw[hE]
  have c0:=AJ h1.dd
  have c2:=AJ h2.dd
  rw[dsw]
  generalize (b1P::b2P::rest).map AO.d=DD at*
  generalize ((1-kA st l:Nat):Int)=KK at*
  simp[c0,e2,c2,hz]
 generalize hT3:S2.set qd (.lst ((b1P::b2P::rest).map AO.d++[(AO.swap l (1+r) (1-kA st l) (2+r5)).d]))=T3 at*
 have s4:Ja (eOp (o2 Le) [eOp (o2 wIx) [eOp (o2 wIx) [eV 3,eV 6],eC (.int 1)],eV 10]) (eOp (o2 wIx) [eV 3,eV 6]) (eC (.int 1)) E T3=Gc (.nx,E,T3.set a'' (.lst [.int (kA st l),.int (nA st l-(1+r))])):=by
  rw[hE]
  have dq:=AW h3.ss
  generalize as.map D.ref=AR at*
  generalize ((1-kA st l:Nat):Int)=KK at*
  generalize nA st l=NL at*
  simp[dq,y2,y3,y4]
 generalize hT4:T3.set a'' (.lst [.int (kA st l),.int (nA st l-(1+r))])=T4 at*
 have s5:Ao (EL EN (eV 3) [Cg [eV 9,eOp (o2 wIx) [eOp (o2 wIx) [eV 2,eOp (o1 PN) [eC (.int 1)]],eC (.int 4)]]]) E T4=Gc (.nx,E,(T4++[Cl.lst [.int ((1-kA st l:Nat):Int),.int (2+r5)]]).set qs (.lst (as.map D.ref++[.ref T4.length]))):=by
  rw[hE]
  have d4:=AW h4.dd
  have c4:=AJ h4.ss
  have c5:DU (T4++[Cl.lst [.int ((1-kA st l:Nat):Int),.int (2+r5)]]) qs=Gc (as.map D.ref):=AJ (by rw[qZ (AL h4.ss)];exact h4.ss)
  have n1:PN (.val (.int 1))=Gc (.val (.int (-1))):=rfl
  rw[dsw]at lst
  change dr T4 (.ref qd)=.own ((b1P::b2P::rest++[AO.swap l (1+r) (1-kA st l) (2+r5)]).map AO.d)at d4
  generalize (b1P::b2P::rest++[AO.swap l (1+r) (1-kA st l) (2+r5)]).map AO.d=DD at*
  generalize as.map D.ref=AR at*
  generalize ((1-kA st l:Nat):Int)=KK at*
  simp[c4,d4,n1,lst,sz,c5,hz2]
 unfold U4
 rw[A6,s1,Ab,BP,A6,s2,Ab,BP,A6,s3,Ab,BP,A6,s4,Ab,BP,s5,hE]
end
section
variable{S:Sto}{p qd qs k l:Nat}{as:Wp Nat}{st:Stt}{rest:Wp AO}{a1 a4 a5 a7 o8 o9 o10:qY D}
theorem TJ{is:Wp Nat}{k:Nat}(h:k<is.length):atI (AG is) (k:Int)=Gc (.int (is[k]:Nat)):=Bf (by unfold AG;rw[ql,qW h];rfl)
theorem WV(h:PAt S p qd qs as st (b1P::b2P::rest))(hi:QB k st rest)(hk:k<16)(hl:l<st.AA.length)(hp:0<nA st l)(hs:Cn st l≠[]):∃d as' u8 S',Wg [Gc (.ref p),a1,Gc (.ref qd),Gc (.ref qs),a4,a5,Gc (.int l),Gc (.lst (AG (Cn st l))),o8,o9,o10] S=Gc (.nx,[Gc (.ref p),a1,Gc (.ref qd),Gc (.ref qs),a4,a5,Gc (.int l),Gc (.lst (AG (Cn st l))),u8,o9,o10],S')/\PAt S' p qd qs as' (step tP st d) (b1P::b2P::(rest++[d]))/\QB (k+1) (step tP st d) (rest++[d]):=by
 have hlen:=hi.inv.len
 have sl:(Cn st l).length<=50:=qh (sg _ _) (qh (sg _ _) (by simp;lia))
 have sp:0<(Cn st l).length:=uo.mpr hs
 obtain⟨r,S1,e1,r0,r1,p1⟩:=Ah h.pen (n:=((Cn st l).length:Int)) (by lia) (by lia)
 obtain⟨r,rfl⟩:=FY r0
 have hr:r<(Cn st l).length:=by lia
 have ar:=TJ hr
 have hm:(Cn st l)[r]∈Cn st l:=uE hr
 generalize (Cn st l)[r]=o at*
 have hm1:=uK.mp hm
 have hm2:=uK.mp hm1.1
 have ho:o<st.AA.length:=tN.mp hm2.1
 have hpo:0<nA st o:=by simpa using hm2.2
 have hne:l≠o:=by
  have:=hm1.2
  rw[qt]at this
  intro z
  subst z
  simp at this
 have hkk:kA st l=kA st o:=by
  have:=hm1.2
  rw[qt]at this
  have:=this.2
  simp at this
  exact this.symm
 have can:Can tP st (.DR l o):=⟨hne,hl,ho,hp,hpo,hkk⟩
 have hi':=hi.DR hk can
 have h1:=h.draw p1
 have h2:=h1.nB (.DR l o)
 obtain⟨a,x1,x2,x3,x4⟩:=h2.get hl
 obtain⟨b,y1,y2,y3,y4⟩:=h2.get ho
 have k3:∀j,j<st.AA.length->kA ⟨st.AA++[⟨kA st l,nA st l+nA st o,[]⟩],st.hold,st.nums⟩ j=kA st j/\nA ⟨st.AA++[⟨kA st l,nA st l+nA st o,[]⟩],st.hold,st.nums⟩ j=nA st j:=λj hj=>by
  show(AH (st.AA++[_]) j).k=_/\(AH (st.AA++[_]) j).n=_
  rw[QN hj]
  exact⟨rfl,rfl⟩
 have k3n:kA ⟨st.AA++[⟨kA st l,nA st l+nA st o,[]⟩],st.hold,st.nums⟩ st.AA.length=kA st l/\nA ⟨st.AA++[⟨kA st l,nA st l+nA st o,[]⟩],st.hold,st.nums⟩ st.AA.length=nA st l+nA st o:=by
  show(AH (st.AA++[_]) st.AA.length).k=_/\(AH (st.AA++[_]) st.AA.length).n=_
  rw[P7]
  exact⟨rfl,rfl⟩
 have h3:=h2.new (st':=⟨st.AA++[⟨kA st l,nA st l+nA st o,[]⟩],st.hold,st.nums⟩) (k:=kA st l) (n:=nA st l+nA st o) (by simp) k3 k3n
 have la:l<as.length:=by rw[h.len];exact hl
 have lo:o<as.length:=by rw[h.len];exact ho
 generalize hS2:S1.set qd (.lst ((b1P::b2P::rest).map AO.d++[(AO.DR l o).d]))=S2 at*
 have x1':(as++[S2.length])[l]?=Gc a:=by rw[qZ la];exact x1
 have y1':(as++[S2.length])[o]?=Gc b:=by rw[qZ lo];exact y1
 generalize hst3:(⟨st.AA++[⟨kA st l,nA st l+nA st o,[]⟩],st.hold,st.nums⟩:Stt)=st3 at*
 have l3:st3.AA.length=st.AA.length+1:=by rw[<-hst3];simp
 have kl4:∀j,j<st3.AA.length->AH (st3.AA.set l ⟨kA st l,0,[]⟩) j=if j=l then⟨kA st l,0,[]⟩else AH st3.AA j:=λj hj=>GN (by lia)
 have k4:∀j,j<st3.AA.length->kA ⟨st3.AA.set l ⟨kA st l,0,[]⟩,st.hold,st.nums⟩ j=kA st3 j/\nA ⟨st3.AA.set l ⟨kA st l,0,[]⟩,st.hold,st.nums⟩ j=if j=l then 0 else nA st3 j:=λj hj=>by
  show(AH (st3.AA.set l ⟨kA st l,0,[]⟩) j).k=(AH st3.AA j).k/\(AH (st3.AA.set l ⟨kA st l,0,[]⟩) j).n=_
  rw[kl4 j hj]
  by_cases z:j=l
  .subst z
   rw[q9 rfl,q9 rfl]
   exact⟨((k3 j hl).1).symm,rfl⟩
  .rw[rA z,rA z]
   exact⟨rfl,rfl⟩
 have h4:=h3.put (st':=⟨st3.AA.set l ⟨kA st l,0,[]⟩,st.hold,st.nums⟩) (i:=l) (a:=a) (n:=0) x1' (by simp) k4
 have l4:(⟨st3.AA.set l ⟨kA st l,0,[]⟩,st.hold,st.nums⟩:Stt).AA.length=st.AA.length+1:=by simp[l3]
 generalize hst4:(⟨st3.AA.set l ⟨kA st l,0,[]⟩,st.hold,st.nums⟩:Stt)=st4 at*
 have h5:=h4.put (st':=step tP st (.DR l o)) (i:=o) (a:=b) (n:=0) y1' (by rw[Mr];lia) (λj hj=>by
  rw[l4]at hj
  by_cases hj':j<st.AA.length
  .have w:=Us (t:=tP) hne hl ho hj'
   rw[w.1,w.2,(k4 j (by lia)).1,(k4 j (by lia)).2,(k3 j hj').1,(k3 j hj').2]
   exact⟨rfl,rfl⟩
  .have:j=st.AA.length:=by lia
   subst this
   rw[Kb.1,Kb.2,(k4 _ (by lia)).1,(k4 _ (by lia)).2,k3n.1,k3n.2,rA (by lia),rA (by lia)]
   exact⟨rfl,rfl⟩)
 have ko:kA st3 l=kA st l:=(k3 l hl).1
 have ko4:kA st4 o=kA st o:=by rw[(k4 o (by lia)).1,(k3 o ho).1]
 rw[ko]at h4 h5
 rw[ko4]at h5
 refine⟨_,_,Gc (.int o),_,?_,h5,hi'⟩
 have hz:((b1P::b2P::rest).map AO.d).length<sizeLine:=qf (show _<50 by simp[hi.len];lia) (AI (by decide))
 have hz2:(as.map D.ref).length<sizeLine:=qf (show _<50 by rw[qy,h.len];lia) (AI (by decide))
 have sz:(2:Nat)<=sizeLine:=AI (by decide)
 have dpo:(AO.DR l o).d=.tup [.str "pool",.int l,.int o]:=rfl
 obtain⟨E,hE⟩:∃E:En,E=[Gc (.ref p),a1,Gc (.ref qd),Gc (.ref qs),a4,a5,Gc (.int l),Gc (.lst (AG (Cn st l))),Gc (.int o),o9,o10]:=⟨_,rfl⟩
 have s1:BC 8 (eOp (o2 wIx) [eV 7,AE AD [eV 0,eOp (o1 DX) [eV 7]]]) [Gc (.ref p),a1,Gc (.ref qd),Gc (.ref qs),a4,a5,Gc (.int l),Gc (.lst (AG (Cn st l))),o8,o9,o10] S=Gc (.nx,E,S1):=by
  rw[hE]
  have wl:DX (.val (.lst (AG (Cn st l))))=Gc (.val (.int (Cn st l).length)):=by
   show Gc (Wv.val (.int ((AG (Cn st l)).length:Int)))=_
   simp[AG]
  generalize AG (Cn st l)=NS at*
  generalize ((Cn st l).length:Int)=NL at*
  simp[-ND,wl,e1,ar]
 have s2:Ao (EL EN (eV 2) [BH [eC (.str "pool"),eV 6,eV 8]]) E S1=Gc (.nx,E,S2):=by
  rw[hE]
  have c0:=AJ h1.dd
  rw[<-hS2,dpo]
  generalize (b1P::b2P::rest).map AO.d=DD at*
  simp[c0,hz]
 have s3:Ao (EL EN (eV 3) [Cg [eOp (o2 wIx) [eOp (o2 wIx) [eV 3,eV 6],eC (.int 0)],eOp (o2 CP) [eOp (o2 wIx) [eOp (o2 wIx) [eV 3,eV 6],eC (.int 1)],eOp (o2 wIx) [eOp (o2 wIx) [eV 3,eV 8],eC (.int 1)]]]]) E S2=Gc (.nx,E,(S2++[Cl.lst [.int (kA st l),.int (nA st l+nA st o)]]).set qs (.lst (as.map D.ref++[.ref S2.length]))):=by
  rw[hE]
  have dq:=AW h2.ss
  have c4:=AJ h2.ss
  have c5:DU (S2++[Cl.lst [.int (kA st l),.int (nA st l+nA st o)]]) qs=Gc (as.map D.ref):=AJ (by rw[qZ (AL h2.ss)];exact h2.ss)
  generalize as.map D.ref=AR at*
  simp[c4,dq,x2,x3,y2,y3,sz,c5,hz2]
 obtain⟨a',xx1,xx2,_,xx4⟩:=h3.get (i:=l) (by lia)
 have ea:a'=a:=by rw[x1']at xx1;cases xx1;rfl
 subst ea
 rw[(k3 l hl).1,(k3 l hl).2]at xx4
 generalize hS3:(S2++[Cl.lst [.int (kA st l),.int (nA st l+nA st o)]]).set qs (.lst (as.map D.ref++[.ref S2.length]))=S3 at*
 have s4:Ja (eC (.int 0)) (eOp (o2 wIx) [eV 3,eV 6]) (eC (.int 1)) E S3=Gc (.nx,E,S3.set a' (.lst [.int (kA st l),.int 0])):=by
  rw[hE]
  have dq:=AW h3.ss
  generalize (as++[S2.length]).map D.ref=AR at*
  simp[dq,xx2,xx4]
 obtain⟨b',yy1,yy2,_,yy4⟩:=h4.get (i:=o) (by lia)
 have eb:b'=b:=by rw[y1']at yy1;cases yy1;rfl
 subst eb
 rw[(k4 o (by lia)).1,(k4 o (by lia)).2,rA (rh hne),(k3 o ho).1,(k3 o ho).2]at yy4
 generalize hS4:S3.set a' (.lst [.int (kA st l),.int 0])=S4 at*
 have s5:Ja (eC (.int 0)) (eOp (o2 wIx) [eV 3,eV 8]) (eC (.int 1)) E S4=Gc (.nx,E,S4.set b' (.lst [.int (kA st o),.int 0])):=by
  rw[hE]
  have dq:=AW h4.ss
  generalize (as++[S2.length]).map D.ref=AR at*
  simp[dq,yy2,yy4]
 unfold Wg
 rw[A6,s1,Ab,BP,A6,s2,Ab,BP,A6,s3,Ab,BP,A6,s4,Ab,BP,s5,hE]
theorem aZ{b5 b6 b7:qY D}(h:PAt S p qd qs as st (b1P::b2P::rest))(hi:QB k st rest)(hk:k<16):∃d as' u5 u6 u7 u8 u9 u10 S',bP [Gc (.ref p),a1,Gc (.ref qd),Gc (.ref qs),a4,b5,b6,b7,o8,o9,o10] S=Gc (.nx,[Gc (.ref p),a1,Gc (.ref qd),Gc (.ref qs),a4,u5,u6,u7,u8,u9,u10],S')/\PAt S' p qd qs as' (step tP st d) (b1P::b2P::(rest++[d]))/\QB (k+1) (step tP st d) (rest++[d]):=by
 have hlen:=hi.inv.len
 have f1:=W6 h (by lia)
 have fl:(Cm st).length<=50:=qh (sg _ _) (by simp;lia)
 have fp:0<(Cm st).length:=by
  obtain⟨i,h1,h2⟩:=hi.full
  exact List.length_pos_of_mem (uK.mpr ⟨tN.mpr h1,by simpa using h2⟩)
 obtain⟨r,S1,e1,r0,r1,p1⟩:=Ah h.pen (n:=((Cm st).length:Int)) (by lia) (by lia)
 obtain⟨r,rfl⟩:=FY r0
 have hr:r<(Cm st).length:=by lia
 have ar:=TJ hr
 have hm:(Cm st)[r]∈Cm st:=uE hr
 generalize (Cm st)[r]=l at*
 have hm2:=uK.mp hm
 have hl:l<st.AA.length:=tN.mp hm2.1
 have hp:0<nA st l:=by simpa using hm2.2
 have h1:=h.draw p1
 have f2:=XU h1 (by lia) hl
 have s1:BC 5 (CF [] 2 (Qd (eV 3)) (tTp [tNm 0,tNm 1]) (eOp (o2 wGt) [eOp (o2 wIx) [eV 1,eC (.int 1)],eC (.int 0)]) (eV 0)) [Gc (.ref p),a1,Gc (.ref qd),Gc (.ref qs),a4,b5,b6,b7,o8,o9,o10] S=Gc (.nx,[Gc (.ref p),a1,Gc (.ref qd),Gc (.ref qs),a4,Gc (.lst (AG (Cm st))),b6,b7,o8,o9,o10],S):=by
  have sq:=EE h.ss
  generalize as.map D.ref=AR at*
  simp[sq,QH,f1]
 have s2:BC 6 (eOp (o2 wIx) [eV 5,AE AD [eV 0,eOp (o1 DX) [eV 5]]]) [Gc (.ref p),a1,Gc (.ref qd),Gc (.ref qs),a4,Gc (.lst (AG (Cm st))),b6,b7,o8,o9,o10] S=Gc (.nx,[Gc (.ref p),a1,Gc (.ref qd),Gc (.ref qs),a4,Gc (.lst (AG (Cm st))),Gc (.int l),b7,o8,o9,o10],S1):=by
  have wl:DX (.val (.lst (AG (Cm st))))=Gc (.val (.int (Cm st).length)):=by
   show Gc (Wv.val (.int ((AG (Cm st)).length:Int)))=_
   simp[AG]
  generalize AG (Cm st)=NS at*
  generalize ((Cm st).length:Int)=NL at*
  simp[-ND,wl,e1,ar]
 have s3:BC 7 (CF [3,6] 1 (Fd (eV 5)) (tNm 2) (IM (eOp (o2 wNe) [eV 2,eV 1]) (eOp (o2 wEq) [eOp (o2 wIx) [eOp (o2 wIx) [eV 0,eV 2],eC (.int 0)],eOp (o2 wIx) [eOp (o2 wIx) [eV 0,eV 1],eC (.int 0)]])) (eV 2)) [Gc (.ref p),a1,Gc (.ref qd),Gc (.ref qs),a4,Gc (.lst (AG (Cm st))),Gc (.int l),b7,o8,o9,o10] S1=Gc (.nx,[Gc (.ref p),a1,Gc (.ref qd),Gc (.ref qs),a4,Gc (.lst (AG (Cm st))),Gc (.int l),Gc (.lst (AG (Cn st l))),o8,o9,o10],S1):=by
  have sq:sqD S1 (.lst (AG (Cm st)))=Gc (AG (Cm st),[]):=nr rfl
  generalize AG (Cm st)=NF at*
  generalize AG (Cn st l)=NS at*
  simp[sq,QH,f2]
 have n1:=bC (r:=Cn st l)
 by_cases hs:Cn st l=[]
 .obtain⟨d,as',u9,u10,S',e,g1,g2⟩:=Rc (a1:=a1) (a4:=a4) (a5:=Gc (.lst (AG (Cm st)))) (a7:=Gc (.lst (AG (Cn st l)))) (o8:=o8) (o9:=o9) (o10:=o10) h1 hi hk hl hp
  refine⟨d,as',Gc (.lst (AG (Cm st))),Gc (.int l),Gc (.lst (AG (Cn st l))),o8,u9,u10,S',?_,g1,g2⟩
  have ne:(!(Cn st l).isEmpty)=false:=by rw[hs];rfl
  rw[ne]at n1
  unfold bP
  rw[A6,s1,Ab,BP,A6,s2,Ab,BP,A6,s3,Ab,BP,<-e]
  generalize AG (Cm st)=NF at*
  generalize AG (Cn st l)=NS at*
  generalize U4=SX at*
  simp[-Mt,n1]
 .have ne:(!(Cn st l).isEmpty)=true:=by
   cases hz:Cn st l with
   |nil=>exact absurd hz hs
   |cons=>rfl
  rw[ne]at n1
  obtain⟨r2,S2,e2,r20,r21,p2⟩:=Ah h1.pen (n:=2) (by decide) (by decide)
  have h2:=h1.draw p2
  by_cases hz:r2=0
  .subst hz
   obtain⟨d,as',u8,S',e,g1,g2⟩:=WV (a1:=a1) (a4:=a4) (a5:=Gc (.lst (AG (Cm st)))) (o8:=o8) (o9:=o9) (o10:=o10) h2 hi hk hl hp hs
   refine⟨d,as',Gc (.lst (AG (Cm st))),Gc (.int l),Gc (.lst (AG (Cn st l))),u8,o9,o10,S',?_,g1,g2⟩
   unfold bP
   rw[A6,s1,Ab,BP,A6,s2,Ab,BP,A6,s3,Ab,BP,<-e]
   generalize AG (Cm st)=NF at*
   generalize AG (Cn st l)=NS at*
   generalize Wg=PX at*
   simp[-Mt,n1,e2]
  .obtain⟨d,as',u9,u10,S',e,g1,g2⟩:=Rc (a1:=a1) (a4:=a4) (a5:=Gc (.lst (AG (Cm st)))) (a7:=Gc (.lst (AG (Cn st l)))) (o8:=o8) (o9:=o9) (o10:=o10) h2 hi hk hl hp
   refine⟨d,as',Gc (.lst (AG (Cm st))),Gc (.int l),Gc (.lst (AG (Cn st l))),o8,u9,u10,S',?_,g1,g2⟩
   have hz':(r2==0)=false:=by simpa using hz
   unfold bP
   rw[A6,s1,Ab,BP,A6,s2,Ab,BP,A6,s3,Ab,BP,<-e]
   generalize AG (Cm st)=NF at*
   generalize AG (Cn st l)=NS at*
   generalize U4=SX at*
   simp[-Mt,n1,e2,hz']
end
theorem half:aD (1 / 2)=.tup [.int 1,.int 2]:=by
 have h1:((1 / 2:Rat)).num=1:=by decide+kernel
 have h2:((1 / 2:Rat)).den=2:=by decide+kernel
 unfold aD
 rw[h1,h2]
 rfl
theorem ng:tP.d=.tup [.int 2,.int 2,.int 1,.tup [.tup [.int 1,.int 2],.tup [.int 1,.int 2]],.int 0,.int 0]:=by
 unfold tP Tr.d shD
 rw[rD,rD,half]
 rfl
theorem ZV:Ok 2 2 (1 / 2):=⟨1,by decide+kernel,by decide⟩
theorem dX:∀r∈tP.ho,Ok 2 2 r:=λr hr=>by
 have:r=1 / 2:=by
  unfold tP at hr
  simp at hr
  rw[hr]
 rw[this];exact ZV
theorem ZO:CQ tP 0 (st0 tP []):=CQ.of (G:=2) (B:=2) (by simp[st0]) (λx hx=>by cases hx) rfl (by simp[st0]) (by decide) (by decide) (by decide) dX
theorem HE:YE.AA=[⟨0,9,JV 2 0⟩,⟨0,9,JV 2 1⟩]:=rfl
theorem UD{i:Nat}:∀r∈JV 2 i,Ok 2 2 r:=λr hr=>by
 obtain⟨j,_,rfl⟩:=rW.mp hr
 split
 .exact Ok.one (by decide)
 .exact Ok.zero
theorem gH:CQ tP 0 YE:=CQ.of (G:=2) (B:=2) (by rw[HE];decide) (λx hx=>by
 rw[HE]at hx
 simp only[qj,rH,tm]at hx
 rcases hx with rfl|rfl
 .exact⟨by decide,by decide,by decide,rfl,UD⟩
 .exact⟨by decide,by decide,by decide,rfl,UD⟩) rfl (by show([]:Wp Int).length<=0;decide) (by decide) (by decide) (by decide) dX
theorem jI{st:Stt}{q:Nat}(h:q<2):Can tP st (.DV q 0 9):=⟨h,by decide,by decide,by decide⟩
theorem kf{k:Nat}{st:Stt}{rest:Wp AO}(h:QB k st rest)(hk:k<=16):ED tP [] (b1P::b2P::rest):=by
 refine⟨trP,ZO,by simp,λi hi=>?_,⟨jI (by decide),jI (by decide),h.good⟩,by simp[h.len];lia⟩
 match i with
 |0=>exact⟨0,by decide,ZO⟩
 |1=>exact⟨1,by decide,KI trP ZO (by decide) (jI (q:=0) (by decide))⟩
 |i+2=>
  have hl:=h.len
  refine⟨(rest.take i).length,by simp;lia,?_⟩
  have e:runs tP (st0 tP []) ((b1P::b2P::rest).take (i+2))=runs tP YE (rest.take i):=rfl
  rw[e]
  have:=KW trP (ds:=rest.take i) gH (JH h.good) (by simp;lia)
  rwa [w9]at this
theorem jX:QB 0 YE []:=⟨rfl,trivial,gH,rfl,⟨0,by rw[HE];decide,by show(0:Int)<9;decide⟩,λi hi=>by
 rw[HE]at hi
 match i,hi with
 |0,_=>show(9:Int)<=_;decide
 |1,_=>show(9:Int)<=_;decide⟩
section
variable{S:Sto}{p:Nat}
theorem XD(hp:B9 p S):∃ds S',Ee [.ref p] S=Gc (As tP [] ds,S')/\ED tP [] ds/\B9 p S':=by
 have lp:=hp.lt
 have sz2:(2:Nat)<=sizeLine:=AI (by decide)
 have st1:PR (tTp [tNm 2,tNm 3]) (BH [Cg [BH [eC (.str "bring"),eC (.int 0),eC (.int 0),eC (.int 9)],BH [eC (.str "bring"),eC (.int 1),eC (.int 0),eC (.int 9)]],Cg [Cg [eC (.int 0),eC (.int 9)],Cg [eC (.int 0),eC (.int 9)]]]) [Gc (.ref p),Gc tP.d,none,none,none,none,none,none,none,none,none] S=Gc (.nx,[Gc (.ref p),Gc tP.d,Gc (.ref S.length),Gc (.ref (S.length+3)),none,none,none,none,none,none,none],S++[.lst ([b1P,b2P].map AO.d),.lst [.int 0,.int 9],.lst [.int 0,.int 9],.lst ([S.length+1,S.length+2].map D.ref)]):=by
  generalize tP.d=TD at*
  simp[b1P,b2P,AO.d,sz2]
 have h0:PAt (S++[.lst ([b1P,b2P].map AO.d),.lst [.int 0,.int 9],.lst [.int 0,.int 9],.lst ([S.length+1,S.length+2].map D.ref)]) p S.length (S.length+3) [S.length+1,S.length+2] YE (b1P::b2P:: []):=by
  refine⟨hp.app _,?_,?_,by rw[HE];rfl,λi a e=>?_,by simp,by simp;lia,by lia⟩
  .rw[rL (qg _),Nat.sub_self];rfl
  .rw[rL (by lia),show S.length+3-S.length=3 by lia];rfl
  .match i,e with
   |0,e=>
    simp at e;subst e
    rw[rL (by lia),show S.length+1-S.length=1 by lia];rfl
   |1,e=>
    simp at e;subst e
    rw[rL (by lia),show S.length+2-S.length=2 by lia];rfl
   |i+2,e=>simp at e
 generalize S++[.lst ([b1P,b2P].map AO.d),.lst [.int 0,.int 9],.lst [.int 0,.int 9],.lst ([S.length+1,S.length+2].map D.ref)]=S0 at*
 obtain⟨r,S1,e1,r0,r1,p1⟩:=Ah h0.pen (n:=17) (by decide) (by decide)
 obtain⟨n,rfl⟩:=FY r0
 have rk:IJ (n:Int)=true:=DQ (by lia) (by lia)
 generalize S.length=qd at*
 generalize hqs:qd+3=qs at*
 obtain⟨E',S',ef,k,st,rest,as,o4,o5,o6,o7,o8,o9,o10,f1,f2,f3,rfl⟩:=Ed (gs:=[]) (t:=tNm 4) (b:=bP)
  (I:=λrs E S'=>∃(k:Nat) (st:Stt) (rest:Wp AO) (as:Wp Nat) (o4 o5 o6 o7 o8 o9 o10:qY D),PAt S' p qd qs as st (b1P::b2P::rest)/\QB k st rest/\k+rs.length<=16/\E=[Gc (.ref p),Gc tP.d,Gc (.ref qd),Gc (.ref qs),o4,o5,o6,o7,o8,o9,o10])
  (λ_ _ _ _=>Aa) (ds:=Ka 0 n) (E:=[Gc (.ref p),Gc tP.d,Gc (.ref qd),Gc (.ref qs),none,none,none,none,none,none,none]) (S:=S1)
  ⟨0,YE,[],_,none,none,none,none,none,none,none,h0.draw p1,jX,by rw[GH];lia,rfl⟩ (by
    rintro dd rs E T ⟨k,st,rest,as,o4,o5,o6,o7,o8,o9,o10,i1,i2,i3,rfl⟩
    simp only[rV]at i3
    obtain⟨d,as',u5,u6,u7,u8,u9,u10,T',e,g1,g2⟩:=aZ (a1:=Gc tP.d) (a4:=Gc dd) (b5:=o5) (b6:=o6) (b7:=o7) (o8:=o8) (o9:=o9) (o10:=o10) i1 i2 (by lia)
    exact⟨_,_,T',by simp,e,k+1,_,_,as',Gc dd,u5,u6,u7,u8,u9,u10,g1,g2,by lia,rfl⟩)
 refine⟨b1P::b2P::rest,S',?_,kf f2 (by simp at f3;lia),f1.pen⟩
 have eb:IC=(AU (BC 1 (BH [eC (.int 2),eC (.int 2),eC (.int 1),BH [BH [eC (.int 1),eC (.int 2)],BH [eC (.int 1),eC (.int 2)]],eC (.int 0),eC (.int 0)]))
  (AU (PR (tTp [tNm 2,tNm 3]) (BH [Cg [BH [eC (.str "bring"),eC (.int 0),eC (.int 0),eC (.int 9)],BH [eC (.str "bring"),eC (.int 1),eC (.int 0),eC (.int 9)]],Cg [Cg [eC (.int 0),eC (.int 9)],Cg [eC (.int 0),eC (.int 9)]]]))
  (AU (IL (Mc [AE AD [eV 0,eC (.int 17)]]) (tNm 4) bP)
  (BG (BH [eV 1,BH [],eOp (o1 EK) [eV 2]]))))):=rfl
 have s0:BC 1 (BH [eC (.int 2),eC (.int 2),eC (.int 1),BH [BH [eC (.int 1),eC (.int 2)],BH [eC (.int 1),eC (.int 2)]],eC (.int 0),eC (.int 0)]) [Gc (.ref p),none,none,none,none,none,none,none,none,none,none] S=Gc (.nx,[Gc (.ref p),Gc tP.d,none,none,none,none,none,none,none,none,none],S):=by
  rw[ng]
  simp
 have d1:=AW f1.dd
 have hbk:As tP [] (b1P::b2P::rest)=.tup [tP.d,.tup [],.tup ((b1P::b2P::rest).map AO.d)]:=rfl
 rw[hbk]
 have body:IC [Gc (.ref p),none,none,none,none,none,none,none,none,none,none] S=Gc (.ret (.tup [tP.d,.tup [],.tup ((b1P::b2P::rest).map AO.d)]),[Gc (.ref p),Gc tP.d,Gc (.ref qd),Gc (.ref qs),o4,o5,o6,o7,o8,o9,o10],S'):=by
  rw[eb,A6,s0,Ab,BP,A6,st1,Ab,BP]
  generalize tP.d=TD at*
  generalize (b1P::b2P::rest).map AO.d=DD at*
  simp[e1,rk,ef,d1]
 unfold Ee
 simp[body]
end
theorem B9.same{p:Nat}{S S':Sto}(h:B9 p S)(g:Bh [] S S'):B9 p S':=by
 obtain⟨ds,e,hd⟩:=h
 exact⟨ds,g.get e (by simp),hd⟩
theorem OAt.same{S S':Sto}{q M:Nat}{xs:Wp D}{o:Stt}(h:OAt S q M xs o)(g:Bh [] S S'):OAt S' q M xs o:=h.keep g (by simp) (λn hn=>by cases hn)
section
variable{S:Sto}{t:Tr}{ls:Wp Ld}{ds:Wp AO}{k q4 q5 q6 p:Nat}{xs:Wp D}{a0 a1:qY D}
def k1B:Ex:=(Ao (EL EN (eV 6) [eIx (FD [eOp (o1 Sw) [CF [6] 1 (Fd (eV 8)) (tNm 1) By (eIx (eV 0) (eV 1))],eI 1]) (eOp (o1 PV) [eOp (o2 wEq) [eV 8,FD []]])]))
theorem dF{rows:Wp (Wp Nat)}{a2 a3 a4 a5 a7 a9 a10:qY D}(ha:FC rows)(hw:∀k,(rowAt rows k).length<=2)(hk:k<=50)(hq:S[q6]?=Gc (.lst ((Fi rows k).map D.int))):k1B [a0,a1,a2,a3,a4,a5,Gc (.ref q6),a7,Gc (.lst (AG (rowAt rows k))),a9,a10] S=Gc (.nx,[a0,a1,a2,a3,a4,a5,Gc (.ref q6),a7,Gc (.lst (AG (rowAt rows k))),a9,a10],S.set q6 (.lst ((Fi rows (k+1)).map D.int))):=by
 have hz:((Fi rows k).map D.int).length<sizeLine:=qf (show _<51 by rw[qy,JT];lia) (AI (by decide))
 have cq:=AJ hq
 have cz:=nG ha hw hq
 have is:=cnt_ints (rows:=rows) (k:=k)
 have cn:cN rows k=cv (Fi rows k) (rowAt rows k):=rfl
 unfold cv at cn
 have ok:=D6 (is:=rowAt rows k)
 have dn:=GW (is:=rowAt rows k)
 have sq:sqD S (.lst (AG (rowAt rows k)))=Gc (AG (rowAt rows k),[]):=nr rfl
 have sz2:(2:Nat)<=sizeLine:=AI (by decide)
 have i1:PV (.val (.bl true))=Gc (.val (.int 1)):=rfl
 have i0:PV (.val (.bl false))=Gc (.val (.int 0)):=rfl
 rw[RP,cn]
 generalize (Fi rows k).map D.int=N at*
 generalize cN rows k=V at*
 generalize Fi rows k=NS at*
 generalize ((rowAt rows k).map λs=>D.int (NS.getD s 0))=Z at*
 by_cases h:rowAt rows k=[]
 .rw[q9 h]
  rw[show(rowAt rows k).isEmpty=true by rw[h];rfl]at dn
  generalize ((rowAt rows k).map λs=>NS.getD s 0)=Z' at*
  generalize AG (rowAt rows k)=RX at*
  simp[k1B,cq,hz,sq,QH,cz,is,ok,dn,sz2,i1]
 .rw[rA h]
  have ie:(rowAt rows k).isEmpty=false:=by
   cases z:rowAt rows k with
   |nil=>exact absurd z h
   |cons=>rfl
  rw[ie]at dn
  generalize ((rowAt rows k).map λs=>NS.getD s 0)=Z' at*
  generalize AG (rowAt rows k)=RX at*
  simp[k1B,cq,hz,sq,QH,cz,is,ok,dn,sz2,i0]
def k5B:Ex:=(xIf (IM (eOp (o2 wLt) [eIx (eV 6) (eV 7),eI 200]) (eOp (o2 wNe) [eV 9,eOp (o1 gY) [AE (Bk 24) [eV 4,eV 7]]])) (BG (eC (.bl false))) DY)
theorem dB{rows:Wp (Wp Nat)}{is:Wp Nat}{a2 a3 a5 a8 a10:qY D}(ha:FC rows)(hr:rows.length<=24)(hk:k<rows.length)(h4:S[q4]?=Gc (.lst (rows.map nD)))(h6:S[q6]?=Gc (.lst ((Fi rows (k+1)).map D.int)))(hl:Lst rows k is):k5B [a0,a1,a2,a3,Gc (.ref q4),a5,Gc (.ref q6),Gc (.int k),a8,Gc (.tup (AG is)),a10] S=Gc (.nx,[a0,a1,a2,a3,Gc (.ref q4),a5,Gc (.ref q6),Gc (.int k),a8,Gc (.tup (AG is)),a10],S):=by
 have at1:=Ni (rows:=rows) (uD k)
 have dq:=AW h6
 have ch:cN rows k<200->_:=λz=>OD (S:=S) ha hr h4 (f:=24) (n:=k) (by lia) hk z
 have ls:=Wx ha (f:=24) (by lia) hk hl
 have ns:=VE (is:=is)
 generalize (chL rows 24 k).map chD=CH at*
 generalize AG is=NI at*
 generalize cN rows k=V at*
 generalize (Fi rows (k+1)).map D.int=N at*
 by_cases z:V<200
 .have ch:=ch z
  simp[k5B,dq,at1,z,ch,ls,ns]
 .simp[k5B,dq,at1,z]
def k7B:Ex:=(xIf (eOp (o2 wNe) [AE Dg [eV 3,eV 7],eIx (FD [eV 10,eC (.str "no")]) (eOp (o1 PV) [eOp (o2 wNe) [eV 8,FD []]])]) (BG (eC (.bl false))) DY)
theorem c7{a2 a4 a5 a6 a9:qY D}(h:ED t ls ds)(hk:k<(Ag ls.length ds).length):∃S',k7B [a0,a1,a2,Gc (As t ls ds),a4,a5,a6,Gc (.int k),Gc (.lst (AG (rowAt (Ag ls.length ds) k))),a9,Gc (.lst (AG (reN (Mj t ls ds) k)))] S=Gc (.nx,[a0,a1,a2,Gc (As t ls ds),a4,a5,a6,Gc (.int k),Gc (.lst (AG (rowAt (Ag ls.length ds) k))),a9,Gc (.lst (AG (reN (Mj t ls ds) k)))],S')/\Bh [] S S':=by
 have ok:=D6 (is:=rowAt (Ag ls.length ds) k)
 have dn:=GW (is:=rowAt (Ag ls.length ds) k)
 have ns:=Rt (is:=reN (Mj t ls ds) k)
 have sz2:(2:Nat)<=sizeLine:=AI (by decide)
 have i1:PV (.val (.bl true))=Gc (.val (.int 1)):=rfl
 have i0:PV (.val (.bl false))=Gc (.val (.int 0)):=rfl
 have so:MI (.str "no") (.str "no")=true:=Vb (by decide+kernel) (by decide+kernel)
 have sd:deq (.str "no") (.str "no")=true:=NJ (by decide+kernel)
 by_cases hr:rowAt (Ag ls.length ds) k=[]
 .obtain⟨S',e,sm⟩:=ZC (S:=S) h hk hr
  refine⟨S',?_,sm⟩
  rw[show(rowAt (Ag ls.length ds) k).isEmpty=true by rw[hr];rfl]at dn
  generalize AG (rowAt (Ag ls.length ds) k)=RX at*
  generalize AG (reN (Mj t ls ds) k)=RE at*
  generalize As t ls ds=bk at*
  simp[k7B,e,ok,dn,sz2,i0,i1,ns]
 .have e:=Ys (S:=S) h hk hr
  have ie:(rowAt (Ag ls.length ds) k).isEmpty=false:=by
   cases z:rowAt (Ag ls.length ds) k with
   |nil=>exact absurd z hr
   |cons=>rfl
  rw[ie]at dn
  refine⟨S,?_,.refl⟩
  generalize AG (rowAt (Ag ls.length ds) k)=RX at*
  generalize AG (reN (Mj t ls ds) k)=RE at*
  generalize As t ls ds=bk at*
  simp[k7B,e,ok,dn,sz2,i0,i1,so,sd]
def WB:Ex:=(AU k1B
    (AU (xIf (eOp (o2 wNe) [AE CW [eV 3,eV 7],eIx (eV 6) (eV 7)]) (BG (eC (.bl false))) DY)
    (AU (BC 9 (AE CV [eV 3,eV 7]))
    (AU (xIf (Sv (AE D5 [eV 3,eV 7,eV 9])) (BG (eC (.bl false))) DY)
    (AU k5B
    (AU (BC 10 (CF [7] 2 (Qd (eV 5)) (tTp [tNm 1,tNm 2]) (Z9 (eV 0) (eV 2)) (eV 1)))
    k7B))))))
structure LAt(t:Tr)(ls:Wp Ld)(ds:Wp AO)(p q4 q5 q6 k:Nat)(xs:Wp D)(S:Sto):Prop where
 pen:B9 p S
 c4:S[q4]?=Gc (.lst ((Ag ls.length ds).map nD))
 c5:OAt S q5 (manyN ls ds) xs (Mj t ls ds)
 c6:S[q6]?=Gc (.lst ((Fi (Ag ls.length ds) k).map D.int))
theorem LAt.same{S':Sto}(h:LAt t ls ds p q4 q5 q6 k xs S)(g:Bh [] S S'):LAt t ls ds p q4 q5 q6 k xs S':=⟨h.pen.same g,g.get h.c4 (by simp),h.c5.same g,g.get h.c6 (by simp)⟩
theorem LAt.next(h:LAt t ls ds p q4 q5 q6 k xs S)(n4:q4≠q6)(n5:q5≠q6)(np:p≠q6):LAt t ls ds p q4 q5 q6 (k+1) xs (S.set q6 (.lst ((Fi (Ag ls.length ds) (k+1)).map D.int))):=by
 have g:Bh [q6] S (S.set q6 (.lst ((Fi (Ag ls.length ds) (k+1)).map D.int))):=.set (by simp)
 obtain⟨dd,e,hd⟩:=h.pen
 refine⟨⟨dd,g.get e (by simpa using np),hd⟩,g.get h.c4 (by simpa using n4),h.c5.keep g (by simpa using n5) (λn hn es z=>?_),qo (AL h.c6)⟩
 simp at hn
 subst hn
 rw[h.c6]at z;cases z
theorem Xg{o9 o10:qY D}(h:ED t ls ds)(hk:k<(Ag ls.length ds).length)(n4:q4≠q6)(n5:q5≠q6)(np:p≠q6)(hL:LAt t ls ds p q4 q5 q6 k xs S):∃u9 u10 S',WB [a0,a1,Gc (.ref p),Gc (As t ls ds),Gc (.ref q4),Gc (.ref q5),Gc (.ref q6),Gc (.int k),Gc (.lst (AG (rowAt (Ag ls.length ds) k))),o9,o10] S=Gc (.nx,[a0,a1,Gc (.ref p),Gc (As t ls ds),Gc (.ref q4),Gc (.ref q5),Gc (.ref q6),Gc (.int k),Gc (.lst (AG (rowAt (Ag ls.length ds) k))),u9,u10],S')/\LAt t ls ds p q4 q5 q6 (k+1) xs S':=by
 have ha:=Hc h
 have hr:=FU h
 have hw:=Nk (ls:=ls) (ds:=ds)
 have s1:=dF (S:=S) (a0:=a0) (a1:=a1) (a2:=Gc (.ref p)) (a3:=Gc (As t ls ds)) (a4:=Gc (.ref q4)) (a5:=Gc (.ref q5)) (a7:=Gc (.int k)) (a9:=o9) (a10:=o10) ha hw (by lia) hL.c6
 have L1:=hL.next n4 n5 np
 generalize S.set q6 (.lst ((Fi (Ag ls.length ds) (k+1)).map D.int))=S1 at*
 obtain⟨S2,e2,m2⟩:=Li (S:=S1) h hk
 have L2:=L1.same m2
 obtain⟨is,S3,e3,l3,m3⟩:=OC (S:=S2) h hk
 have L3:=L2.same m3
 have e4:=O2 (S:=S3) h hk l3.c
 have s5:=dB (S:=S3) (a0:=a0) (a1:=a1) (a2:=Gc (.ref p)) (a3:=Gc (As t ls ds)) (a5:=Gc (.ref q5)) (a8:=Gc (.lst (AG (rowAt (Ag ls.length ds) k)))) (a10:=o10) ha hr hk L3.c4 L3.c6 l3
 have oj:=VN h
 have ln:(Mj t ls ds).AA.length=manyN ls ds:=by rw[<-oj.hd.len,GJ];rfl
 have e6:=nV (S:=S3) (load:=k) L3.c5 (by rw[ln,<-Fq];lia)
 obtain⟨S4,s7,m4⟩:=c7 (S:=S3) (k:=k) (a0:=a0) (a1:=a1) (a2:=Gc (.ref p)) (a4:=Gc (.ref q4)) (a5:=Gc (.ref q5)) (a6:=Gc (.ref q6)) (a9:=Gc (.tup (AG is))) h hk
 refine⟨Gc (.tup (AG is)),Gc (.lst (AG (reN (Mj t ls ds) k))),S4,?_,L3.same m4⟩
 have at2:=Ni (rows:=Ag ls.length ds) (uD k)
 have d2:=AW L2.c6
 have q5':=EE L3.c5.cell
 generalize As t ls ds=bk at*
 generalize (Fi (Ag ls.length ds) (k+1)).map D.int=N at*
 generalize cN (Ag ls.length ds) k=V at*
 generalize AG (reN (Mj t ls ds) k)=RE at*
 generalize AG (rowAt (Ag ls.length ds) k)=RX at*
 generalize AG is=NI at*
 simp[WB,s1,e2,d2,at2,e3,e4,s5,q5',QH,e6,s7]
def Z5:Ex:=(AU (NO 4 5 (AE DP [eV 3]) (AE DA [eV 3]))
    (AU (BC 6 (Cg []))
    (IL (Qd (eV 4)) (tTp [tNm 7,tNm 8]) WB)))
theorem Rj{us:Wp (qY D)}(hu:us.length=7)(h:ED t ls ds)(hp:B9 p S):∃us' S',Z5 (a0::a1::Gc (.ref p)::Gc (As t ls ds)::us) S=Gc (.nx,a0::a1::Gc (.ref p)::Gc (As t ls ds)::us',S')/\us'.length=7/\B9 p S':=by
 obtain⟨x4,x5,x6,x7,x8,x9,x10,rfl⟩:∃x4 x5 x6 x7 x8 x9 x10,us=[x4,x5,x6,x7,x8,x9,x10]:=by
  match us,hu with
  | [a,b,c,d,e,f,g],_=>exact⟨a,b,c,d,e,f,g,rfl⟩
 obtain⟨q4,S1,e1,c1,s1,l1⟩:=Ro (S:=S) h
 obtain⟨q5,xs,S2,e2,c2,s2,l2⟩:=Lp (S:=S1) h
 have hp2:=(hp.same s1).same s2
 have c12:=s2.get c1 (by simp)
 have b4:=AL c12
 have b5:=AL c2.cell
 have bp:=hp2.lt
 have sa:Bh [] S2 (S2++[Cl.lst []]):=.app
 have L0:LAt t ls ds p q4 q5 S2.length 0 xs (S2++[Cl.lst []]):=⟨hp2.same sa,sa.get c12 (by simp),c2.same sa,qm⟩
 have hr:=FU h
 obtain⟨E',S',ef,k,u7,u8,u9,u10,_,rfl,f2⟩:=Ed (gs:=[(q4,(Ag ls.length ds).map nD)]) (t:=tTp [tNm 7,tNm 8]) (b:=WB)
  (I:=λrs E S'=>∃(k:Nat) (u7 u8 u9 u10:qY D),rs=(JD 0 ((Ag ls.length ds).map nD)).drop k/\E=[a0,a1,Gc (.ref p),Gc (As t ls ds),Gc (.ref q4),Gc (.ref q5),Gc (.ref S2.length),u7,u8,u9,u10]/\LAt t ls ds p q4 q5 S2.length k xs S')
  (fun _ _ _ hI g hg => by
    obtain⟨_,_,_,_,_,_,_,hL⟩:=hI
    rw[q8.mp hg];exact AJ hL.c4) (ds:=JD 0 ((Ag ls.length ds).map nD)) (E:=[a0,a1,Gc (.ref p),Gc (As t ls ds),Gc (.ref q4),Gc (.ref q5),Gc (.ref S2.length),x7,x8,x9,x10]) (S:=S2++[Cl.lst []])
  ⟨0,x7,x8,x9,x10,by simp,rfl,L0⟩ (by
    rintro dd rs E T ⟨k,u7,u8,u9,u10,i1,rfl,i2⟩
    have el:(JD 0 ((Ag ls.length ds).map nD)).length=(Ag ls.length ds).length:=by rw[Iy];simp
    have hlt:k<(Ag ls.length ds).length:=by
     rcases ux k (Ag ls.length ds).length with w|w
     .exact w
     .rw[uR (by lia)]at i1;cases i1
    rw[sW (by lia)]at i1
    injection i1 with z1 z2
    have hd1:dd=.tup [.int k,.lst (AG (rowAt (Ag ls.length ds) k))]:=by
     have:(JD 0 ((Ag ls.length ds).map nD))[k]?=Gc (.tup [.int k,.lst (AG (rowAt (Ag ls.length ds) k))]):=by
      rw[Iy,ql,wN hlt];rfl
     rw[qW (by lia),<-z1]at this
     exact sL this
    subst z2 hd1
    obtain⟨v9,v10,T2,e,g⟩:=Xg (S:=T) (a0:=a0) (a1:=a1) (o9:=u9) (o10:=u10) h hlt (by lia) (by lia) (by lia) i2
    exact⟨_,_,T2,by simp,e,k+1,_,_,v9,v10,rfl,rfl,g⟩)
 refine⟨[Gc (.ref q4),Gc (.ref q5),Gc (.ref S2.length),u7,u8,u9,u10],S',?_,rfl,f2.pen⟩
 have sq:=EE L0.c4
 generalize As t ls ds=bk at*
 generalize (Ag ls.length ds).map nD=RO at*
 simp[Z5,e1,e2,sq,ef]
def Qn:Ex:=(AU (BC 2 (AE G5 [AE Ce [eV 0,eV 1]]))
    (IL (Fd (BH [AE Ci [eV 2,eI 14],AE Ee [eV 2]])) (tNm 3) Z5))
theorem X3{ns:Wp Int}{k:Nat}{o2 o3:qY D}{us:Wp (qY D)}(hu:us.length=7):∃u2 u3 us' S',Qn (Gc (.scr ns)::Gc (.int k)::o2::o3::us) S=Gc (.nx,Gc (.scr ns)::Gc (.int k)::u2::u3::us',S')/\us'.length=7:=by
 obtain⟨c,e0⟩:=Zm (S:=S) (ns:=ns) (k:=k)
 obtain⟨p,S1,e1,hp,_,_⟩:=fe (S:=S) c
 obtain⟨t,ls,ds,S2,e2,⟨hb,_⟩,_,hp2⟩:=av (M:=14) (by decide) hp
 obtain⟨ds',S3,e3,hb',hp3⟩:=XD hp2
 obtain⟨u1,S4,e4,l4,hp4⟩:=Rj (S:=S3) (a0:=Gc (.scr ns)) (a1:=Gc (.int k)) hu hb.g hp3
 obtain⟨u2,S5,e5,l5,hp5⟩:=Rj (S:=S4) (a0:=Gc (.scr ns)) (a1:=Gc (.int k)) l4 hb' hp4
 refine⟨Gc (.ref p),Gc (As tP [] ds'),u2,S5,?_,l5⟩
 have e2':Ci [.ref p,.int 14] S1=Gc (As t ls ds,S2):=e2
 generalize As t ls ds=b1 at*
 generalize As tP [] ds'=b2 at*
 simp[Qn,e0,e1,e2',e3,Dk,GQ,e4,e5]
theorem fQ(ns:Wp Int)(h:ns.length<=63):∃S',Nl [.scr ns] S=Gc (.bl true,S'):=by
 obtain⟨n,hn,hn2⟩:∃n:Nat,(if(if(3:Int)<ns.length then(3:Int)else ns.length)>1 then(if(3:Int)<ns.length then(3:Int)else ns.length)else 1)=(n:Int)/\n<=3:=by
  refine⟨(if(if(3:Int)<ns.length then(3:Int)else ns.length)>1 then(if(3:Int)<ns.length then(3:Int)else ns.length)else 1).toNat,?_,?_⟩
  .split<;>split<;>lia
  .split<;>split<;>lia
 have rn:IJ (n:Int)=true:=DQ (by lia) (by lia)
 obtain⟨E',S',ef,q1,q2,q3,us,_,_,rfl⟩:=Ed (gs:=[]) (t:=tNm 1) (b:=Qn)
  (I:=λrs E S'=>∃(o1 o2 o3:qY D) (us:Wp (qY D)),us.length=7/\(∀d∈rs,∃k:Nat,d=.int k)/\E=Gc (.scr ns)::o1::o2::o3::us)
  (λ_ _ _ _=>Aa) (ds:=Ka 0 n) (E:=[Gc (.scr ns),none,none,none,none,none,none,none,none,none,none]) (S:=S)
  ⟨none,none,none,_,rfl,by
    intro d hd
    obtain⟨k,_,rfl⟩:=rW.mp hd
    exact⟨k,by simp⟩,rfl⟩ (by
    rintro dd rs E T ⟨o1,o2,o3,us,i0,i1,rfl⟩
    obtain⟨k,rfl⟩:=i1 dd qp
    obtain⟨u2,u3,us',T2,e,l⟩:=X3 (S:=T) (ns:=ns) (k:=k) (o2:=o2) (o3:=o3) i0
    exact⟨_,_,T2,by simp,e,Gc (.int k),u2,u3,us',l,λd hd=>i1 d (qi _ hd),rfl⟩)
 refine⟨S',?_⟩
 have eb:UA=AU (IL (Mc [eOp (o2 gz) [eI 1,eOp (o2 bI) [eOp (o1 DX) [eV 0],eI 3]]]) (tNm 1) Qn) (BG (eC (.bl true))):=rfl
 unfold Nl
 rw[eb]
 simp[hn,rn,ef]
end
open PyProof.Rows (boot_isinstance boot_int boot_bool boot_tuple boot_str boot_list boot_abs boot_all boot_any boot_sum boot_max boot_min boot_range boot_enumerate boot_zip boot_sorted boot_set boot_divmod)
theorem cu{K:qS}{h:rT}{mg:Str->qY qT}{xs:Wp Str}{y:Str}{C':qb}(X:K.In h)(G:h.Ns mainGlobals mg)(e:ub K mainGlobals y=Gc (Gc (.ref C')))(t:∀x∈xs,∃C b,ub K mainGlobals x=Gc (Gc (.ref C))/\wD K (.ref C) (.ref C')=Gc b/\(x==y)=b):XmD K mg xs y:=jy X G e λx hx=>by
 obtain⟨C,b,h1,h2,h3⟩:=t x hx
 exact⟨C,h1,by rw[h3];exact h2⟩
theorem eA{K:qS}{xs:Wp Str}{x y:Str}{C C':qb}{b:rR}(h1:ub K mainGlobals x=Gc (Gc (.ref C)))(h2:wD K (.ref C) (.ref C')=Gc b)(h3:(x==y)=b)(t:∀z∈xs,∃C b,ub K mainGlobals z=Gc (Gc (.ref C))/\wD K (.ref C) (.ref C')=Gc b/\(z==y)=b):∀z∈x::xs,∃C b,ub K mainGlobals z=Gc (Gc (.ref C))/\wD K (.ref C) (.ref C')=Gc b/\(z==y)=b:=λz m=>by
 rcases qj.mp m with e|m
 .rw[e];exact⟨C,b,h1,h2,h3⟩
 .exact t z m
structure All(w:rX)(K:qS)(mg:Str->qY qT):Prop where
 bt:Bts mg
 Sl:SW K mg "ALL" Tq
 Dt:SW K mg "MAKERS" BK
 F8:SW K mg "NOTHING" HB
 FT:XcD K mg "NoLoad"
 GD:XmD K mg ["NoLoad"] "NoLoad"
 D9:St.Src K mg "is_whole" D9
 Em:St.Src K mg "is_from" Em
 DF:St.Src K mg "is_within" DF
 BQ:St.Src K mg "greatest_divisor" BQ
 GC:St.Src K mg "lowest" GC
 HP:St.Src K mg "mixed" HP
 Co:St.Src K mg "has_pieces" Co
 Du:St.Src K mg "can_pool" Du
 Dy:St.Src K mg "can_swap" Dy
 Dc:St.Src K mg "can_do" Dc
 CD:St.Src K mg "held_without" CD
 CZ:St.Src K mg "held_behind" CZ
 BB:St.Src K mg "held_at_first" BB
 C9:St.Src K mg "made_from" C9
 CY:St.Src K mg "first_wrong" CY
 Bx:St.Src K mg "refuse_undone" Bx
 Br:St.Src K mg "many_loads" Br
 A3:St.Src K mg "refuse_no_load" A3
 Bn:St.Src K mg "all_to_one" Bn
 BO:St.Src K mg "mixed_shares" BO
 Ca:St.Src K mg "made_shares" Ca
 A4:St.Src K mg "all_sources" A4
 Bc:St.Src K mg "all_origins" Bc
 Bj:St.Src K mg "is_chain" Bj
 Be:St.Src K mg "first_chain" Be
 Bg:St.Src K mg "many_chains" Bg
 B7:St.Src K mg "reached" B7
 DB:St.Src K mg "_law_cell_at" DB
 Gz:St.Src K mg "_law_pen" Gz
 F5:St.Src K mg "_law_draw" F5
 D8:St.Src K mg "_law_common" D8
 Fv:St.Src K mg "_law_made" Fv
 F7:St.Src K mg "_law_plus" F7
 El:St.Src K mg "_law_times" El
 Fj:St.Src K mg "_law_less" Fj
 B6:St.Src K mg "_law_whole" B6
 D7:St.Src K mg "_law_pieces" D7
 E7:St.Src K mg "_law_train" E7
 E8:St.Src K mg "_law_first" E8
 Eg:St.Src K mg "_law_share" Eg
 Cb:St.Src K mg "_law_worths" Cb
 Cw:St.Src K mg "_law_begun" Cw
 EA:St.Src K mg "_law_pooled" EA
 Df:St.Src K mg "_law_cost" Df
 Eh:St.Src K mg "_law_borne" Eh
 F6:St.Src K mg "_law_sold" F6
 F4:St.Src K mg "_law_turn" F4
 Ge:St.Src K mg "_law_do" Ge
 Bw:St.Src K mg "_law_deed" Bw
 Dh:St.Src K mg "_law_book" Dh
 B8:St.Src K mg "_law_parents" B8
 CA:St.Src K mg "_law_origins" CA
 CB:St.Src K mg "_law_pooly" CB
 CT:St.Src K mg "_law_chains" CT
 F3:St.Src K mg "_law_from" F3
 Fe:St.Src K mg "law" Fe
section
variable{P:rF}{w:rX}{K:qS}{mg:Str->qY qT}{base:rT}
theorem XW{f:qb}{fd:uU}(F:Fun K "law" "law" Fe f fd)(B:Bts mg)(D0:Jk P w K mg base)(CU:HW P w K mg base)(Cd:G6 P w K mg base)(DJ:Iv P w K mg base)(HG:PD P w K mg base)(Fy:Ls P w K mg base)(DL:Ij P w K mg base)(DC:Ih P w K mg base)(E9:Kr P w K mg base)(B4:PK P w K mg base 24)(Fo:L6 P w K mg base):Nd P w K mg base CX0 26 f fd ["_law_script"] (spD K 1 Nl):=by
 refine cI (k:=25) F Dp rfl λcdv A outer s H E hr=>?_
 have hu:=Pb hr
 exact(Ay (LV vK rfl (Vy rfl B.range (AF (FX (UZ rfl) rfl B.max boot_max (AF BD (AF (FX (Vl rfl) rfl B.min boot_min (AF (FX LC rfl B.len boot_len (AF (AK 0) AN)) (AF BD AN))) AN))) AN)) (Hm 1 Dp.nd) (Ay (Jf 2 (deM HG hr (AF (deM DJ hr (AF (AK 0) (AF (AK 1) AN))) AN)) Dp.nd)
      (A1 (LV vK rfl (Jw (G4 (AF (deM Fy hr (AF (AK 2) (AF BD AN))) (AF (deM E9 hr (AF (AK 2) AN)) AN)))) (Hm 3 Dp.nd) (Ay (UU (i:=4) (j:=5) rfl Dp.nd rfl rfl (by decide) rfl rfl (deM DL hr (AF (AK 3) AN)) (deM DC hr (AF (AK 3) AN)))
      (Ay (Jf 6 (HD AN) Dp.nd)
      (A1 (LV vK rfl (YQ rfl B.enumerate (AK 4)) (ag rfl (He (Hm 7 Dp.nd) (He (Hm 8 Dp.nd) QF))) (Ay (HR (LA sv tV ID (AK 6) (AF (Cy IE (HD (AF (FX (Tv rfl) rfl B.sum boot_sum (AF (Po [6] 1 ["_law_counts","_law_one"] rfl Sk (Jw (AK 8)) (λs H fp=>⟨Hm 1 SY,Mx,Cy IE (AK 0) (AK 1)⟩)) AN)) (AF BD AN))) (OU OY rfl B.int boot_int (AF (YX (Lz hu) (AK 8) (HD AN)) AN))) AN)))
      (Ay (K6 (HL (Q2 hu) (deM Cd hr (AF (AK 3) (AF (AK 7) AN))) (Cy IE (AK 6) (AK 7))) (A1 (G8 Th)) IA)
      (Ay (Jf 9 (deM CU hr (AF (AK 3) (AF (AK 7) AN))) Dp.nd)
      (Ay (K6 (ez (fD (deM D0 hr (AF (AK 3) (AF (AK 7) (AF (AK 9) AN)))))) (A1 (G8 Th)) IA)
      (Ay (K6 (DW.dt (bu (HL dW (Cy IE (AK 6) (AK 7)) BD) (Yp (HL (Q2 hu) (AK 9) (FX (Vx rfl hu) rfl B.min boot_min (AF (deM B4 hr (AF (AK 4) (AF (AK 7) AN))) AN)))))) (A1 (G8 Th)) IA)
      (Ay (MG [7] 2 ["_law_load","_law_at","_law_some"] rfl Dp.nd rfl rfl So (YQ rfl B.enumerate (AK 5)) (λs H fp=>⟨ag rfl (He (Hm 1 Lw) (He (Hm 2 Lw) QF)),aC (dE hu (AK 0) (AK 2)),AK 1⟩))
      (A1 (K6 (HL (Q2 hu) (deM Fo hr (AF (AK 3) (AF (AK 7) AN))) (Cy IE (HD (AF (AK 10) (AF Ht AN))) (OU OY rfl B.int boot_int (AF (YX (Q2 hu) (AK 8) (HD AN)) AN)))) (A1 (G8 Th)) IA))))))))))))))))
      (A1 (G8 Th)))
theorem fT{f:qb}{fd:uU}(F:Fun K "law" "law" Fe f fd)(T:All w K mg):Nd P w K mg base CX0 26 f fd ["_law_script"] (spD K 1 Nl):=by
 have B:=T.bt
 have Sl:=T.Sl
 have Dt:=T.Dt
 have F8:=T.F8
 have FT:=T.FT
 have GD:=T.GD
 have Fc:=Fc (P:=P) (w:=w) (base:=base) T.D9 B
 have GK:=GK (P:=P) (w:=w) (base:=base) T.Em Fc
 have Bl:=Bl (P:=P) (w:=w) (base:=base) T.DF GK
 have Bu:=Bu (P:=P) (w:=w) (base:=base) T.BQ B
 have HZ:=HZ (P:=P) (w:=w) (base:=base) T.GC Bu
 have Iq:=Iq (P:=P) (w:=w) (base:=base) T.HP HZ
 have BW:=BW (P:=P) (w:=w) (base:=base) T.Co B
 have FO:=FO (P:=P) (w:=w) (base:=base) T.Du BW
 have Fb:=Fb (P:=P) (w:=w) (base:=base) T.Dy BW
 have Ha:=Ha (P:=P) (w:=w) (base:=base) T.Dc BW FO Fb
 have Cs:=Cs (P:=P) (w:=w) (base:=base) T.CD
 have Bz:=Bz (P:=P) (w:=w) (base:=base) T.CZ Cs
 have Bb:=Bb (P:=P) (w:=w) (base:=base) T.BB
 have Ck:=Ck (P:=P) (w:=w) (base:=base) T.C9 B
 have DM:=DM (P:=P) (w:=w) (base:=base) T.CY B Ha Bz Bb
 have Ac:=Ac (P:=P) (w:=w) (base:=base) T.Bx DM
 have BV:=BV (P:=P) (w:=w) (base:=base) T.Br B Dt
 have CN:=CN (P:=P) (w:=w) (base:=base) T.A3 B Bl BV FT
 have AY:=AY (P:=P) (w:=w) (base:=base) T.A3 B Bl BV
 have Ds:=Ds (P:=P) (w:=w) (base:=base) T.Bn B Sl F8
 have Cu:=Cu (P:=P) (w:=w) (base:=base) T.BO B Iq
 have DO:=DO (P:=P) (w:=w) (base:=base) T.Ca B Ck Cu
 have Ak:=Ak (P:=P) (w:=w) (base:=base) T.A4 Dt Ck
 have B1:=B1 (P:=P) (w:=w) (base:=base) T.Bc B Dt Bz Bb BV Ds DO
 have D0:=D0 (P:=P) (w:=w) (base:=base) T.Bj B Bl Ac AY Ak
 have CU:=CU (P:=P) (w:=w) (base:=base) T.Be B Ac AY Ak
 have Cd:=Cd (P:=P) (w:=w) (base:=base) T.Bg B Ac AY Ak
 have Ew:=Ew (P:=P) (w:=w) (base:=base) T.B7 B Ac AY Ak B1 FT CN
 have Ec:=Ec (P:=P) (w:=w) (base:=base) T.B7 B Ac AY Ak B1
 have DJ:=DJ (P:=P) (w:=w) (base:=base) T.DB B
 have HG:=HG (P:=P) (w:=w) (base:=base) T.Gz B
 have Am:=Am (P:=P) (w:=w) (base:=base) T.F5
 have FQ:=FQ (P:=P) (w:=w) (base:=base) T.D8
 have Ax:=Ax (P:=P) (w:=w) (base:=base) T.Fv B FQ
 have Ba:=Ba (P:=P) (w:=w) (base:=base) T.F7 Ax
 have A8:=A8 (P:=P) (w:=w) (base:=base) T.El Ax
 have ET:=ET (P:=P) (w:=w) (base:=base) T.Fj Ba
 have De:=De (P:=P) (w:=w) (base:=base) T.B6 B Am Ax
 have C3:=C3 (P:=P) (w:=w) (base:=base) T.D7 Am
 have GX:=GX (P:=P) (w:=w) (base:=base) T.E7 Am De
 have GG:=GG (P:=P) (w:=w) (base:=base) T.E8 B Am De C3
 have GP:=GP (P:=P) (w:=w) (base:=base) T.Eg Am Ax
 have FL:=FL (P:=P) (w:=w) (base:=base) T.Cb B Am
 have Cz:=Cz (P:=P) (w:=w) (base:=base) T.Cw B
 have FE:=FE (P:=P) (w:=w) (base:=base) T.EA B Ax Ba A8
 have HX:=HX (P:=P) (w:=w) (base:=base) T.Df B Ax
 have GF:=GF (P:=P) (w:=w) (base:=base) T.Eh B Ba A8 ET
 have Hb:=Hb (P:=P) (w:=w) (base:=base) T.F6 B Ba A8 ET
 have HY:=HY (P:=P) (w:=w) (base:=base) T.F4 HX GF Hb
 have GL:=GL (P:=P) (w:=w) (base:=base) T.Ge B FE HY
 have Hk:=Hk (P:=P) (w:=w) (base:=base) T.Bw B Am C3 GP FL
 have Fy:=Fy (P:=P) (w:=w) (base:=base) T.Dh B Am GX GG Cz GL Hk
 have DL:=DL (P:=P) (w:=w) (base:=base) T.B8 B
 have DC:=DC (P:=P) (w:=w) (base:=base) T.CA B Ax Ba A8 Cz GL
 have E9:=E9 (P:=P) (w:=w) (base:=base) T.CB B Am
 have B4:=B4 (P:=P) (w:=w) (base:=base) T.CT 24 (by decide)
 have Fo:=Fo (P:=P) (w:=w) (base:=base) T.F3 Ec GD Ew
 exact XW (P:=P) (w:=w) (base:=base) F B D0 CU Cd DJ HG Fy DL DC E9 B4 Fo
theorem gK{l:xW}{fa:qb}(hfa:mg "law"=Gc (.ref fa))(T:All w K mg):∃fd:uU,(∀(s:qX) (v:qT),BindsTo s fd ⟨[v],[]⟩ [("_law_script",v)])/\∀base:rT,K.In base->base.Ns mainGlobals mg->Nd l.prog w K mg base CX0 26 fa fd ["_law_script"] (Y8 K):=by
 obtain⟨f,fd,F,hm⟩:=T.Fe.ex
 have e:=hfa.symm.trans hm
 cases e
 refine⟨fd,λs v=>?_,λbase _ _=>?_⟩
 .obtain⟨oc,od,kV,doc,pm,an,cdv,ct,osl,hfd,_⟩:=F.ex
  subst hfd
  exact .of_eq rfl
 .exact ff (fT (P:=l.prog) (w:=w) (base:=base) F T) λns hl=>fQ ns hl
end
theorem walk{l:xW}{q:rF}{loose:Wp Str}{XP:(Str->qY qT)->rT->Prop}{YP:rX->rT->Prop}{d:DefRec}{K:Params->qS}(hn:l.most=Gc 63)(hdf:d.params.defaults=[])(hY:∀(w:rX) (h:rT),YP w h->(K w.params).In h)(hd:d.name="law")(F:∀(w:rX) (mg:Str->qY qT) (h:rT),(K w.params).In h->h.Ns mainGlobals mg->All w (K w.params) mg):PySem.W.WalkO q loose XP YP l.row.toRowW d [] (λf vs=>PySem.call f vs):=
 L2.aN (n:=63) (k:=26) (x:="_law_script") (CX:=λ_=>CX0) (sp:=λw=>Y8 (K w.params)) hn (by decide) hdf ⟨rfl,by decide,by decide⟩ hY (λw mg fa h KX G hmg=>gK (by rw[<-hd];exact hmg) (F w mg h KX G)) (λ_ _ a ns hl _ hS=>⟨a,ns,rfl,hS,hl,λ_=>rfl⟩) λ_ _ _ _ _ z=>z
end Mi
end
noncomputable section
structure PySem.W.Fast:Prop where
 (tw12232061756860697539 tw16349202326328488800 tw11952183156586144933 tw16629771239845052783 tw2745928494573832756 tw7715230629127228884 tw16053083833814027009 tw12761838146842652002 tw14539122622641953152 tw903712582578076457 tw1661850535120441418 tw18305054347726395686 tw7179592257169810059 tw12425609259976679752 tw7411077271752225392 tw2542419607986252049 tw17886122616784371633 tw12779351276452649434 tw15590423808549329553 tw3210843359729574609 tw16608273824694645282 tw5080657967005157765 tw5524540377758661571 tw1142015913159359507 tw14777457791032071410 tw1999198787089934986 tw15968825322038260357 tw12907144486817324161 tw18322109027571273715 tw6167314766393929 tw17304981922522518082 tw7385618628885524022 tw14810694676720541429 tw17252248044098119817 tw11795449885275742666 tw10118502826338779934 tw16408916079219735395 tw12227619834936436090 tw12871170496055184073 tw8704241059672168076 tw7743433499765737442 tw11386281601941564896 tw15088173861356592449 tw2278260989006281704 tw2683352801698709389 tw4929318911060561002 tw16260062199308625633 tw17045032927123658709 tw11417868173141003758 tw17151809832053613564 tw7636634419530946432 tw8177309579416935442 tw15688971443111410565 tw2619657438631169548 tw10256642799357909257 tw18288872102732672576 tw4463401285467078490 tw11098975364686598195 tw1100372614837782560 tw10501243600144577517 tw11824452002507904594 tw12986037906194782022 tw3008414494939460794 tw10899194451709501608 tw4385973527107518403 tw3177593498594330831 tw16566381860617044646 tw3489372040743947005 tw7163626783876685611 tw7014152193432211332 tw9361971576885813276 tw8125133770146757260 tw17285695683930174852 tw4663197821204186622 tw13191131110321953456 tw11012923044438573820 tw6015526804630991637 tw6394561764438615157 tw4771819627815565737 tw65898488014703893 tw18063056462833912989 tw4376462095177406271 tw9731952644027445855 tw10661120269863638164 tw428462736861230448 tw3082696275794193204 tw2406440295794249245 tw9373941072180696347 tw8615979898958717419 tw9580266322764073300 tw3804837308022453935 tw12582538309743267586 tw9905342951785132139 tw13139571696974217086 tw2288365101436148797 tw4878524746209177513 tw7331208629026279135 tw8321089927623405188 tw8470593698347295069 tw4863516395032464482 tw11572250044306107194 tw2290163799763865774 tw17629939625082929619 tw8094761316100016940 tw4713041199494156688 tw1736174377789906805 tw3397092256857422412 tw7539070912652028275 tw9321916377431100316 tw13406542890569174337 tw14442812185507265312 tw5869223493400805909 tw447805096798638807 tw7231989214479452325 tw4279508452176495470 tw8292420160326535245 tw12829378124455957197 tw7719234120415444696 tw662115769525550211 tw6980729433300373746 tw16953147156447290049 tw11822362360162087645 tw16785449086183972060 tw16600558523953359702 tw15907578078156187294 tw9705731644751897312 tw3286562399374853644 tw16436194882124581261 tw2144683152449787279 tw3825709519141975609 tw4344894532700836843 tw15690789882588331832 tw11612780889863185560 tw2111858308594535065 tw7965498103594699879
 tw2719264439234116169 tw10332135039172412997 tw2777341911285058899 tw10685377970770834421 tw8447015967625688509 tw12511417981878779284 tw7810531187109542701 tw33176020607365750 tw11252036921641023202 tw15543413702441689919 tw15632566949630600029 tw16968388451926678850 tw8764623331009581827 tw13938158608425680868 tw2263245886342827587 tw1993545948050249680 tw14916849919112790107 tw17351696237028641085 tw11723381357399511523 tw5494446886258679752 tw12044154130781271130 tw8238047534507486449 tw4950521057976413165 tw6772492336184277296 tw6404146261405260399 tw5480916076756190717 tw2996785729279959705 tw3407432477544414110 tw11434237391081609827 tw3211100624483468367 tw10868494475080323548 tw6433471346237269564 tw227258584750342670 tw11418678524275999748 tw8785281524631492333 tw9455627167079206019 tw6271539429795196734 tw15419596591143331290 tw9329561290119331008 tw3498534061010175175 tw7636704456634035980 tw6319711878357986123 tw17665605911876745247 tw13059444890202417624 tw15142734856998062018 tw16882965468980756818 tw17599575839273520459 tw7162022410024411732 tw2500090280983522492 tw2169245378116399072 tw14376393651045456047 tw16305956426931129570 tw7452258357814482042 tw14241676106619947844 tw4857894131292890349 tw2495378067505831711 tw275980454462522021 tw5173665655452579454 tw1701300896851195700 tw1535332104267608291 tw11437518900154069978 tw1548663332467516406 tw16830632521520100941 tw2339339694817987969 tw6628162847802569868 tw7618199103259210844 tw15235960245241633494 tw10244531352431046945 tw6102284023116945185 tw4144396993632476103 tw1016481054332395623 tw17846025564313632048 tw7657217305224271724 tw11298270152541482545 tw12994184305475356437 tw15108338975150131895 tw8053588051569034442 tw17351367315816232788 tw15789735989463087495 tw14552160794007838263 tw15123690116998862836 tw9283041215924914965 tw14072512605558955190 tw13177692526715815091 tw7034251209567434711 tw14263188929105989687 tw4958776914661508052 tw16934581686983209377 tw16851301274222060273 tw1686870685531231306 tw18147473313652665982 tw6043287675560249193 tw13705901170163014261 tw12365839713811371433 tw12717169724723640306 tw3495849392124871063 tw4271722734186359100 tw7700864457115288988 tw11804241847546715383 tw16290998611113352853 tw5129969886093197563 tw16283276936586124176 tw3495953107899348344 tw6975531292017465566 tw2110543235399147622 tw483061427033704654 tw10805605103997122104 tw7873239421339153558 tw420640537514139378 tw8669729716077035653 tw150986911706128920 tw91521014952751556 tw11841638552441921656 tw18236247327662865383 tw9966581122002292015 tw14851663547746298879 tw13973745505598172194 tw6820917125833097022 tw5456919626385326567 tw5317558678621433015 tw17437058022665631339  :ze)
open PySem PySem.W PyProof.Rows
set_option maxRecDepth 100000 in
set_option maxHeartbeats 0 in
theorem PySem.Challenge.cw_sharetrail_k27_chains_told_and_counted_holds : PySem.Challenge.rw_sharetrail_k27_chains_told_and_counted.Holds := by
 w_on;o_law;k_head;(case hw=>w_witness2)
 k_fill
 refine Mi.walk (l:=PySem.Challenge.rw_sharetrail_k27_chains_told_and_counted) rfl rfl (λw h Y=>PySem.W.kIn_of Y) rfl ?F
 case F=>
  intro w mg h KX G
  have Sl:Mi.SW (L2.KOf KX) mg "ALL" Mi.Tq:=by
   dsimp only[L2.KOf]
   refine' Mi.Tu KX G ?e ?r
   (case e=>k_is)
   case r=>
    refine' Mi.Pk ?l ?z ?r
    (case l=>k_is)
    (case z=>decide)
    case r=>
     refine' Paired.cons ?_ ?_
     .exact Mi.NZ
     refine' Paired.cons ?_ ?_
     .exact Mi.NZ
     exact Paired.nil
  have Dt:Mi.SW (L2.KOf KX) mg "MAKERS" Mi.BK:=by
   dsimp only[L2.KOf]
   refine' Mi.Tu KX G ?e ?r
   (case e=>k_is)
   case r=>
    refine' Mi.Pk ?l ?z ?r
    (case l=>k_is)
    (case z=>decide)
    case r=>
     refine' Paired.cons ?_ ?_
     .exact Mi.NW
     refine' Paired.cons ?_ ?_
     .exact Mi.NW
     refine' Paired.cons ?_ ?_
     .exact Mi.NW
     refine' Paired.cons ?_ ?_
     .exact Mi.NW
     exact Paired.nil
  have F8:Mi.SW (L2.KOf KX) mg "NOTHING" Mi.HB:=by
   dsimp only[L2.KOf]
   refine' Mi.Tu KX G ?e ?r
   (case e=>k_is)
   case r=>
    refine' Mi.Pk ?l ?z ?r
    (case l=>k_is)
    (case z=>decide)
    case r=>
     refine' Paired.cons ?_ ?_
     .exact Mi.NZ
     refine' Paired.cons ?_ ?_
     .exact Mi.NZ
     exact Paired.nil
  have FT:Mi.XcD (L2.KOf KX) mg "NoLoad":=by
   dsimp only[L2.KOf]
   refine' Mi.lI KX G ?xce ?xcq
   (case xce=>k_is)
   (case xcq=>k_exc)
  have GD:Mi.XmD (L2.KOf KX) mg ["NoLoad"] "NoLoad":=by
   dsimp only[L2.KOf]
   refine' Mi.cu KX G ?xme ?xmt
   (case xme=>k_is)
   case xmt=>
    refine' Mi.eA ?xma ?xmb ?xmc ?_
    (case xma=>k_is)
    (case xmb=>kts_exm)
    (case xmc=>decide)
    exact Mi.all_nil
  have z_abs:mg "abs"=none:=by
   refine' PySem.W.mg_none_of KX G ?z
   (case z=>k_is)
  have z_all:mg "all"=none:=by
   refine' PySem.W.mg_none_of KX G ?z
   (case z=>k_is)
  have z_bool:mg "bool"=none:=by
   refine' PySem.W.mg_none_of KX G ?z
   (case z=>k_is)
  have z_dict:mg "dict"=none:=by
   refine' PySem.W.mg_none_of KX G ?z
   (case z=>k_is)
  have z_enumerate:mg "enumerate"=none:=by
   refine' PySem.W.mg_none_of KX G ?z
   (case z=>k_is)
  have z_int:mg "int"=none:=by
   refine' PySem.W.mg_none_of KX G ?z
   (case z=>k_is)
  have z_isinstance:mg "isinstance"=none:=by
   refine' PySem.W.mg_none_of KX G ?z
   (case z=>k_is)
  have z_len:mg "len"=none:=by
   refine' PySem.W.mg_none_of KX G ?z
   (case z=>k_is)
  have z_list:mg "list"=none:=by
   refine' PySem.W.mg_none_of KX G ?z
   (case z=>k_is)
  have z_max:mg "max"=none:=by
   refine' PySem.W.mg_none_of KX G ?z
   (case z=>k_is)
  have z_min:mg "min"=none:=by
   refine' PySem.W.mg_none_of KX G ?z
   (case z=>k_is)
  have z_range:mg "range"=none:=by
   refine' PySem.W.mg_none_of KX G ?z
   (case z=>k_is)
  have z_set:mg "set"=none:=by
   refine' PySem.W.mg_none_of KX G ?z
   (case z=>k_is)
  have z_sorted:mg "sorted"=none:=by
   refine' PySem.W.mg_none_of KX G ?z
   (case z=>k_is)
  have z_sum:mg "sum"=none:=by
   refine' PySem.W.mg_none_of KX G ?z
   (case z=>k_is)
  have z_tuple:mg "tuple"=none:=by
   refine' PySem.W.mg_none_of KX G ?z
   (case z=>k_is)
  have z_zip:mg "zip"=none:=by
   refine' PySem.W.mg_none_of KX G ?z
   (case z=>k_is)
  refine⟨⟨z_abs,z_all,z_bool,z_dict,z_enumerate,z_int,z_isinstance,z_len,z_list,z_max,z_min,z_range,z_set,z_sorted,z_sum,z_tuple,z_zip⟩,Sl,Dt,F8,FT,GD,?_,?_,?_,?_,?_,?_,?_,?_,?_,?_,?_,?_,?_,?_,?_,?_,?_,?_,?_,?_,?_,?_,?_,?_,?_,?_,?_,?_,?_,?_,?_,?_,?_,?_,?_,?_,?_,?_,?_,?_,?_,?_,?_,?_,?_,?_,?_,?_,?_,?_,?_,?_,?_,?_,?_,?_⟩
  all_goals (refine' Mi.eK KX G ?a ?l ?c ?k;(case a=>k_is);(case l=>k_is);(case c=>k_is);(case k=>k_is))
end
