import PyProof.Rows.All
import Wide.All
import OpenK.AllK
import Wide.FinOn
import Lean
import PyProof.EqAt
import PyProof.EqKinds
import PyProof.TupleCall
import PyProof.Draws
import PyProof.EnumMake
import PyProof.EnumFor
import PyProof.ZipIter
import PyProof.ListMulRoad
import PyProof.NeData
import PyProof.SumWalkG
import KE.KSortedM
import PySem.Challenge.RW_sharetrail_k73_leaders_refused
set_option Elab.async false
set_option linter.all false
set_option maxRecDepth 100000
set_option maxHeartbeats 4000000
set_option exponentiation.threshold 10000
set_option compiler.extract_closed false
open _root_ renaming List->Wp,Option->rW,of_decide_eq_true->sM,if_pos->sZ,if_neg->sg,Bool->sx,or_false->tF,beq_eq_false_iff_ne->tO,Array->uE,decide_eq_false->ue,decide_eq_true_eq->uj,False->ur,String->vB,beq_iff_eq->vC,decide_eq_true->vK,if_true->xZ,if_false->yL,True->yk,beq_self_eq_true->yw,not_or->ze
open Array renaming getElem?_eq_some_iff->vZ,length_toList->xq
open Bool renaming and_eq_true->sA,false_ne_true->tq,or_eq_true->uK,noConfusion->vE,not_and->yA,and_false->yQ,not_eq_true'->yg,eq_iff_iff->zM,false_eq_true->AAJ
open False renaming elim->tu
open ForInStep renaming yield->xk
open Int renaming toNat_of_nonneg->uD,mul_pos->uw,natAbs_mul->u5,natAbs_natCast->vF,lt_of_lt_of_le->va,emod_nonneg->vf,emod_lt_of_pos->vz,toNat_natCast->xF,mul_le_mul_of_nonneg_right->xX,natAbs_ediv_le_natAbs->yX,natAbs_add_le->yi,mul_ediv_cancel_left->yo,natCast_mul->zJ
open Lean renaming mkIdent->y9
open Lean.Syntax renaming mkApp->yh
open List renaming mem_cons->rZ,getElem?_append_left->rf,mem_cons_of_mem->rg,getElem?_set_ne->rm,getElem?_eq_some_iff->r9,not_mem_nil->sC,getElem?_eq_getElem->sF,replicate->sH,size_toArray->sJ,mem_cons_self->sN,getElem?_set_self->sP,mem_of_getElem?->sQ,getElem?_concat_length->sU,map_cons->sV,mem_append->sX,getElem?_map->sY,mem_singleton->sj,length_cons->sk,getD_eq_getElem?_getD->sv,getElem?_append_right->tK,filterMap_cons->tQ,length_append->tV,lookup_cons->tY,range->tj,mem_append_right->tm,mem_map->uA,append_nil->uB,nil_append->uC,prefix_rfl->uG,length_map->uJ,cons_append->ua,replicate_succ->uh,lookup->uu,length_set->u6,drop_eq_getElem_cons->u7,sum_cons->vH,nodup_cons->vO,of_mem_zip->vP,map_nil->vQ,any_cons->vR,prefix_append->vY,mem_iff_getElem?->vb,getElem?_eq_none_iff->vc,mem_or_eq_of_mem_set->vd,flatten_cons->vg,all_cons->vm,map_map->v3,length_nil->v7,getElem?_inj->wF,nodup_append->wG,getElem_mem->wU,getElem?_zip_eq_some->wW,length_filterMap_le->wc,mem_filter->we,lookup_append->wk,getElem?_replicate->wu,append_assoc->xG,take_of_length_le->xH,mapM_cons->xJ,drop_eq_nil_of_le->xK,mem_range'_1->xO,length_filter_le->xR,length_take->xT,mem_append_left->xg,getElem?_zipWith_eq_some->xi,getElem?_of_mem->xj,mem_range->yG,mem_filterMap->yI,length_range->yf,eq_of_mem_replicate->yq,length_drop->yt,zipWith->zC,map_set->zD,forIn_cons->zI,length_singleton->zR,set_append_right->zT,getElem?_eq_none->zU,forIn_nil->zc,drop_eq_nil_iff->zg,set_append_left->zm,length_pos_iff->zw,map_take->AAB,foldl->AAH,filter_append->AAN
open Nat renaming lt_of_lt_of_le->rz,le_refl->sD,le_trans->sI,lt_of_le_of_lt->su,ne_of_lt->tJ,pow_le_pow_right->tL,mul_le_mul_right->uQ,lt_irrefl->uY,le_succ_of_le->vi,zero_le->vv,mul_comm->vx,le_of_succ_le->wD,pos_of_ne_zero->wm,lt_succ_self->xS,gcd->xf,le_of_lt->xu,ne_of_gt->xv,lt_trans->xy,one_lt_two_pow->yU,mul_pos->yj,mul_assoc->yp,gcd_comm->zA,pow_succ->zB,not_lt_zero->zL,mul_le_mul->zl,mul_le_mul_left->z7
open Ne renaming symm->uX
open Option renaming some->Gc,map_eq_some_iff->vy,bind_some->yx,map->AAL
open Option.some renaming inj->uo
open PyProof.Rows renaming envOfC->sR,slot_tuple_getitem->tM,boot_isinstance->v8,callWith_type1->wC,AllBare->wo,entry_tuple_getitem->xt,assignInOrder_cons->yH,slicePart_none->yM,args_tuple_getitem->yN,subscriptTail_builtinR->y3,Subscript_->zV,tupleItemsOf_->z9,boot_tuple->AAM,tail_any->AAO
open PyProof.Rows.IsTup renaming new->vk
open PySem renaming Value->rS,wpAny_bind->rT,Shared->rX,Addr->rY,starEach->sE,wpAny_pure->sG,Expr->sW,Program->sf,Stmt->tE,Around->tN,Heap->tT,World->tU,mem_of_lookup->tZ,Env->uM,wpAny_newObj_type->uN,wpAny_field->uP,wpAny_Call_Name_kw->uR,Scope->uT,wpAny_mono->ub,wpAny_callSpecial?_slot->uc,FuncData->uf,wpAny_call_entry->uv,wpAny_holding->uy,ExceptHandler->uz,wpAny_pyIter_list->u4,wpAny_pyIter_tuple->vD,wpAny_truthy_bool->vL,DictEntry->vM,wpAny_setField_rec->vX,wpAny_passesOwn->ve,IsPair->vn,wpAny_execs_cons->vp,NameKind->vq,wpAny_getItem_str_slice->vt,wpAny_setField->wJ,wpAny_seqItems->wK,codeAny_mono->wQ,wpAny_binaryOp_repeat_ref->wV,wpAny_standAt->wY,wpAny_execs_nil->wg,wpAny_call->wj,wpAny_pyNext_list_item->xB,wpAny_pyNext_list_end->xP,typeIs_int->xU,call_meets->xV,wpAny_updateSeq_pair->xh,post_val_or_str->xp,Builtin->x8,Arguments->yD,wpAny_newFunctionEnv_cells->yK,typeIs_str->yP,IsZip->yR,boot_len->yT,wpAny_Return_some->yZ,Keyword->yb,wpAny_sequenceKey->yc,wpAny_comprehension_free->yl,wpAny_onRaise->ym,noFill_tuple_add->yr,wpAny_rule->yz,IsPart->y0,wpAny_typeOf->y2,wpAny_pyIter_listiter->zO,codeAny_call_function->zP,codeAny_handlers_test->zS,sizeLine_eq->zW,intBits_le_iff->zf,wpAny_newFunctionEnv->zj,wpAny_Tuple_spliced->zt,wpAny_handleBy_cons->z5,seq_tuple_add->z8,evalPart_none->AAA
open PySem.Around renaming frames_deeper->zY
open PySem.AutoSeq1 renaming wpAny_loadPart'->se
open PySem.Builtin.List renaming listTooLong->uk
open PySem.Builtin.Slice renaming slicePlaces->uF,sliceAdjust->ug,sliceApplied->vU,sliceFields->yW
open PySem.Builtin.SmallTypes renaming nextOf->tW,ownedTupleIsFree->um,ownedTupleHandOut->wX
open PySem.Builtin.Str renaming tooLong->zx
open PySem.Builtin.Tuple renaming tupleExact->uI,tupleItemsOf->wI,tupleTooMany->yS
open PySem.Calls renaming Name_function_global->vS,spliced_cons->wO,loadGlobal_global->wq,callWith_builtin->y4,spliced_nil->zX,evalArgs_plain->zZ
open PySem.Challenge renaming pw_sharetrail_k73_leaders_refused->yV
open PySem.EntryCells renaming newEntry->zy
open PySem.F renaming slot_tuple_iterator_next->vW,slot_str_getitem->vo,slot_int_rmul->v5,args_tuple_add_2->wZ,entry_tuple_add->wx,slot_tuple_add->xE,slot_tuple_mul->xW,args_tuple_iterator_next_1->xl,slot_zip_next->xo,entry_tuple_iterator_next->x5,args_int_rmul_2->yd,slot_int_index->yu,entry_int_rmul->yv,slot_str_upper->y8,fills_int_mul->zH,slot_list_append->zQ,args_list_extend_2->zb,excBase_ValueError->zh,entry_list_extend->zu,slot_list_extend->AAI,args_tuple_mul_2->AAK
open PySem.Heap renaming get?_push_of_some->rV,lt_size->sO,get?_push_size->sS,get?_update_other->uS,size_push->uU,get?_update_self->u9,SameBut->wM,IsTuple->x9,ExtBut->ye,IsList->zd
open PySem.Heap.IsSliceOf renaming new->AAG
open PySem.Heap.SameBut renaming update->zv
open PySem.NameKind renaming free->uO,cell->wB
open PySem.Obj renaming mapFields->uZ,isFreed_of_fields->vA,data_mapFields->vV,mapSeq->yO
open PySem.PassesOwn renaming never->v9
open PySem.PyData renaming strOk->uW,canLayAll0->xI,depthAll->zN
open PySem.SeqAt.EqAt renaming int_str->AAC,str_int->AAD
open PySem.Shared renaming heap->vh
open PySem.Str renaming ofString->rh,ofString_eq_toList->zE
open PySem.Txt renaming upper->wy,slice_le->y7,slice->zq
open PySem.Value renaming ref->si,none->tP,isStrOf->vj,int->yB,str->yC,bool->yE,type->yF
open PySem.W renaming Frag->W1,nsIn->tS,findIn->uH,keepIn->uL,kia_one->uV,emptyDict->ui,callWith_K->uq,fnOf->vG,mg_of->vI,envX->vJ,instObj->vN,kitOne->vT,codeIn->wH,exmOne->wL,plainGet->wN,hasDictIn->xC,cellsFrom_some->xD,tabObj->xM,kla_fn->xN,methodCall_KW->xQ,KeysLit->xn,plainGet_of->xr,isFn->xw,lookIn->yJ,methodObj->yY,plainOver->ya,excIn->yn,OpenLaw->yy,takerIn->zF,makesIn->zG,kla_obj->zK,kla_callFunE->zi,kla_codeExpr->zk,callWith_F0->z6,kitx_tuple->AAE,codeRec_of->AAF
open PySem.codeAmong renaming eq_def->wR
open Rat renaming intCast_eq_zero_iff->xA,mul_le_mul_of_nonneg_right->xY
open Sum renaming inl->zo,inr->zp
open True renaming intro->vw
noncomputable section
namespace L2
open PySem PySem.Spec PyProof.Rows
abbrev Key:=Sum Int Str
noncomputable def R3:Key->rS->sx
 | .inl k,v=>Value.isInt k v
 | .inr x,v=>vj x v
noncomputable def pH(w:tU):Key->Int
 | .inl k=>hashInt k
 | .inr x=>hashStr w x
theorem CL:∀{k:Key} {v:rS},R3 k v=true->(∃i t,k=zo i/\v=yB i t)\/(∃x t,k=zp x/\v=yC x t)
 | .inl i,v,h=>by
   obtain⟨t,e⟩:=Value.isInt_shape (k:=i) (v:=v) h
   exact .inl ⟨i,t,rfl,e⟩
 | .inr x,v,h=>by
   obtain⟨t,e⟩:=Value.isStrOf_shape (x:=x) (v:=v) h
   exact .inr ⟨x,t,rfl,e⟩
theorem U9(i:Int)(t:Tok):R3 (.inl i) (.int i t)=true:=by simp[R3,Value.isInt]
theorem Vj(x:Str)(t:Tok):R3 (.inr x) (.str x t)=true:=by simp[R3,vj]
theorem fQ(a b:Int):decide ((zo a:Key)=zo b)=(a==b):=by
 by_cases e:a=b
 .subst e;simp
 .have h:¬(zo a:Key)=zo b:=λq=>e (Sum.inl.inj q)
  rw[ue h]
  exact(tO.mpr e).symm
theorem dM(a b:Str):decide ((zp a:Key)=zp b)=decide (a=b):=by
 by_cases e:a=b
 .subst e;simp
 .have h:¬(zp a:Key)=zp b:=λq=>e (Sum.inr.inj q)
  rw[ue h,ue e]
theorem gL(a:Int)(b:Str):decide ((zo a:Key)=zp b)=false:=ue (λq=>nomatch q)
theorem gj(a:Str)(b:Int):decide ((zp a:Key)=zo b)=false:=ue (λq=>nomatch q)
noncomputable def C8(prog:sf)(w:tU):PySem.KeyKind prog w Key where
 is:=R3
 hash:=pH w
 inj:=λv a b ha hb=>by
  rcases CL ha with⟨i,t,rfl,rfl⟩|⟨x,t,rfl,rfl⟩
  .rcases CL hb with⟨j,u,rfl,e⟩|⟨y,u,rfl,e⟩
   .injection e with e1 _;rw[e1]
   .exact nomatch e
  .rcases CL hb with⟨j,u,rfl,e⟩|⟨y,u,rfl,e⟩
   .exact nomatch e
   .injection e with e1 _;rw[e1]
 byValue:=λk v h=>by
  rcases CL h with⟨i,t,rfl,rfl⟩|⟨x,t,rfl,rfl⟩<;>rfl
 pyHash:=λhv h=>by
  rcases CL hv with⟨i,t,rfl,rfl⟩|⟨x,t,rfl,rfl⟩
  .exact wpAny_pyHash_int h
  .exact wpAny_pyHash_str h
 eqBool:=λhu hv h=>by
  rcases CL hu with⟨i,t,rfl,rfl⟩|⟨x,t,rfl,rfl⟩
  .rcases CL hv with⟨j,u,rfl,rfl⟩|⟨y,u,rfl,rfl⟩
   .rw[fQ]at h;exact wpAny_eqBool_int h
   .rw[gL]at h;exact AAC i t y u _ _ _ _ h
  .rcases CL hv with⟨j,u,rfl,rfl⟩|⟨y,u,rfl,rfl⟩
   .rw[gj]at h;exact AAD x t j u _ _ _ _ h
   .rw[dM]at h;exact wpAny_eqBool_str h
 «strs» :=λk x t v h=>by
  rcases CL h with⟨i,u,rfl,e⟩|⟨y,u,rfl,e⟩
  .exact nomatch e
  .injection e with e1 _
   subst e1
   cases v<;>rfl
theorem QL(prog:sf)(w:tU)(i:Int)(t:Tok):(C8 prog w).is (.inl i) (.int i t)=true:=U9 i t
theorem PZ(prog:sf)(w:tU)(x:Str)(t:Tok):(C8 prog w).is (.inr x) (.str x t)=true:=Vj x t
end L2
namespace L2
open PySem PySem.Spec PyProof.Rows
inductive V where
 |non|bl (b:sx)|int (i:Int)|str (x:Str)|byt (b:uE UInt8)|flt (b:UInt64)|ref (a:rY)|ty (n:vB)
 deriving DecidableEq
def RelV:V->rS->Prop
 | .non,u=>u=tP
 | .bl b,u=>u=yE b
 | .int i,u=>∃t,u=yB i t
 | .str x,u=>∃t,u=yC x t
 | .byt b,u=>∃t,u=Value.bytes b t
 | .flt b,u=>∃t,u=Value.float b t
 | .ref a,u=>u=si a
 | .ty n,u=>u=yF n
abbrev Vals:Wp V->Wp rS->Prop:=Paired RelV
theorem Vals.length{xs:Wp V}{us:Wp rS}(r:Vals xs us):xs.length=us.length:=Paired.length r
theorem Vals.get:∀{xs:Wp V} {us:Wp rS} {i:Nat} {x:V},Vals xs us->xs[i]?=Gc x->∃u,us[i]?=Gc u/\RelV x u
 |_,_,_,_,.nil,e=>by simp at e
 |_,_,0,_,.cons r _,e=>by simp at e;subst e;exact⟨_,rfl,r⟩
 |_,_,i+1,x,.cons _ t,e=>by
  obtain⟨u,h1,h2⟩:=Vals.get (i:=i) (x:=x) t (by simpa using e)
  exact⟨u,by simpa using h1,h2⟩
theorem Vals.set{x:V}{u:rS}(r:RelV x u):∀{xs:Wp V} {us:Wp rS} (i:Nat),Vals xs us->Vals (xs.set i x) (us.set i u)
 |_,_,_,.nil=>.nil
 |_,_,0,.cons _ t=>.cons r t
 |_,_,i+1,.cons q t=>.cons q (Vals.set r i t)
theorem Vals.append:∀{xs ys:Wp V} {us ws:Wp rS},Vals xs us->Vals ys ws->Vals (xs++ys) (us++ws)
 |_,_,_,_,.nil,s=>s
 |_,_,_,_,.cons r t,s=>.cons r (Vals.append t s)
theorem Vals.take:∀{xs:Wp V} {us:Wp rS} (n:Nat),Vals xs us->Vals (xs.take n) (us.take n)
 |_,_,0,_=>.nil
 |_,_,_+1,.nil=>.nil
 |_,_,n+1,.cons r t=>.cons r (Vals.take n t)
theorem Vals.drop:∀{xs:Wp V} {us:Wp rS} (n:Nat),Vals xs us->Vals (xs.drop n) (us.drop n)
 |_,_,0,r=>r
 |_,_,_+1,.nil=>.nil
 |_,_,n+1,.cons _ t=>Vals.drop n t
theorem Vals.none_of:∀{xs:Wp V} {us:Wp rS} {i:Nat},Vals xs us->xs[i]?=none->us[i]?=none:=λ{xs us i} r e=>by
 have h1:=r.length
 have h2:xs.length<=i:=vc.mp e
 exact vc.mpr (by lia)
def P2:rW V->rW rS->Prop
 |some v,Gc u=>RelV v u
 |none,none=>yk
 |_,_=>ur
def KV{κ:Type}:Wp (κ×V)->Wp (κ×rS)->Prop:=Paired λ(p:κ×V) (q:κ×rS)=>p.1=q.1/\RelV p.2 q.2
noncomputable def kV:Key->V
 | .inl i=>.int i
 | .inr x=>.str x
inductive HO where
 |lst (xs:Wp V)
 |tup (xs:Wp V)
 |dK (kvs:Wp (Key×V))|dT (kvs:Wp (Wp Key×V))
 |set (S:Int->sx) (n:Nat)
 |ins (C dx:rY) (fs:Wp (Str×V))
 |own (x:rY)
 |xd (fs:Wp (Str×V))
 |met (f x:rY)
 |rng (lo hi:Int)
 |frz (o:Obj) (u:HO)
 |tbl (ps:uE rS)
 |ext (φ:tT->Prop)
abbrev Hp:=rY->rW HO
noncomputable def upd(H:Hp)(a:rY)(o:HO):Hp:=λb=>if b=a then Gc o else H b
theorem Ac{H:Hp}{a:rY}{o:HO}:upd H a o a=Gc o:=by unfold upd;rw[sZ rfl]
theorem AU{H:Hp}{a b:rY}{o:HO}(h:b≠a):upd H a o b=H b:=by unfold upd;rw[sg h]
theorem BG{H:Hp}{a b:rY}{o:HO}(h:H a=Gc o)(h':H b=none):a≠b:=by
 intro e;subst e;rw[h]at h';cases h'
section
variable(P:sf)(w:tU)
def C0(H:Hp)(h:tT)(a:rY):HO->Prop
 | .lst xs=>xs.length<=sizeLine/\∃(its:Wp rS) (n:Nat),Vals xs its/\h.get? a=Gc {cls:=.type "list",data:=.seq its.toArray n}
 | .tup xs=>xs.length<=sizeLine/\∃its:Wp rS,Vals xs its/\IsTup h a its.toArray
 | .dK kvs=>kvs.length<=sizeLine/\(a==sysModules)=false/\∃vs,KV kvs vs/\h.DictOf (C8 P w) a vs
 | .dT kvs=>kvs.length<=sizeLine/\(a==sysModules)=false/\∃xs:Wp (Wp Key×rY×rS),
    Paired (λ(p:Wp Key×V) (q:Wp Key×rY×rS)=>p.1=q.1/\H q.2.1=Gc (.tup (p.1.map kV))/\RelV p.2 q.2.2) kvs xs/\
    ∃o es ep,h.get? a=Gc o/\o.ExactDict/\o.data=.dict es ep/\es.toList=xs.map (entryOfKey (tupleKind (C8 P w)))/\(xs.map (·.1)).Nodup
 | .set S n=>h.SetOf (intKind P w) a S n
 | .ins C dx fs=>H dx=Gc (.own a)/\fs.length<=1000/\dx≠a/\h.get? a=Gc (vN C dx)/\
    ∃mA,h.Ns1 dx mA/\(∀f,P2 (fs.lookup f) (mA f))/\PySem.Within mA (fs.map (·.1))
 | .own _=>∃o,h.get? a=Gc o
 | .xd fs=>∃mA,h.Ns1 a mA/\∀f,P2 (fs.lookup f) (mA f)
 | .rng lo hi=>∃t u v,h.get? a=Gc {cls:=.type "range",data:=.fields #[.int lo t,.int hi u,.int 1 v]}
 | .frz o u=>h.get? a=Gc o/\C0 H h a u
 | .tbl ps=>h.get? a=Gc {cls:=.none,data:=.fields ps}
 | .met f x=>h.get? a=Gc (yY (.ref f) (.ref x))
 | .ext φ=>φ h/\(∃o,h.get? a=Gc o)/\∀h1 h2:tT,φ h1->(∀o,h1.get? a=Gc o->h2.get? a=Gc o)->φ h2
def HOk(H:Hp)(h:tT):Prop:=∀a o,H a=Gc o->C0 P w H h a o
end
section
variable{P:sf}{w:tU}{H H':Hp}{h h':tT}{a:rY}{o:HO}
theorem C0.lt(x:C0 P w H h a o):a<h.objs.size:=by
 cases o with
 |lst xs=>obtain⟨_,_,_,_,e⟩:=x;exact sO e
 |tup xs=>obtain⟨_,_,_,p⟩:=x;exact p.lt
 |dK kvs=>obtain⟨_,_,_,_,o,_,_,e,_⟩:=x;exact sO e
 |dT kvs=>obtain⟨_,_,_,_,o,_,_,e,_⟩:=x;exact sO e
 |set S n=>obtain⟨o,_,_,_,e,_⟩:=x;exact sO e
 |ins C dx fs=>obtain⟨_,_,_,e,_⟩:=x;exact sO e
 |own y=>obtain⟨_,e⟩:=x;exact sO e
 |xd fs=>obtain⟨_,⟨_,_,_,e,_⟩,_⟩:=x;exact sO e
 |rng lo hi=>obtain⟨_,_,_,e⟩:=x;exact sO e
 |frz ob u=>obtain⟨e,_⟩:=x;exact sO e
 |tbl ps=>exact sO (show h.get? a=Gc _ from x)
 |met f y=>exact sO (show h.get? a=Gc _ from x)
 |ext φ=>obtain⟨_,⟨_,e⟩,_⟩:=x;exact sO e
theorem Paired.oB{α β:Type}{F G:α->β->Prop}:∀{l₁:Wp α} {l₂:Wp β},Paired F l₁ l₂->(∀a b,F a b->G a b)->Paired G l₁ l₂
 |_,_,.nil,_=>.nil
 |_,_,.cons r t,f=>.cons (f _ _ r) (Paired.oB t f)
theorem C0.Vt(x:C0 P w H h a o)(k:∀b u,(b=a\/H b=Gc (.own a))->h.get? b=Gc u->h'.get? b=Gc u)(ho:∀b,H b=Gc (.own a)->H' b=Gc (.own a))(ht:∀b xs,H b=Gc (.tup xs)->H' b=Gc (.tup xs)):C0 P w H' h' a o:=by
 induction o with
 |lst xs=>obtain⟨z,its,n,r,e⟩:=x;exact⟨z,its,n,r,k _ _ (.inl rfl) e⟩
 |tup xs=>obtain⟨z,its,r,ob,e,c⟩:=x;exact⟨z,its,r,ob,k _ _ (.inl rfl) e,c⟩
 |dK kvs=>obtain⟨z,y,vs,r,ob,es,ep,e,c⟩:=x;exact⟨z,y,vs,r,ob,es,ep,k _ _ (.inl rfl) e,c⟩
 |dT kvs=>
  obtain⟨z,y,xs,r,ob,es,ep,e,c⟩:=x
  exact⟨z,y,xs,Paired.oB r λp q z=>⟨z.1,ht _ _ z.2.1,z.2.2⟩,ob,es,ep,k _ _ (.inl rfl) e,c⟩
 |set S n=>obtain⟨ob,es,ep,t,e,c⟩:=x;exact⟨ob,es,ep,t,k _ _ (.inl rfl) e,c⟩
 |ins C dx fs=>
  obtain⟨d,z,ne,e,mA,⟨od,es,ep,e2,c⟩,r⟩:=x
  exact⟨ho _ d,z,ne,k _ _ (.inl rfl) e,mA,⟨od,es,ep,k _ _ (.inr d) e2,c⟩,r⟩
 |own y=>obtain⟨ob,e⟩:=x;exact⟨ob,k _ _ (.inl rfl) e⟩
 |xd fs=>obtain⟨mA,⟨od,es,ep,e,c⟩,r⟩:=x;exact⟨mA,⟨od,es,ep,k _ _ (.inl rfl) e,c⟩,r⟩
 |rng lo hi=>obtain⟨t,u,v,e⟩:=x;exact⟨t,u,v,k _ _ (.inl rfl) e⟩
 |frz ob u ih=>obtain⟨e,q⟩:=x;exact⟨k _ _ (.inl rfl) e,ih q⟩
 |tbl ps=>
  have e:h.get? a=Gc {cls:=.none,data:=.fields ps}:=x
  show h'.get? a=Gc {cls:=.none,data:=.fields ps}
  exact k a _ (.inl rfl) e
 |met f y=>
  have e:h.get? a=Gc (yY (.ref f) (.ref y)):=x
  show h'.get? a=Gc (yY (.ref f) (.ref y))
  exact k a _ (.inl rfl) e
 |ext φ=>obtain⟨p,⟨o,e⟩,st⟩:=x;exact⟨st _ _ p λo q=>k _ _ (.inl rfl) q,⟨o,k _ _ (.inl rfl) e⟩,st⟩
theorem HOk.lt(x:HOk P w H h)(e:H a=Gc o):a<h.objs.size:=(x a o e).lt
theorem HOk.fresh(x:HOk P w H h)(e:h.objs.size<=a):H a=none:=by
 cases q:H a with
 |none=>rfl
 |some u=>exact absurd (rz (x.lt q) e) (uY _)
theorem HOk.kept(x:HOk P w H h)(k:∀b u,h.get? b=Gc u->h'.get? b=Gc u):HOk P w H h':=λa o e=>
 (x a o e).Vt (λb u _ q=>k b u q) (λ_ q=>q) λ_ _ q=>q
theorem HOk.laid(x:HOk P w H h)(k:∀b u,h.get? b=Gc u->h'.get? b=Gc u)(hp:h.objs.size<=a)(new:C0 P w (upd H a o) h' a o):HOk P w (upd H a o) h':=λb u e=>by
 have hn:=x.fresh hp
 by_cases hb:b=a
 .subst hb;rw[Ac]at e;cases e;exact new
 .rw[AU hb]at e
  exact(x b u e).Vt (λc v _ q=>k c v q) (λc q=>by rw[AU (BG q hn)];exact q) λc xs q=>by rw[AU (BG q hn)];exact q
end
def Rd(H:Hp)(a:rY)(u:HO):Prop:=H a=Gc u\/∃o,H a=Gc (.frz o u)
theorem Rd.ok{P:sf}{w:tU}{H:Hp}{h:tT}{a:rY}{u:HO}(r:Rd H a u)(x:HOk P w H h):C0 P w H h a u:=by
 rcases r with r|⟨o,r⟩
 .exact x a u r
 .obtain⟨_,q⟩:=x a _ r
  exact q
def Mut:rW HO->Prop
 |some (.lst _)=>yk
 |some (.dK _)=>yk
 |some (.dT _)=>yk
 |some (.set _ _)=>yk
 |some (.ins _ _ _)=>yk
 |some (.ext _)=>yk
 |_=>ur
section
variable{P:sf}{w:tU}{H:Hp}{h h':tT}{x e:rY}{o':HO}
theorem HOk.write(ok:HOk P w H h)(mu:Mut (H x))(he:e=x\/H e=Gc (.own x))(k:∀b u,b≠e->h.get? b=Gc u->h'.get? b=Gc u)(heo:∃u,h'.get? e=Gc u)(new:C0 P w (upd H x o') h' x o'):HOk P w (upd H x o') h':=λb u q=>by
 have nown:∀c y,H c=Gc (.own y)->c≠x:=λc y r z=>by subst z;rw[r]at mu;exact mu
 have ntup:∀c xs,H c=Gc (.tup xs)->c≠x:=λc xs r z=>by subst z;rw[r]at mu;exact mu
 by_cases hb:b=x
 .subst hb;rw[Ac]at q;cases q;exact new
 .rw[AU hb]at q
  by_cases hbe:b=e
  .have q':H b=Gc (.own x):=by
    rcases he with z|z
    .exact absurd (hbe.trans z) hb
    .rw[hbe];exact z
   rw[q]at q';cases q'
   obtain⟨v,hv⟩:=heo
   exact⟨v,by rw[hbe];exact hv⟩
  .refine(ok b u q).Vt (λc v hc r=>k c v ?_ r) (λc r=>by rw[AU (nown c b r)];exact r) λc xs r=>by rw[AU (ntup c xs r)];exact r
   rcases hc with rfl|hc
   .exact hbe
   .rintro rfl
    rcases he with z|z
    .exact nown c b hc z
    .rw[hc]at z;cases z;exact hb rfl
end
structure Un(fs ex:Wp rY)(H H':Hp)(h h':tT):Prop where
 keep:∀b o,h.get? b=Gc o->H b=none->b∉fs->b∉ex->h'.get? b=Gc o
 slot:∀b o,h.get? b=Gc o->H b=none->b∈fs->b∉ex->∃sl,h'.get? b=Gc {o with slots:=sl}
 free:∀b o,h.get? b=Gc o->H b=none->b∉ex->H' b=none
 there:∀b o,h.get? b=Gc o->b∉ex->∃o',h'.get? b=Gc o'
 Xn:∀b xs,H b=Gc (.tup xs)->H' b=Gc (.tup xs)
 UB:∀b o u,H b=Gc (.frz o u)->H' b=Gc (.frz o u)
 Vs:∀b ps,H b=Gc (.tbl ps)->∃more,H' b=Gc (.tbl (ps++more))
section
variable{fs fs' ex ex':Wp rY}{H H1 H2:Hp}{h h1 h2 h':tT}{a x e:rY}{o:HO}
theorem Un.any(u:Un fs ex H H1 h h1){b:rY}{ob:Obj}(q:h.get? b=Gc ob)(n:H b=none)(hx:b∉ex):∃sl,h1.get? b=Gc {ob with slots:=sl}:=by
 by_cases hb:b∈fs
 .exact u.slot b ob q n hb hx
 .exact⟨ob.slots,u.keep b ob q n hb hx⟩
theorem Un.kept(k:∀b u,h.get? b=Gc u->h'.get? b=Gc u):Un fs ex H H h h':=
 ⟨λb ob q _ _ _=>k b ob q,λb ob q _ _ _=>⟨ob.slots,k b ob q⟩,λ_ _ _ n _=>n,λb ob q _=>⟨ob,k b ob q⟩,λ_ _ q=>q,λ_ _ _ q=>q,λ_ ps q=>⟨#[],by rw[q];simp⟩⟩
theorem Un.refl:Un fs ex H H h h:=Un.kept λ_ _ q=>q
theorem Un.laid(k:∀b u,h.get? b=Gc u->h'.get? b=Gc u)(hp:h.objs.size<=a)(hn:H a=none):Un fs ex H (upd H a o) h h' where
 keep:=λb u q _ _ _=>k b u q
 slot:=λb u q _ _ _=>⟨u.slots,k b u q⟩
 free:=λb u q n _=>by rw[AU (tJ (rz (sO q) hp))];exact n
 there:=λb u q _=>⟨u,k b u q⟩
 Xn:=λb xs q=>by rw[AU (BG q hn)];exact q
 UB:=λb u xs q=>by rw[AU (BG q hn)];exact q
 Vs:=λb ps q=>⟨#[],by rw[AU (BG q hn),q];simp⟩
theorem Un.write(mu:Mut (H x))(he:e=x\/H e=Gc (.own x))(k:∀b u,b≠e->h.get? b=Gc u->h'.get? b=Gc u)(heo:∃u,h'.get? e=Gc u):Un fs ex H (upd H x o) h h':=by
 have hx:∀b,H b=none->b≠x:=λb n z=>by subst z;rw[n]at mu;exact mu
 have hb:∀b,H b=none->b≠e:=λb n z=>by
  subst z
  rcases he with r|r
  .exact hx b n r
  .rw[n]at r;cases r
 have hm:∀b u,H b=Gc u->¬Mut (Gc u)->b≠x:=λb u q nm z=>by subst z;rw[q]at mu;exact nm mu
 refine⟨λb u q n _ _=>k b u (hb b n) q,λb u q n _ _=>⟨u.slots,k b u (hb b n) q⟩,λb u q n _=>by rw[AU (hx b n)];exact n,λb u q _=>?_,
  λb xs q=>by rw[AU (hm b _ q λz=>z)];exact q,λb u xs q=>by rw[AU (hm b _ q λz=>z)];exact q,λb ps q=>⟨#[],by rw[AU (hm b _ q λz=>z),q];simp⟩⟩
 by_cases hbe:b=e
 .subst hbe;exact heo
 .exact⟨u,k b u hbe q⟩
end
noncomputable def trk(h:tT)(H:Hp):Wp rY:=(tj h.objs.size).filter λa=>(H a).isSome
noncomputable def Vr(h:tT)(H:Hp):tT:=PySem.W.hideAll h (trk h H)
theorem UZ(h:tT)(H:Hp):(Vr h H).objs.size=h.objs.size:=PySem.W.hideAll_size _ _
theorem X0{h:tT}{H:Hp}{b:rY}{o:Obj}(e:h.get? b=Gc o)(n:H b=none):(Vr h H).get? b=Gc o:=
 PySem.W.hideAll_get _ e λhm=>by
  have q:(H b).isSome=true:=(we.mp hm).2
  rw[n]at q;simp at q
theorem Zt{h:tT}{H:Hp}{b:rY}{o:Obj}(e:(Vr h H).get? b=Gc o):h.get? b=Gc o/\H b=none:=by
 have e':h.get? b=Gc o:=PySem.W.of_hideAll (trk h H) e
 refine⟨e',?_⟩
 cases q:H b with
 |none=>rfl
 |some x=>
  have hm:b∈trk h H:=we.mpr ⟨yG.mpr (sO e'),by simp[q]⟩
  have z:(Vr h H).get? b=none:=PySem.W.hideAll_none (trk h H) hm
  rw[z]at e;cases e
noncomputable def cS(g h:tT)(L:rY):Wp (rY×Obj):=(tj h.objs.size).filterMap λa=>if a=L\/(g.get? a).isSome=true then none else(h.get? a).map λo=>(a,o)
noncomputable def rest(g h:tT)(L d:rY):Wp (rY×Obj):=(cS g h L).filter λp=>decide (p.1≠d)
end L2
namespace L2
open PySem PySem.Spec PyProof.Rows
structure Mod(K:W1)(mg:Str->rW rS)(base:tT):Prop where
 kin:K.In base
 glob:base.Ns mainGlobals mg
 blt:∃mb,base.Ns builtinsNs mb/\∀x:Str,x≠ "__name__"->mb x=bootBuiltins x
 nolimit:base.NoLimit
structure Cx where
 prog:sf
 w:tU
 K:W1
 mg:Str->rW rS
 base:tT
 A:tN
 N:Wp Str
 s₀:rX
 H₀:Hp
 env:Env
 outer:Wp Env
 stack:Wp Env
 ex:Wp rY
 fn:Str->sx
 calm:sx
 pn:Wp (rY×Obj)
 xe:rS->rX->Prop
noncomputable def frs(l:Wp Env):Wp rY:=l.filterMap (·.frame)
abbrev Cx.fs(X:Cx):Wp rY:=frs X.outer
def Vis(sc:uT)(x:Str):Prop:=sc.names.lookup x=Gc .local\/sc.names.lookup x=Gc .cell\/sc.names.lookup x=Gc .free
def Loc(sc:uT)(x:Str):Prop:=sc.names.lookup x=Gc .local\/sc.names.lookup x=Gc .cell
def Look(env:Env)(h:tT)(m:Str->rW rS)(x:Str)(u:rS):Prop:=
 (env.kindOf x=Gc .local/\m x=Gc u)\/((env.kindOf x=Gc .cell\/env.kindOf x=Gc .free)/\∃c,env.cells.lookup x=Gc c/\h.IsCell c (Gc u))
structure Cx.Ok(X:Cx):Prop where
 mod:Mod X.K X.mg X.base
 kind:X.env.scope.kind=.function
 glob:X.env.globals=mainGlobals
 blt:X.env.builtins=builtinsNs
 above:X.s₀.heap.objs.size<=X.env.locals
 inj:∀x y c,X.env.cells.lookup x=Gc c->X.env.cells.lookup y=Gc c->x=y
 has:∀x,(X.env.kindOf x=Gc .cell\/X.env.kindOf x=Gc .free)->∃c,X.env.cells.lookup x=Gc c
 cab:∀x c,X.fn x=true->X.env.cells.lookup x=Gc c->X.s₀.heap.objs.size<=c
 hd:X.calm=true->X.A.handled=none
 frames:X.A.frames=Gc X.stack
 stk:X.stack=X.outer\/(X.stack=X.env::X.outer/\X.env.frame=Gc X.env.locals)
 exf:∀b∈X.ex,b≠X.env.locals/\∀x c,X.env.cells.lookup x=Gc c->c≠b
 bs:∀b o,X.base.get? b=Gc o->X.s₀.heap.get? b=Gc o/\X.H₀ b=none
 bsz:X.base.objs.size<=X.s₀.heap.objs.size
 ZF:∀b o,X.base.get? b=Gc o->b∉X.ex
 aV:∀b∈X.ex,b∉X.fs
 Pp:X.s₀.heap.FunFrames X.base X.outer
 frf:∀b∈X.fs,X.H₀ b=none
structure Inv(X:Cx)(pins:Wp (rY×Obj))(σ:Wp (rW V))(H:Hp)(s:rX):Prop where
 ok:X.Ok
 os:s.os=X.s₀.os
 bare:wo s.gens
 base:Un X.fs X.ex X.H₀ H X.s₀.heap s.heap
 loc:∃m,s.heap.Ns X.env.locals m/\∀(i:Nat) (x:Str) (v:V),X.N[i]?=Gc x->σ[i]?=Gc (Gc v)->Vis X.env.scope x->∃u,RelV v u/\Look X.env s.heap m x u
 cell:∀x c,X.env.cells.lookup x=Gc c->∃v,s.heap.IsCell c v
 free:H X.env.locals=none
 JD:∀x c,X.env.cells.lookup x=Gc c->H c=none
 pin:∀p∈X.pn++pins,s.heap.get? p.1=Gc p.2/\H p.1=none/\p.1≠X.env.locals/\p.1∉X.fs/\∀v,p.2.data≠.cell v
 hok:HOk X.prog X.w H s.heap
 len:σ.length=X.N.length
section
variable{X:Cx}{pins:Wp (rY×Obj)}{σ:Wp (rW V)}{H H':Hp}{s:rX}{h':tT}
theorem Cx.Ok.pq(ok:X.Ok){b:rY}{o:Obj}(e:X.base.get? b=Gc o):b∉X.fs:=λhb=>by
 have:=(ok.Pp.mem hb).1
 rw[e]at this;cases this
theorem Inv.bs(I:Inv X pins σ H s):∀b o,X.base.get? b=Gc o->s.heap.get? b=Gc o/\H b=none:=λb o e=>
 ⟨I.base.keep b o (I.ok.bs b o e).1 (I.ok.bs b o e).2 (I.ok.pq e) (I.ok.ZF b o e),I.base.free b o (I.ok.bs b o e).1 (I.ok.bs b o e).2 (I.ok.ZF b o e)⟩
theorem Inv.bk(I:Inv X pins σ H s):∀b o,X.base.get? b=Gc o->s.heap.get? b=Gc o:=λb o e=>(I.bs b o e).1
theorem Inv.mod(I:Inv X pins σ H s):Mod X.K X.mg X.base:=I.ok.mod
theorem Inv.kIn(I:Inv X pins σ H s):X.K.In s.heap:=I.ok.mod.kin.keeps I.bk
theorem Inv.nolimit(I:Inv X pins σ H s):s.heap.NoLimit:=I.ok.mod.nolimit.keeps I.bk
theorem Inv.lt(I:Inv X pins σ H s):X.env.locals<s.heap.objs.size:=let⟨_,hn,_⟩:=I.loc;hn.lt
theorem Inv.sz(I:Inv X pins σ H s):X.s₀.heap.objs.size<=s.heap.objs.size:=sI I.ok.above (xu I.lt)
theorem Inv.qQ(I:Inv X pins σ H s){a:rY}(h:s.heap.objs.size<=a):a∉X.fs:=λhb=>by
 obtain⟨_,o,ho,_⟩:=I.ok.Pp.mem hb
 exact absurd (rz (sO ho) (sI I.sz h)) (uY _)
theorem Inv.cne(I:Inv X pins σ H s):∀x c,X.env.cells.lookup x=Gc c->c≠X.env.locals:=λx c e z=>by
 obtain⟨v,o,ho,hd⟩:=I.cell x c e
 obtain⟨m,⟨o',es,ep,ho',hd',_⟩,_⟩:=I.loc
 rw[z,ho']at ho;cases ho;rw[hd']at hd;cases hd
theorem Inv.Pp(I:Inv X pins σ H s):s.heap.FunFrames X.base X.outer:=by
 have all:∀(l:Wp Env),(∀b∈frs l,b∈X.fs)->X.s₀.heap.FunFrames X.base l->s.heap.FunFrames X.base l:=by
  intro l
  induction l with
  |nil=>intro _ _;trivial
  |cons env r ih=>
   intro hs hl
   obtain⟨hk,⟨L,o,hf,hn,ho,hd⟩,hr⟩:=hl
   have hL:L∈X.fs:=hs L (by unfold frs;rw[tQ,hf];exact sN)
   obtain⟨sl,e⟩:=I.base.slot L o ho (I.ok.frf L hL) hL λz=>I.ok.aV L z hL
   exact⟨hk,⟨L,_,hf,hn,e,hd⟩,ih (λb hb=>hs b (by unfold frs;rw[tQ,hf];exact rg _ hb)) hr⟩
 exact all X.outer (λ_ hb=>hb) I.ok.Pp
theorem Inv.stack(I:Inv X pins σ H s):s.heap.FunFrames X.base X.stack:=by
 rcases I.ok.stk with e|⟨e,hf⟩
 .rw[e];exact I.Pp
 .rw[e]
  obtain⟨m,hn,_⟩:=I.loc
  refine .cons (by rw[I.ok.kind];decide) hf hn ?_ I.Pp
  exact Heap.get?_none_of_le (sI I.ok.bsz I.ok.above)
theorem Inv.VT(I:Inv X pins σ H s):∀b∈frs X.stack,b∈X.env.locals::X.fs:=λb hb=>by
 rcases I.ok.stk with e|⟨e,hf⟩
 .rw[e]at hb;exact rg _ hb
 .rw[e]at hb
  unfold frs at hb
  rw[tQ,hf]at hb
  exact hb
theorem Inv.Ph(I:Inv X pins σ H s):∀b∈frs X.stack,H b=none:=λb hb=>by
 rcases rZ.mp (I.VT b hb)with e|hb
 .rw[e];exact I.free
 .obtain⟨_,o,ho,_⟩:=I.ok.Pp.mem hb
  exact I.base.free b o ho (I.ok.frf b hb) λz=>I.ok.aV b z hb
theorem Inv.step{g':uE GenState}{t':Nat}{d':Drawn}{ch:Wp rY}(I:Inv X pins σ H s)(hch:∀b∈ch,(b∈X.ex\/X.s₀.heap.objs.size<=b)/\b≠X.env.locals/\(∀x c,X.env.cells.lookup x=Gc c->c≠b)/\∀p∈X.pn++pins,p.1≠b)(keep:∀b o,b≠X.env.locals->b∉X.fs->b∉ch->s.heap.get? b=Gc o->H b=none->h'.get? b=Gc o)(slot:∀b o,b≠X.env.locals->b∈X.fs->b∉ch->s.heap.get? b=Gc o->H b=none->∃sl,h'.get? b=Gc {o with slots:=sl})(free:∀b o,b∉ch->s.heap.get? b=Gc o->H b=none->H' b=none)(there:∀b o,b∉ch->s.heap.get? b=Gc o->∃o',h'.get? b=Gc o')(Xn:∀b xs,H b=Gc (.tup xs)->H' b=Gc (.tup xs))(UB:∀b o u,H b=Gc (.frz o u)->H' b=Gc (.frz o u))(Vs:∀b ps,H b=Gc (.tbl ps)->∃more,H' b=Gc (.tbl (ps++more)))(ns:∀m,s.heap.Ns X.env.locals m->h'.Ns X.env.locals m)(hok:HOk X.prog X.w H' h')(hg:wo g'):Inv X pins σ H' {s with heap:=h',gens:=g',drawn:=d',toks:=t'}:=by
 have neL:∀b o,X.s₀.heap.get? b=Gc o->b≠X.env.locals:=λb o e=>tJ (rz (sO e) I.ok.above)
 have neC:∀b o,X.s₀.heap.get? b=Gc o->b∉X.ex->b∉ch:=λb o e hx hb=>by
  rcases(hch b hb).1 with z|z
  .exact hx z
  .exact absurd (rz (sO e) z) (uY _)
 have cellK:∀x c,X.env.cells.lookup x=Gc c->∀v,s.heap.IsCell c v->h'.IsCell c v:=λx c e v ⟨o,ho,hd⟩=>by
  have nch:c∉ch:=λz=>(hch c z).2.2.1 x c e rfl
  by_cases hc:c∈X.fs
  .obtain⟨sl,q⟩:=slot c o (I.cne x c e) hc nch ho (I.JD x c e)
   exact⟨_,q,hd⟩
  .exact⟨o,keep c o (I.cne x c e) hc nch ho (I.JD x c e),hd⟩
 refine⟨I.ok,I.os,hg,⟨λb o e n hb hx=>?_,λb o e n hb hx=>?_,λb o e n hx=>?_,λb o e hx=>?_,λb xs e=>Xn b xs (I.base.Xn b xs e),λb o xs e=>UB b o xs (I.base.UB b o xs e),λb ps e=>?_⟩,?_,λx c e=>?_,?_,λx c e=>?_,λp hp=>?_,hok,I.len⟩
 .exact keep b o (neL b o e) hb (neC b o e hx) (I.base.keep b o e n hb hx) (I.base.free b o e n hx)
 .obtain⟨sl,e1⟩:=I.base.slot b o e n hb hx
  obtain⟨sl',e2⟩:=slot b _ (neL b o e) hb (neC b o e hx) e1 (I.base.free b o e n hx)
  exact⟨sl',e2⟩
 .obtain⟨o',e1⟩:=I.base.there b o e hx
  exact free b o' (neC b o e hx) e1 (I.base.free b o e n hx)
 .obtain⟨o',e1⟩:=I.base.there b o e hx
  exact there b o' (neC b o e hx) e1
 .obtain⟨m1,e1⟩:=I.base.Vs b ps e
  obtain⟨m2,e2⟩:=Vs b _ e1
  exact⟨m1++m2,by rw[e2,Array.append_assoc]⟩
 .obtain⟨m,hn,hl⟩:=I.loc
  refine⟨m,ns m hn,λi x v e1 e2 e3=>?_⟩
  obtain⟨u,r,l⟩:=hl i x v e1 e2 e3
  refine⟨u,r,?_⟩
  rcases l with l|⟨k,c,e,z⟩
  .exact .inl l
  .exact .inr ⟨k,c,e,cellK x c e _ z⟩
 .obtain⟨v,z⟩:=I.cell x c e
  exact⟨v,cellK x c e v z⟩
 .obtain⟨m,⟨o,_,_,ho,_⟩,_⟩:=I.loc
  exact free _ o (λz=>(hch _ z).2.1 rfl) ho I.free
 .obtain⟨v,o,ho,hd⟩:=I.cell x c e
  exact free c o (λz=>(hch c z).2.2.1 x c e rfl) ho (I.JD x c e)
 .obtain⟨e,n,ne,nf,d⟩:=I.pin p hp
  have nch:p.1∉ch:=λz=>(hch p.1 z).2.2.2 p hp rfl
  exact⟨keep p.1 p.2 ne nf nch e n,free p.1 p.2 nch e n,ne,nf,d⟩
theorem Inv.un{t':Nat}(I:Inv X pins σ H s)(u:Un X.fs [] H H' s.heap h')(hok:HOk X.prog X.w H' h'):Inv X pins σ H' {s with heap:=h',toks:=t'}:=by
 obtain⟨m,⟨o,es,ep,ho,r⟩,_⟩:=id I.loc
 obtain⟨sl,hL⟩:=u.any ho I.free (by simp)
 exact I.step (g':=s.gens) (d':=s.drawn) (ch:=[]) (λ_ z=>nomatch z) (λb o _ hb _ e n=>u.keep b o e n hb (by simp)) (λb o _ hb _ e n=>u.slot b o e n hb (by simp)) (λb o _ e n=>u.free b o e n (by simp)) (λb o _ e=>u.there b o e (by simp)) u.Xn u.UB u.Vs (λm' hm=>by
  obtain⟨o',es',ep',ho',r'⟩:=hm
  rw[ho]at ho';cases ho'
  exact⟨_,es',ep',hL,r'⟩) hok I.bare
theorem Inv.call{g':uE GenState}{t':Nat}{d':Drawn}{ch:Wp rY}(I:Inv X pins σ H s)(u:Un (frs X.stack) ch H H' s.heap h')(hok:HOk X.prog X.w H' h')(hg:wo g')(hch:∀b∈ch,(b∈X.ex\/X.s₀.heap.objs.size<=b)/\b≠X.env.locals/\(∀x c,X.env.cells.lookup x=Gc c->c≠b)/\∀p∈X.pn++pins,p.1≠b):Inv X pins σ H' {s with heap:=h',gens:=g',drawn:=d',toks:=t'}:=by
 obtain⟨m,⟨o,es,ep,ho,r⟩,_⟩:=id I.loc
 obtain⟨sl,hL⟩:=u.any ho I.free λz=>(hch _ z).2.1 rfl
 exact I.step (ch:=ch) hch (λb o hL hb hc e n=>u.keep b o e n (λz=>(rZ.mp (I.VT b z)).elim hL hb) hc) (λb o _ _ hc e n=>u.any e n hc) (λb o hc e n=>u.free b o e n hc) (λb o hc e=>u.there b o e hc) u.Xn u.UB u.Vs (λm' hm=>by
  obtain⟨o',es',ep',ho',r'⟩:=hm
  rw[ho]at ho';cases ho'
  exact⟨_,es',ep',hL,r'⟩) hok hg
theorem Inv.turned{t':Nat}{it:rY}(I:Inv X pins σ H s)(k:∀b o,b≠it->s.heap.get? b=Gc o->h'.get? b=Gc o)(hn:H it=none)(hL:it≠X.env.locals)(h1:it∈X.ex\/X.s₀.heap.objs.size<=it)(h2:∀x c,X.env.cells.lookup x=Gc c->c≠it)(h3:∀p∈X.pn++pins,p.1≠it):Inv X pins σ H {s with heap:=h',toks:=t'}:=by
 have nit:∀b u,H b=Gc u->b≠it:=λb u e z=>by rw[z,hn]at e;cases e
 refine I.step (g':=s.gens) (d':=s.drawn) (ch:=[it]) (λb hb=>?_) (λb o _ _ hc e _=>k b o (λz=>hc (by simp[z])) e) (λb o _ _ hc e _=>⟨o.slots,k b o (λz=>hc (by simp[z])) e⟩) (λ_ _ _ _ n=>n)
  (λb o hc e=>⟨o,k b o (λz=>hc (by simp[z])) e⟩) (λ_ _ e=>e) (λ_ _ _ e=>e) (λb ps e=>⟨#[],by rw[e];simp⟩) (λm hm=>?_) (λb u e=>?_) I.bare
 .have e:b=it:=by simpa using hb
  subst e
  exact⟨h1,hL,h2,h3⟩
 .obtain⟨o,es,ep,ho,r⟩:=hm
  exact⟨o,es,ep,k _ o (uX hL) ho,r⟩
 .refine(I.hok b u e).Vt (λc v hc q=>k c v ?_ q) (λ_ q=>q) λ_ _ q=>q
  rcases hc with z|z
  .rw[z];exact nit b u e
  .exact nit c _ z
theorem Inv.tok(I:Inv X pins σ H s)(t:Nat):Inv X pins σ H {s with toks:=t}:=I.un (h':=s.heap) (t':=t) Un.refl I.hok
theorem Inv.kept{t':Nat}(I:Inv X pins σ H s)(k:∀b u,s.heap.get? b=Gc u->h'.get? b=Gc u):Inv X pins σ H {s with heap:=h',toks:=t'}:=I.un (Un.kept k) (I.hok.kept k)
theorem Inv.laid{a:rY}{o:HO}{t':Nat}(I:Inv X pins σ H s)(k:∀b u,s.heap.get? b=Gc u->h'.get? b=Gc u)(hp:s.heap.objs.size<=a)(new:C0 X.prog X.w (upd H a o) h' a o):Inv X pins σ (upd H a o) {s with heap:=h',toks:=t'}:=I.un (Un.laid k hp (I.hok.fresh hp)) (I.hok.laid k hp new)
theorem Inv.write{x e:rY}{o:HO}{t':Nat}(I:Inv X pins σ H s)(mu:Mut (H x))(he:e=x\/H e=Gc (.own x))(k:∀b u,b≠e->s.heap.get? b=Gc u->h'.get? b=Gc u)(heo:∃u,h'.get? e=Gc u)(new:C0 X.prog X.w (upd H x o) h' x o):Inv X pins σ (upd H x o) {s with heap:=h',toks:=t'}:=I.un (Un.write mu he k heo) (I.hok.write mu he k heo new)
theorem Inv.TB{pins':Wp (rY×Obj)}(I:Inv X pins σ H s)(h:∀p∈pins',s.heap.get? p.1=Gc p.2/\H p.1=none/\p.1≠X.env.locals/\p.1∉X.fs/\∀v,p.2.data≠.cell v):Inv X pins' σ H s:=
 ⟨I.ok,I.os,I.bare,I.base,I.loc,I.cell,I.free,I.JD,λp hp=>(sX.mp hp).elim (λz=>I.pin p (xg _ z)) (h p),I.hok,I.len⟩
theorem Qd{N:Wp Str}(hN:N.Nodup){i j:Nat}{x:Str}(a:N[i]?=Gc x)(b:N[j]?=Gc x):i=j:=by
 obtain⟨h1,e1⟩:=r9.mp a
 obtain⟨h2,e2⟩:=r9.mp b
 exact(List.getElem_inj hN).mp (e1.trans e2.symm)
theorem O2{M:Model}{A:tN}{E:rS->rX->Prop}{i:Nat}{x:Str}{v:V}{u:rS}{Q:Unit->rX->Prop}(I:Inv X pins σ H s)(hN:X.N.Nodup)(hi:X.N[i]?=Gc x)(hx:Loc X.env.scope x)(r:RelV v u)(h:∀s',Inv X pins (σ.set i (Gc v)) H s'->(∃a,wM a s.heap s'.heap/\(a=X.env.locals\/X.env.cells.lookup x=Gc a))->Q () s')(hf:X.fn x=true\/X.env.scope.names.lookup x=Gc .local:=by first|exact .inl rfl|exact .inr rfl|assumption):wpAny M A (storeName X.env x u) Q E s:=by
 obtain⟨m,hn,hl⟩:=id I.loc
 have hcls:(X.env.scope.kind== .class||(X.env.scope.kind== .module && X.env.locals !=X.env.globals))=false:=by rw[I.ok.kind];rfl
 have hiσ:i<σ.length:=by rw[I.len];exact(r9.mp hi).1
 have cne:=I.cne
 have tracked:∀{a:rY} {h':tT},(∃o,s.heap.get? a=Gc o/\H a=none)->wM a s.heap h'->HOk X.prog X.w H h':=λ{a h'} ha hs b ob e=>by
  obtain⟨_,_,hfree⟩:=ha
  refine(I.hok b ob e).Vt (λc w' hc q=>(hs.2 c ?_).trans q) (λ_ q=>q) λ_ _ q=>q
  rintro rfl
  rcases hc with rfl|hc
  .rw[hfree]at e;cases e
  .rw[hfree]at hc;cases hc
 rcases hx with hk|hk
 .refine wpAny_storeName_local hk hn (λh' hn' hs=>?_) hcls
  obtain⟨oL,_,_,hoL,_⟩:=id hn
  refine h _ ⟨I.ok,I.os,I.bare,⟨λb o e n hb hx=>?_,λb o e n hb hx=>?_,I.base.free,λb o e hx=>?_,I.base.Xn,I.base.UB,I.base.Vs⟩,⟨_,hn',λj y v' e1 e2 e3=>?_⟩,λy c e=>?_,I.free,I.JD,λp hp=>?_,tracked ⟨oL,hoL,I.free⟩ hs,by simpa using I.len⟩ ⟨_,hs,.inl rfl⟩
  .exact(hs.2 b (tJ (rz (sO e) I.ok.above))).trans (I.base.keep b o e n hb hx)
  .obtain⟨sl,e1⟩:=I.base.slot b o e n hb hx
   exact⟨sl,(hs.2 b (tJ (rz (sO e) I.ok.above))).trans e1⟩
  .obtain⟨o',e1⟩:=I.base.there b o e hx
   exact⟨o',(hs.2 b (tJ (rz (sO e) I.ok.above))).trans e1⟩
  .by_cases hj:j=i
   .subst hj
    rw[hi]at e1;cases e1
    rw[sP hiσ]at e2
    cases e2
    exact⟨u,r,.inl ⟨hk,by simp⟩⟩
   .rw[rm (uX hj)]at e2
    obtain⟨u',r',q⟩:=hl j y v' e1 e2 e3
    refine⟨u',r',?_⟩
    rcases q with⟨k,e⟩|⟨k,c,e,z⟩
    .refine .inl ⟨k,?_⟩
     have:y≠x:=λe=>hj (Qd hN e1 (e▸hi))
     simp[this,e]
    .exact .inr ⟨k,c,e,z.sameBut hs (cne y c e)⟩
  .obtain⟨w',z⟩:=I.cell y c e
   exact⟨w',z.sameBut hs (cne y c e)⟩
  .obtain⟨e,n,ne,nf,d⟩:=I.pin p hp
   exact⟨(hs.2 p.1 ne).trans e,n,ne,nf,d⟩
 .have hfn:X.fn x=true:=by
   rcases hf with z|z
   .exact z
   .rw[z]at hk;cases hk
  obtain⟨c,hc⟩:=I.ok.has x (.inl hk)
  obtain⟨w',z⟩:=I.cell x c hc
  refine wpAny_storeName_cell I.ok.kind hk hc z (λh' hc' hs=>?_)
  obtain⟨oc,hoc,hocd⟩:=id z
  refine h {s with heap:=h'} ⟨I.ok,I.os,I.bare,⟨λb o e n hb hx=>?_,λb o e n hb hx=>?_,I.base.free,λb o e hx=>?_,I.base.Xn,I.base.UB,I.base.Vs⟩,⟨m,hn.sameBut hs (uX (cne x c hc)),λj y v' e1 e2 e3=>?_⟩,λy c' e=>?_,I.free,I.JD,λp hp=>?_,tracked ⟨oc,hoc,I.JD x c hc⟩ hs,by simpa using I.len⟩ ⟨c,hs,.inr hc⟩
  .exact(hs.2 b (tJ (rz (sO e) (I.ok.cab x c hfn hc)))).trans (I.base.keep b o e n hb hx)
  .obtain⟨sl,e1⟩:=I.base.slot b o e n hb hx
   exact⟨sl,(hs.2 b (tJ (rz (sO e) (I.ok.cab x c hfn hc)))).trans e1⟩
  .obtain⟨o',e1⟩:=I.base.there b o e hx
   exact⟨o',(hs.2 b (tJ (rz (sO e) (I.ok.cab x c hfn hc)))).trans e1⟩
  .by_cases hj:j=i
   .subst hj
    rw[hi]at e1;cases e1
    rw[sP hiσ]at e2
    cases e2
    exact⟨u,r,.inr ⟨.inl hk,c,hc,hc'⟩⟩
   .rw[rm (uX hj)]at e2
    obtain⟨u',r',q⟩:=hl j y v' e1 e2 e3
    refine⟨u',r',?_⟩
    rcases q with q|⟨k,c',e,z'⟩
    .exact .inl q
    .refine .inr ⟨k,c',e,z'.sameBut hs ?_⟩
     rintro rfl
     exact hj (Qd hN e1 (I.ok.inj _ _ _ e hc▸hi))
  .by_cases hcc:c'=c
   .subst hcc;exact⟨_,hc'⟩
   .obtain⟨w2,z2⟩:=I.cell y c' e
    exact⟨w2,z2.sameBut hs hcc⟩
  .obtain⟨e,n,ne,nf,d⟩:=I.pin p hp
   refine⟨(hs.2 p.1 ?_).trans e,n,ne,nf,d⟩
   intro q
   rw[q,hoc]at e
   have q':oc=p.2:=uo e
   exact d w' (by rw[<-q'];exact hocd)
theorem Kr{M:Model}{A:tN}{E:rS->rX->Prop}{i:Nat}{x:Str}{v:V}{u:rS}{Q:Unit->rX->Prop}(I:Inv X pins σ H s)(hN:X.N.Nodup)(hi:X.N[i]?=Gc x)(hx:Loc X.env.scope x)(r:RelV v u)(h:∀s',Inv X pins (σ.set i (Gc v)) H s'->Q () s')(hf:X.fn x=true\/X.env.scope.names.lookup x=Gc .local:=by first|exact .inl rfl|exact .inr rfl|assumption):wpAny M A (storeName X.env x u) Q E s:=
 O2 I hN hi hx r (λs' I' _=>h s' I') hf
theorem Inv.SV{s':rX}{ch:Wp rY}(I:Inv X pins σ H s)(ho:s'.os=s.os)(u:Un (frs X.stack) ch H H' s.heap s'.heap)(hok:HOk X.prog X.w H' s'.heap)(hg:wo s'.gens)(hch:∀b∈ch,(b∈X.ex\/X.s₀.heap.objs.size<=b)/\b≠X.env.locals/\(∀x c,X.env.cells.lookup x=Gc c->c≠b)/\∀p∈X.pn++pins,p.1≠b):Inv X pins σ H' s':=by
 obtain⟨h',g',d',t',o'⟩:=s'
 have e:o'=s.os:=ho
 subst e
 exact I.call (g':=g') (t':=t') (d':=d') u hok hg hch
end
abbrev XK:=rS->rW rY->Hp->Prop
abbrev St:=Wp (rW V)
abbrev VK:=V->Hp->Prop
abbrev TE:=St->Hp->VK->Prop
abbrev TT:=St->Hp->(sx->Hp->Prop)->Prop
abbrev TA:=St->Hp->(Wp V->Hp->Prop)->Prop
structure Ends where
 nx:St->Hp->Prop
 rt:VK
 bk:St->Hp->Prop:=λ_ _=>ur
 ct:St->Hp->Prop:=λ_ _=>ur
abbrev TS:=Ends->St->Hp->Prop
def EP(X:Cx)(pins:Wp (rY×Obj))(σ:St)(Q:VK)(u:rS)(s':rX):Prop:=∃v H',Inv X pins σ H' s'/\RelV v u/\Q v H'
def TP(X:Cx)(pins:Wp (rY×Obj))(σ:St)(Q:sx->Hp->Prop)(b:sx)(s':rX):Prop:=∃H',Inv X pins σ H' s'/\Q b H'
def AP(X:Cx)(pins:Wp (rY×Obj))(σ:St)(Q:Wp V->Hp->Prop)(us:Wp rS)(s':rX):Prop:=∃vs H',Inv X pins σ H' s'/\Vals vs us/\Q vs H'
def SP(X:Cx)(pins:Wp (rY×Obj))(D:Ends)(f:Flow)(s':rX):Prop:=
 match f with
 | .next=>∃σ' H',Inv X pins σ' H' s'/\D.nx σ' H'
 | .brk=>∃σ' H',Inv X pins σ' H' s'/\D.bk σ' H'
 | .cont=>∃σ' H',Inv X pins σ' H' s'/\D.ct σ' H'
 | .ret u=>∃v σ' H',Inv X pins σ' H' s'/\RelV v u/\D.rt v H'
def PE(X:Cx)(e:sW)(t:TE):Prop:=
 ∀(pins:Wp (rY×Obj)) (s:rX) (σ:St) (H:Hp) (Q:VK),Inv X pins σ H s->t σ H Q->wpAny (model X.prog X.w) X.A (eval e X.env) (EP X pins σ Q) X.xe s
def PT(X:Cx)(e:sW)(t:TT):Prop:=
 ∀(pins:Wp (rY×Obj)) (s:rX) (σ:St) (H:Hp) (Q:sx->Hp->Prop),Inv X pins σ H s->t σ H Q->wpAny (model X.prog X.w) X.A (isTrue e X.env (eval e X.env)) (TP X pins σ Q) X.xe s
def PW(X:Cx)(e:sW)(t:TT):Prop:=
 ∀(whole:Sem rS) (pins:Wp (rY×Obj)) (s:rX) (σ:St) (H:Hp) (Q:sx->Hp->Prop),Inv X pins σ H s->t σ H Q->wpAny (model X.prog X.w) X.A (isTrue e X.env whole) (TP X pins σ Q) X.xe s
theorem PW.pt{X:Cx}{e:sW}{t:TT}(h:PW X e t):PT X e t:=h _
def PA(X:Cx)(es:Wp sW)(t:TA):Prop:=
 ∀(pos:Pos) (pins:Wp (rY×Obj)) (s:rX) (σ:St) (H:Hp) (Q:Wp V->Hp->Prop),Inv X pins σ H s->t σ H Q->wpAny (model X.prog X.w) X.A (spliced (backTo pos (sE es X.env))) (AP X pins σ Q) X.xe s
def PS(X:Cx)(st:tE)(t:TS):Prop:=
 ∀(pins:Wp (rY×Obj)) (s:rX) (σ:St) (H:Hp) (D:Ends),Inv X pins σ H s->t D σ H->wpAny (model X.prog X.w) X.A (exec st X.env) (SP X pins D) X.xe s
def PSs(X:Cx)(st:Wp tE)(t:TS):Prop:=
 ∀(pins:Wp (rY×Obj)) (s:rX) (σ:St) (H:Hp) (D:Ends),Inv X pins σ H s->t D σ H->wpAny (model X.prog X.w) X.A (execs st X.env) (SP X pins D) X.xe s
theorem thn{α:Type}{t:Sem α}{Q Q':α->rX->Prop}{M:Model}{A:tN}{E:rS->rX->Prop}{s:rX}(h:wpAny M A t Q E s)(hQ:∀a s,Q a s->Q' a s):wpAny M A t Q' E s:=ub h hQ λ_ _ x=>x
end L2
namespace L2
open PySem PySem.Spec PyProof.Rows
section
variable{X:Cx}
noncomputable def pY(i:Nat):TE:=λσ H Q=>∃v,σ[i]?=Gc (Gc v)/\Q v H
noncomputable def tC(v:V):TE:=λ_ H Q=>Q v H
theorem PF{i:Nat}{x:Str}{pos:Pos}(hN:X.N[i]?=Gc x)(hv:Vis X.env.scope x)(hd:(x==("__debug__":Str))=false:=by decide)(hcd:(x==("__classdict__":Str))=false:=by decide):PE X (.Name x pos) (pY i):=by
 intro pins s σ H Q I h
 obtain⟨v,e,h⟩:=h
 obtain⟨m,hn,hl⟩:=I.loc
 obtain⟨u,r,l⟩:=hl i x v hN e hv
 have fin:EP X pins σ Q u s:=⟨v,H,I,r,h⟩
 rcases l with⟨hk,hm⟩|⟨hk,c,hc,hcell⟩
 .exact wpAny_Name (wpAny_loadName_local I.ok.kind hk hn hm fin) hd
 .rcases hk with hk|hk
  .exact wpAny_Name (wpAny_loadName_cell I.ok.kind hk hc hcell fin) hd
  .exact wpAny_Name (wpAny_loadName_free I.ok.kind hk hc hcell fin hcd) hd
theorem YZ{i j pos}:PE X (.Constant (.int i) j pos) (tC (.int i)):=λ_ _ _ H _ I h=>wpAny_Constant_int ⟨.int i,H,I.tok _,⟨_,rfl⟩,h⟩
theorem kg{b j pos}:PE X (.Constant (.bool b) j pos) (tC (.bl b)):=λ_ _ _ H _ I h=>Constant_bool ⟨.bl b,H,I,rfl,h⟩
theorem dS{j pos}:PE X (.Constant .none j pos) (tC .non):=λ_ _ _ H _ I h=>Constant_none ⟨.non,H,I,rfl,h⟩
theorem Uq{x j pos}:PE X (.Constant (.str x) j pos) (tC (.str x)):=λ_ _ _ H _ I h=>Calls.Constant_str ⟨.str x,H,I.tok _,⟨_,rfl⟩,h⟩
def Gl(X:Cx)(x:Str):Prop:=X.env.kindOf x=Gc .globalImplicit
theorem IX{E:rS->rX->Prop}{pins:Wp (rY×Obj)}{s:rX}{σ:St}{H:Hp}{x:Str}{u:rS}{pos:Pos}{Q:rS->rX->Prop}(I:Inv X pins σ H s)(hg:Gl X x)(hm:X.mg x=Gc u)(h:Q u s)(hd:(x==("__debug__":Str))=false:=by decide):wpAny (model X.prog X.w) X.A (eval (.Name x pos) X.env) Q E s:=
 vS I.ok.kind hg (wq (by rw[I.ok.glob];exact I.mod.glob.keeps I.bk) hm h) hd
theorem MQ{E:rS->rX->Prop}{pins:Wp (rY×Obj)}{s:rX}{σ:St}{H:Hp}{x:Str}{u:rS}{pos:Pos}{Q:rS->rX->Prop}(I:Inv X pins σ H s)(hg:Gl X x)(hm:X.mg x=none)(hv:bootBuiltins x=Gc u)(h:Q u s)(hn:x≠ "__name__":=by decide)(hd:(x==("__debug__":Str))=false:=by decide):wpAny (model X.prog X.w) X.A (eval (.Name x pos) X.env) Q E s:=by
 obtain⟨mb,h1,h2⟩:=I.mod.blt
 exact vS I.ok.kind hg (Calls.loadGlobal_builtin (by rw[I.ok.glob];exact I.mod.glob.keeps I.bk) hm (by rw[I.ok.blt];exact h1.keeps I.bk) ((h2 x hn).trans hv) h) hd
theorem Nc{x:Str}{v:V}{u:rS}{pos:Pos}(hg:Gl X x)(hm:X.mg x=Gc u)(r:RelV v u)(hd:(x==("__debug__":Str))=false:=by decide):PE X (.Name x pos) (tC v):=
 λ_ _ _ H _ I h=>IX I hg hm ⟨v,H,I,r,h⟩ hd
theorem aC{x:Str}{v:V}{u:rS}{pos:Pos}(hg:Gl X x)(hm:X.mg x=none)(hv:bootBuiltins x=Gc u)(r:RelV v u)(hn:x≠ "__name__":=by decide)(hd:(x==("__debug__":Str))=false:=by decide):PE X (.Name x pos) (tC v):=
 λ_ _ _ H _ I h=>MQ I hg hm hv ⟨v,H,I,r,h⟩ hn hd
variable{a b:sW}{ta tb:TE}{pos:Pos}
noncomputable def tB(t:TE):TT:=λσ H Q=>t σ H λx H1=>∃c,x=.bl c/\Q c H1
theorem gu{e:sW}{t:TE}(h:PE X e t)(he:∀whole,isTrue e X.env whole=(do let v<-whole;standAt e.pos;holding [v] (truthy v)):=by intro _;rfl):PT X e (tB t):=by
 intro pins s σ H Q I hw
 refine isTrue_plain (thn (h pins s σ H _ I hw) λv s1 ⟨x,H1,I1,r1,q1⟩=>?_) (he _)
 obtain⟨d,rfl,q⟩:=q1
 cases r1
 exact vL ⟨H1,I1,q⟩
variable{tA tB':TT}{rest:Wp sW}
noncomputable def pR(t u:TT):TT:=λσ H Q=>t σ H λc H1=>if c=true then u σ H1 Q else Q false H1
noncomputable def tOr(t u:TT):TT:=λσ H Q=>t σ H λc H1=>if c=true then Q true H1 else u σ H1 Q
noncomputable def qb(t:TT):TT:=λσ H Q=>t σ H λc H1=>Q (!c) H1
theorem Z5(ha:PT X a tA):PW X (.BoolOp .And [a] pos) tA:=by
 intro wh pins s σ H Q I h
 refine isTrue_and (thn (ha pins s σ H Q I h) λc s1 e=>?_)
 cases c with
 |true=>exact isTrue_and_nil e
 |false=>exact e
theorem iU(ha:PT X a tA):PW X (.BoolOp .Or [a] pos) tA:=by
 intro wh pins s σ H Q I h
 refine isTrue_or (thn (ha pins s σ H Q I h) λc s1 e=>?_)
 cases c with
 |false=>exact isTrue_or_nil e
 |true=>exact e
theorem dc(ha:PT X a tA)(hb:PW X (.BoolOp .And (b::rest) pos) tB'):PW X (.BoolOp .And (a::b::rest) pos) (pR tA tB'):=by
 intro wh pins s σ H Q I h
 refine isTrue_and (thn (ha pins s σ H _ I h) λc s1 ⟨H1,I1,q1⟩=>?_)
 cases c with
 |true=>exact hb wh pins s1 σ H1 Q I1 q1
 |false=>exact⟨H1,I1,q1⟩
theorem m8(ha:PT X a tA)(hb:PW X (.BoolOp .Or (b::rest) pos) tB'):PW X (.BoolOp .Or (a::b::rest) pos) (tOr tA tB'):=by
 intro wh pins s σ H Q I h
 refine isTrue_or (thn (ha pins s σ H _ I h) λc s1 ⟨H1,I1,q1⟩=>?_)
 cases c with
 |true=>exact⟨H1,I1,q1⟩
 |false=>exact hb wh pins s1 σ H1 Q I1 q1
theorem gk(ha:PT X a tA):PT X (.UnaryOp .Not a pos) (qb tA):=by
 intro pins s σ H Q I h
 exact isTrue_not (ha pins s σ H (λc H1=>Q (!c) H1) I h)
noncomputable def lT(ta tb:TE):TE:=λσ H Q=>ta σ H λx H1=>∃c,x=.bl c/\if c=true then tb σ H1 Q else Q (.bl false) H1
noncomputable def pG(ta tb:TE):TE:=λσ H Q=>ta σ H λx H1=>∃c,x=.bl c/\if c=true then Q (.bl true) H1 else tb σ H1 Q
noncomputable def kf(ta:TE):TE:=λσ H Q=>ta σ H λx H1=>∃c,x=.bl c/\Q (.bl (!c)) H1
theorem dH{op}{t:TE}(h:PE X a t):PE X (.BoolOp op [a] pos) t:=λpins s σ H Q I hw=>BoolOp_one (h pins s σ H Q I hw)
theorem iB(ha:PE X a ta)(hb:PE X (.BoolOp .And (b::rest) pos) tb):PE X (.BoolOp .And (a::b::rest) pos) (lT ta tb):=by
 intro pins s σ H Q I h
 refine BoolOp_and (thn (ha pins s σ H _ I h) λv s1 ⟨x,H1,I1,r1,q1⟩=>?_)
 obtain⟨c,rfl,q1⟩:=q1
 cases r1
 refine vL ?_
 cases c with
 |true=>exact hb pins s1 σ H1 Q I1 q1
 |false=>exact⟨.bl false,H1,I1,rfl,q1⟩
theorem mJ(ha:PE X a ta)(hb:PE X (.BoolOp .Or (b::rest) pos) tb):PE X (.BoolOp .Or (a::b::rest) pos) (pG ta tb):=by
 intro pins s σ H Q I h
 refine BoolOp_or (thn (ha pins s σ H _ I h) λv s1 ⟨x,H1,I1,r1,q1⟩=>?_)
 obtain⟨c,rfl,q1⟩:=q1
 cases r1
 refine vL ?_
 cases c with
 |false=>exact hb pins s1 σ H1 Q I1 q1
 |true=>exact⟨.bl true,H1,I1,rfl,q1⟩
theorem fM(ha:PE X a ta):PE X (.UnaryOp .Not a pos) (kf ta):=by
 intro pins s σ H Q I h
 refine UnaryOp_ (thn (ha pins s σ H _ I h) λv s1 ⟨x,H1,I1,r1,q1⟩=>?_)
 obtain⟨c,rfl,q1⟩:=q1
 cases r1
 exact not_of (vL ⟨.bl (!c),H1,I1,rfl,q1⟩)
end
end L2
namespace L2
open PySem PySem.Spec PyProof.Rows
def SqL(K:W1)(H:Hp)(a:rY)(xs:Wp V):Prop:=
 Rd H a (.lst xs)∨
  ∃(o:Obj) (its:uE rS) (n:Nat),K.lookup a=Gc o/\o.cls=.type "list" /\o.dict=none/\o.data=.seq its n/\its.size<=sizeLine/\Vals xs its.toList
def SqT(K:W1)(H:Hp)(a:rY)(xs:Wp V):Prop:=
 Rd H a (.tup xs)∨
  ∃(o:Obj) (its:uE rS) (n:Nat),K.lookup a=Gc o/\o.cls=.type "tuple" /\o.data=.seq its n/\its.size<=sizeLine/\Vals xs its.toList
noncomputable def qz:rS->rW V
 | .none=>Gc .non
 | .bool b=>Gc (.bl b)
 | .int i _=>Gc (.int i)
 | .str x _=>Gc (.str x)
 | .bytes b _=>Gc (.byt b)
 | .float b _=>Gc (.flt b)
 | .ref a=>Gc (.ref a)
 | .type n=>Gc (.ty n)
 |_=>none
theorem RelV.abs{x:V}{u:rS}(r:RelV x u):qz u=Gc x:=by
 cases x with
 |non=>cases r;rfl
 |bl _=>cases r;rfl
 |int _=>obtain⟨t,rfl⟩:=r;rfl
 |str _=>obtain⟨t,rfl⟩:=r;rfl
 |byt _=>obtain⟨t,rfl⟩:=r;rfl
 |flt _=>obtain⟨t,rfl⟩:=r;rfl
 |ref _=>cases r;rfl
 |ty _=>cases r;rfl
theorem RelV.inj{x y:V}{u:rS}(r:RelV x u)(q:RelV y u):x=y:=uo (r.abs.symm.trans q.abs)
theorem Vals.inj:∀{xs ys:Wp V} {us:Wp rS},Vals xs us->Vals ys us->xs=ys
 |_,_,_,.nil,.nil=>rfl
 |_,_,_,.cons r t,.cons r' t'=>by rw[r.inj r',Vals.inj t t']
section
variable{X:Cx}{pins:Wp (rY×Obj)}{σ:St}{H:Hp}{s:rX}{a:rY}{xs ys:Wp V}
theorem SqL.of{K:W1}(h:H a=Gc (.lst xs)):SqL K H a xs:=.inl (.inl h)
theorem SqT.of{K:W1}(h:H a=Gc (.tup xs)):SqT K H a xs:=.inl (.inl h)
theorem Inv.list(I:Inv X pins σ H s)(h:SqL X.K H a xs):∃its:Wp rS,Vals xs its/\PlainL s.heap a its.toArray/\xs.length<=sizeLine:=by
 rcases h with h|⟨o,its,n,hk,hc,hd,hs,hz,r⟩
 .obtain⟨z,its,n,r,e⟩:=h.ok I.hok
  exact⟨its,r,⟨_,n,e,rfl,rfl,rfl⟩,z⟩
 .refine⟨its.toList,r,⟨o,n,I.kIn a o hk,hc,hd,by simpa using hs⟩,?_⟩
  have e:=r.length
  simp only[xq]at e
  lia
theorem Inv.tuple(I:Inv X pins σ H s)(h:SqT X.K H a xs):∃its:Wp rS,Vals xs its/\IsTup s.heap a its.toArray/\xs.length<=sizeLine:=by
 rcases h with h|⟨o,its,n,hk,hc,hs,hz,r⟩
 .obtain⟨z,its,r,p⟩:=h.ok I.hok
  exact⟨its,r,p,z⟩
 .refine⟨its.toList,r,⟨o,I.kIn a o hk,hc,n,by simpa using hs⟩,?_⟩
  have e:=r.length
  simp only[xq]at e
  lia
theorem Inv.Q8(I:Inv X pins σ H s)(h:SqL X.K H a xs)(h':SqL X.K H a ys):xs=ys:=by
 obtain⟨its,r,⟨o,n,e,_,_,d⟩,_⟩:=I.list h
 obtain⟨its',r',⟨o',n',e',_,_,d'⟩,_⟩:=I.list h'
 rw[e]at e';cases e'
 rw[d]at d'
 injection d' with d1 _
 have:its=its':=by simpa using congrArg Array.toList d1
 subst this
 exact r.inj r'
theorem Inv.ON(I:Inv X pins σ H s)(h:SqT X.K H a xs)(h':SqT X.K H a ys):xs=ys:=by
 obtain⟨its,r,⟨o,e,_,n,d⟩,_⟩:=I.tuple h
 obtain⟨its',r',⟨o',e',_,n',d'⟩,_⟩:=I.tuple h'
 rw[e]at e';cases e'
 rw[d]at d'
 injection d' with d1 _
 have:its=its':=by simpa using congrArg Array.toList d1
 subst this
 exact r.inj r'
end
abbrev Cx.R6(X:Cx)(E:rS->rX->Prop):Cx:={X with xe:=E}
abbrev Cx.nox(X:Cx):Cx:=X.R6 λ_ _=>ur
theorem Cx.Ok.R6{X:Cx}(ok:X.Ok)(E:rS->rX->Prop):(X.R6 E).Ok:=
 ⟨ok.mod,ok.kind,ok.glob,ok.blt,ok.above,ok.inj,ok.has,ok.cab,ok.hd,ok.frames,ok.stk,ok.exf,ok.bs,ok.bsz,ok.ZF,ok.aV,ok.Pp,ok.frf⟩
theorem Cx.Ok.KC{X:Cx}{E:rS->rX->Prop}(ok:(X.R6 E).Ok):X.Ok:=
 ⟨ok.mod,ok.kind,ok.glob,ok.blt,ok.above,ok.inj,ok.has,ok.cab,ok.hd,ok.frames,ok.stk,ok.exf,ok.bs,ok.bsz,ok.ZF,ok.aV,ok.Pp,ok.frf⟩
section
variable{X:Cx}{pins:Wp (rY×Obj)}{σ:St}{H:Hp}{s:rX}{E:rS->rX->Prop}
theorem Inv.R6(I:Inv X pins σ H s)(E:rS->rX->Prop):Inv (X.R6 E) pins σ H s:=⟨I.ok.R6 E,I.os,I.bare,I.base,I.loc,I.cell,I.free,I.JD,I.pin,I.hok,I.len⟩
theorem Inv.KC(I:Inv (X.R6 E) pins σ H s):Inv X pins σ H s:=⟨I.ok.KC,I.os,I.bare,I.base,I.loc,I.cell,I.free,I.JD,I.pin,I.hok,I.len⟩
theorem SP.KC{D:Ends}{f:Flow}{s':rX}(h:SP (X.R6 E) pins D f s'):SP X pins D f s':=by
 cases f with
 |next=>obtain⟨σ',H',I,q⟩:=h;exact⟨σ',H',I.KC,q⟩
 |brk=>obtain⟨σ',H',I,q⟩:=h;exact⟨σ',H',I.KC,q⟩
 |cont=>obtain⟨σ',H',I,q⟩:=h;exact⟨σ',H',I.KC,q⟩
 |ret u=>obtain⟨v,σ',H',I,r,q⟩:=h;exact⟨v,σ',H',I.KC,r,q⟩
theorem PSs.nox{st:Wp tE}{t:TS}(h:PSs X.nox st t):PSs X st t:=λpins s σ H D I hw=>
 ub (h pins s σ H D (I.R6 _) hw) (λ_ _ q=>q.KC) λ_ _ z=>tu z
end
section
variable{X:Cx}{st:tE}{rest:Wp tE}{t u:TS}{e:sW}{te:TE}{pos:Pos}
noncomputable def ko:TS:=λD σ H=>D.nx σ H
noncomputable def qe(t u:TS):TS:=λD σ H=>t {D with nx:=u D} σ H
theorem ar:PSs X [] ko:=λ_ _ σ H _ I h=>wg ⟨σ,H,I,h⟩
theorem RI(h1:PS X st t)(h2:PSs X rest u):PSs X (st::rest) (qe t u):=by
 intro pins s σ H D I h
 refine vp (thn (h1 pins s σ H {D with nx:=u D} I h) λf s1 q=>?_)
 cases f with
 |next=>
  obtain⟨σ',H',I',q⟩:=q
  exact h2 pins s1 σ' H' D I' q
 |ret v=>exact q
 |brk=>exact q
 |cont=>exact q
theorem Nh(h1:PS X st t):PSs X [st] t:=by
 intro pins s σ H D I h
 refine vp (thn (h1 pins s σ H D I h) λf s1 q=>?_)
 cases f with
 |next=>exact wg q
 |ret v=>exact q
 |brk=>exact q
 |cont=>exact q
theorem Inv.quiet{pins:Wp (rY×Obj)}{σ:St}{H:Hp}{s:rX}(I:Inv X pins σ H s):interactive X.env=false:=by simp[interactive,I.ok.kind]
noncomputable def lR(te:TE):TS:=λD σ H=>te σ H λ_ H1=>D.nx σ H1
theorem bS(he:PE X e te)(hs:swapsWith e none pos.line X.env=pure false:=by rfl):PS X (.Expr e pos) (lR te):=by
 intro pins s σ H D I h
 exact wpAny_Expr_any (thn (he pins s σ H _ I h) λv s1 ⟨x,H1,I1,r1,q1⟩=>⟨σ,H1,I1,q1⟩) I.quiet hs
noncomputable def qK(te:TE):TS:=λD σ H=>te σ H D.rt
theorem SW(he:PE X e te):PS X (.Return (Gc e) pos) (qK te):=by
 intro pins s σ H D I h
 exact yZ (thn (he pins s σ H _ I h) λv s1 ⟨x,H1,I1,r1,q1⟩=>⟨x,σ,H1,I1,r1,q1⟩)
noncomputable def qW(c:TT)(t u:TS):TS:=λD σ H=>c σ H λb H1=>if b=true then t D σ H1 else u D σ H1
theorem kn{c:sW}{a b:Wp tE}{tc:TT}(hc:PT X c tc)(ha:PSs X a t)(hb:PSs X b u):PS X (.If c a b pos) (qW tc t u):=by
 intro pins s σ H D I h
 refine wpAny_If (thn (hc pins s σ H _ I h) λd s1 ⟨H1,I1,q1⟩=>?_)
 cases d with
 |true=>exact ha pins s1 σ H1 D I1 q1
 |false=>exact hb pins s1 σ H1 D I1 q1
end
abbrev TG:=V->St->Hp->(St->Hp->Prop)->Prop
abbrev TGs:=Wp V->St->Hp->(St->Hp->Prop)->Prop
def PG(X:Cx)(target:sW)(t:TG):Prop:=
 ∀(pins:Wp (rY×Obj)) (s:rX) (σ:St) (H:Hp) (v:V) (u:rS) (Q:St->Hp->Prop),Inv X pins σ H s->RelV v u->t v σ H Q->
  wpAny (model X.prog X.w) X.A (assign target X.env u) (λ_ s'=>∃σ' H',Inv X pins σ' H' s'/\Q σ' H') X.xe s
def PGs(X:Cx)(ts:Wp sW)(t:TGs):Prop:=
 ∀(pins:Wp (rY×Obj)) (s:rX) (σ:St) (H:Hp) (vs:Wp V) (us:Wp rS) (Q:St->Hp->Prop),Inv X pins σ H s->Vals vs us->t vs σ H Q->
  wpAny (model X.prog X.w) X.A (assignInOrder ((assignEach ts X.env).map (·.2)) us) (λ_ s'=>∃σ' H',Inv X pins σ' H' s'/\Q σ' H') X.xe s
abbrev kP:=V->V->V->Hp->(Hp->Prop)->Prop
def ng(X:Cx)(t:kP):Prop:=
 ∀(pins:Wp (rY×Obj)) (s:rX) (σ:St) (H:Hp) (o i v:V) (ov iv u:rS) (Q:Hp->Prop),Inv X pins σ H s->RelV o ov->RelV i iv->RelV v u->t o i v H Q->
  wpAny (model X.prog X.w) X.A (setItem ov iv u) (λ_ s'=>∃H',Inv X pins σ H' s'/\Q H') X.xe s
section
variable{X:Cx}{pos:Pos}
noncomputable def Zb(i:Nat):TG:=λv σ H Q=>Q (σ.set i (Gc v)) H
theorem cU{i:Nat}{x:Str}(hN:X.N.Nodup)(hi:X.N[i]?=Gc x)(hx:Loc X.env.scope x)(hf:X.fn x=true\/X.env.scope.names.lookup x=Gc .local:=by first|exact .inl rfl|exact .inr rfl|assumption):PG X (.Name x pos) (Zb i):=by
 intro pins s σ H v u Q I r h
 exact wpAny_assign_Name (Kr I hN hi hx r (λs' I'=>⟨_,H,I',h⟩) hf)
noncomputable def oS:TGs:=λvs σ H Q=>vs=[]/\Q σ H
noncomputable def iS(t:TG)(u:TGs):TGs:=λvs σ H Q=>∃v r,vs=v::r/\t v σ H λσ' H'=>u r σ' H' Q
theorem aK:PGs X [] oS:=by
 intro pins s σ H vs us Q I r h
 obtain⟨e,h⟩:=h
 subst e
 cases r
 exact assignInOrder_nil ⟨σ,H,I,h⟩
theorem WT{e:sW}{es:Wp sW}{t:TG}{u:TGs}(h1:PG X e t)(h2:PGs X es u)(hs:(assignEach (e::es) X.env).map (·.2)=assign e X.env::(assignEach es X.env).map (·.2):=by rfl):PGs X (e::es) (iS t u):=by
 intro pins s σ H vs us Q I r h
 obtain⟨v,vr,e1,h⟩:=h
 subst e1
 cases r with
 |cons r rr=>
  rw[hs]
  refine yH (thn (h1 pins s σ H _ _ _ I r h) λ_ s1 ⟨σ1,H1,I1,q1⟩=>?_)
  exact h2 pins s1 σ1 H1 _ _ Q I1 rr q1
noncomputable def qu(K:W1)(n:Nat)(t:TGs):TG:=λv σ H Q=>∃a xs,v=.ref a/\SqT K H a xs/\xs.length=n/\t xs σ H Q
theorem iX{es:Wp sW}{k:Nat}{t:TGs}{n:Nat}(hc:X.calm=true)(h:PGs X es t)(hn:(assignEach es X.env).length=n:=by rfl)(hst:(assignEach es X.env).findIdx? (·.1)=none:=by rfl):PG X (.Tuple es k pos) (qu X.K n t):=by
 intro pins s σ H v u Q I r hw
 obtain⟨a,xs,e1,hq,hl,hw⟩:=hw
 subst e1
 cases r
 obtain⟨its,rv,ht,hz⟩:=I.tuple hq
 refine assign_Tuple_tuple (I.ok.hd hc) ht (by simp[hn,<-hl,rv.length]) hst λh' hx=>?_
 have I1:Inv X pins σ H {s with heap:=h'}:=I.kept (t':=s.toks) λb o e=>hx b o (tJ (sO e)) e
 exact h pins _ σ H xs _ Q I1 (by simpa using rv) hw
noncomputable def qw(to ti:TE)(t:kP):TG:=λv σ H Q=>to σ H λo H1=>ti σ H1 λi H2=>t o i v H2 λH3=>Q σ H3
theorem gf {o i : sW} {to ti : TE} {t : kP} (ho : PE X o to) (hi : PE X i ti) (hs : ng X t) (ha : ∀ v, assign (.Subscript o i pos) X.env v = (do
      let ov ← holding [v] (eval o X.env)
      let iv ← holding [v, ov] (eval i X.env)
      standAt pos
      holding [v, ov, iv] (setItem ov iv v)
      release [v, ov, iv] []) := by intro _; rfl) : PG X (.Subscript o i pos) (qw to ti t) := by
  intro pins s σ H v u Q I r h
  rw [ha]
  refine rT (uy (thn (ho pins s σ H _ I h) fun ov s1 ⟨x, H1, I1, r1, q1⟩ => ?_))
  refine rT (uy (thn (hi pins s1 σ H1 _ I1 q1) fun iv s2 ⟨y, H2, I2, r2, q2⟩ => ?_))
  refine rT (wY (rT (uy (thn (hs pins s2 σ H2 x y v ov iv u _ I2 r1 r2 r q2) fun _ s3 ⟨H3, I3, q3⟩ => ?_))))
  exact wpAny_release ⟨σ, H3, I3, q3⟩
noncomputable def mR(te:TE)(g:TG):TS:=λD σ H=>te σ H λx H1=>g x σ H1 D.nx
theorem ZM{tg e:sW}{te:TE}{g:TG}(he:PE X e te)(hg:PG X tg g)(hs:swapsWithSole [tg] e pos.line X.env=pure false:=by rfl)(hw:swappedStores [tg] e X.env=pure none:=by rfl)(h1:(assignEach [tg] X.env).map (·.2)=[assign tg X.env]:=by rfl):PS X (.Assign [tg] e pos) (mR te g):=by
 intro pins s σ H D I h
 refine wpAny_Assign_stores (thn (he pins s σ H _ I h) λv s1 ⟨x,H1,I1,r1,q1⟩=>?_) hs hw
 rw[h1]
 exact thn (hg pins s1 σ H1 x v _ I1 r1 q1) λ_ s2 q=>q
theorem Yn{i:Nat}{x:Str}{e:sW}{te:TE}{pos':Pos}(hN:X.N.Nodup)(hi:X.N[i]?=Gc x)(hx:Loc X.env.scope x)(he:PE X e te)(hs:swapsWith e (Gc (.Name x pos')) pos.line X.env=pure false:=by rfl)(hf:X.fn x=true\/X.env.scope.names.lookup x=Gc .local:=by first|exact .inl rfl|exact .inr rfl|assumption):PS X (.Assign [.Name x pos'] e pos) (mR te (Zb i)):=by
 intro pins s σ H D I h
 refine wpAny_Assign_Name (thn (he pins s σ H _ I h) λv s1 ⟨y,H1,I1,r1,q1⟩=>?_) hs
 exact Kr I1 hN hi hx r1 (λs2 I2=>⟨_,H1,I2,q1⟩) hf
noncomputable def pN(i j:Nat)(ta:TA):TS:=λD σ H=>ta σ H λvs H1=>∃v w,vs=[v,w]/\D.nx ((σ.set i (Gc v)).set j (Gc w)) H1
theorem gQ{i j:Nat}{x y:Str}{a b:sW}{ta:TA}{px py pt:Pos}{kt k2 pt2}(hc:X.calm=true)(hN:X.N.Nodup)(hi:X.N[i]?=Gc x)(hj:X.N[j]?=Gc y)(hij:i≠j)(hx:X.env.scope.names.lookup x=Gc .local)(hy:X.env.scope.names.lookup y=Gc .local)(ha:PA X [a,b] ta)(hw:swappedStores [.Tuple [.Name x px,.Name y py] kt pt] (.Tuple [a,b] k2 pt2) X.env=pure (Gc [x,y]))(hs:swapsWithSole [.Tuple [.Name x px,.Name y py] kt pt] (.Tuple [a,b] k2 pt2) pos.line X.env=pure false:=by rfl):PS X (.Assign [.Tuple [.Name x px,.Name y py] kt pt] (.Tuple [a,b] k2 pt2) pos) (pN i j ta):=by
 intro pins s σ H D I h
 rw[exec_Assign_arm]
 refine rT (wY ?_)
 rw[hs]
 refine rT (sG ?_)
 rw[sg (by decide)]
 refine rT (Tuple_ (thn (ha _ pins s σ H _ I h) λus s1 ⟨vs,H1,I1,r1,q1⟩=>?_))
 obtain⟨v,w,e1,q1⟩:=q1
 subst e1
 obtain⟨u1,u2,rfl,rv,rw'⟩:∃u1 u2,us=[u1,u2]/\RelV v u1/\RelV w u2:=by
  cases r1 with
  |cons p q=>
   cases q with
   |cons p' q'=>
    cases q'
    exact⟨_,_,rfl,p,p'⟩
 refine uN ?_ (by show 2<=sizeLine;decide)
 have I2:Inv X pins σ H1 {s1 with heap:=s1.heap.push {cls:=.type "tuple",data:=.seq [u1,u2].toArray}}:=I1.kept (t':=s1.toks) λb o e=>rV _ e
 rw[hw]
 refine rT (sG ?_)
 show wpAny (model X.prog X.w) X.A (do rule "assign.swapped-stores"; let items<-unpackItems (.ref s1.heap.objs.size) 2 none;assignInOrder [λv=>bindName X.env y v,λv=>bindName X.env x v] items.reverse;pure Flow.next) _ _ _
 refine rT (yz (rT (unpackItems_tuple (items:= #[u1,u2]) (I.ok.hd hc) (vk s1.heap _) λh' hx'=>?_)))
 have I3:=I2.kept (h':=h') (t':=s1.toks) λb o e=>hx' b o (tJ (sO e)) e
 show wpAny _ _ (assignInOrder [λv=>bindName X.env y v,λv=>bindName X.env x v] [u2,u1] >>= λ_=>pure Flow.next) _ _ _
 refine rT (yH (wpAny_bindName (Kr I3 hN hj (.inl hy) rw' (λs2 I4=>?_) (.inr hy))))
 refine yH (wpAny_bindName (Kr I4 hN hi (.inl hx) rv (λs3 I5=>assignInOrder_nil (sG ?_)) (.inr hx)))
 rw[List.set_comm _ _ (uX hij)]at I5
 exact⟨_,H1,I5,q1⟩
end
section
variable{X:Cx}{pos:Pos}
noncomputable def eW(c:TT)(tb:TS):TS:=λD σ H=>∃W:Nat->St->Hp->Prop,(∃m,W m σ H)/\∀m σ H,W m σ H->
 c σ H λb H1=>if b=true then∃N:St->Hp->Prop,(∀σ' H',N σ' H'->∃m',m'<m/\W m' σ' H')/\tb {D with nx:=N,ct:=N,bk:=D.nx} σ H1 else D.nx σ H1
theorem W2{c:sW}{body:Wp tE}{tc:TT}{tb:TS}(hp:PassesOwn (model X.prog X.w) X.A X.env X.xe)(hc:PT X c tc)(hb:PSs X body tb):PS X (.While c body [] pos) (eW tc tb):=by
 intro pins s σ H D I h
 obtain⟨W,⟨m0,w0⟩,turn⟩:=h
 refine wpAny_While (codeAny_whileLoop (λn s'=>∃σ' H',Inv X pins σ' H' s'/\W n σ' H') ?_ m0 ⟨σ,H,I,w0⟩)
 rintro n s1 ⟨σ1,H1,I1,w1⟩
 refine ve hp (thn (hc pins s1 σ1 H1 _ I1 (turn n σ1 H1 w1)) λb s2 ⟨H2,I2,q2⟩=>?_)
 cases b with
 |true=>
  obtain⟨N,hN,q2⟩:=q2
  rw[sZ rfl]
  refine ve hp (thn (hb pins s2 σ1 H2 _ I2 q2) λf s3 q3=>?_)
  cases f with
  |next=>
   obtain⟨σ3,H3,I3,n3⟩:=q3
   obtain⟨m',hm,w3⟩:=hN σ3 H3 n3
   exact⟨m',hm,σ3,H3,I3,w3⟩
  |cont=>
   obtain⟨σ3,H3,I3,n3⟩:=q3
   obtain⟨m',hm,w3⟩:=hN σ3 H3 n3
   exact⟨m',hm,σ3,H3,I3,w3⟩
  |brk=>exact q3
  |ret v=>exact q3
 |false=>
  rw[sg tq]
  exact wg ⟨σ1,H2,I2,q2⟩
end
structure It where
 go:Nat->Hp->Prop
 yld:Nat->Hp->V->Hp->Prop
 stop:Nat->Hp->Prop
def QE(X:Cx)(pins:Wp (rY×Obj))(H:Hp)(b:rY):Prop:=
 H b=none/\b≠X.env.locals/\b∉X.fs/\(b∈X.ex\/X.s₀.heap.objs.size<=b)/\(∀x c,X.env.cells.lookup x=Gc c->c≠b)/\∀p∈X.pn++pins,p.1≠b
theorem Inv.bz{X:Cx}{pins:Wp (rY×Obj)}{σ:St}{H H':Hp}{s:rX}{b:rY}(I:Inv X pins σ H s)(hb:s.heap.objs.size<=b)(hn:H' b=none):QE X pins H' b:=by
 refine⟨hn,xv (rz I.lt hb),I.qQ hb,.inr (sI I.sz hb),λx c e z=>?_,λp hp z=>?_⟩
 .obtain⟨v,q⟩:=I.cell x c e
  exact absurd (rz q.lt (by rw[z];exact hb)) (uY _)
 .exact absurd (rz (sO (I.pin p hp).1) (by rw[z];exact hb)) (uY _)
structure Turn(P:sf)(w:tU)(K:W1)(tg:sW)(J:It)(fp:Wp rY)(it:rY)(tn:Nat->tT->Prop):Prop where
 mem:it∈fp
 obj:∀i h,tn i h->∀b∈fp,∃o,h.get? b=Gc o/\∀v,o.data≠.cell v
 keep:∀i h h',tn i h->(∀b∈fp,∀o,h.get? b=Gc o->h'.get? b=Gc o)->tn i h'
 item:∀(X:Cx),X.prog=P->X.w=w->X.K=K->X.calm=true->∀(i:Nat) (pins:Wp (rY×Obj)) (s:rX) (σ:St) (H:Hp) (E:rS->rX->Prop),Inv X pins σ H s->(∀b∈fp,QE X pins H b)->tn i s.heap->J.go i H->
  wpAny (model P w) X.A (pyNext (.ref it)) (λr s1=>∃u,r=Gc u/\
   wpAny (model P w) X.A (letOwnedTupleGo tg (.ref it) u) (λ_ s2=>∃x H',Inv X pins σ H' s2/\RelV x u/\J.yld i H x H'/\tn (i+1) s2.heap/\∀b∈fp,H' b=none) E s1) E s
 done:∀(X:Cx),X.prog=P->X.w=w->X.K=K->X.calm=true->∀(i:Nat) (pins:Wp (rY×Obj)) (s:rX) (σ:St) (H:Hp) (E:rS->rX->Prop),Inv X pins σ H s->(∀b∈fp,QE X pins H b)->tn i s.heap->J.stop i H->
  wpAny (model P w) X.A (pyNext (.ref it)) (λr s1=>r=none/\Inv X pins σ H s1) E s
 self:∀(A:tN) (i:Nat) (s:rX) (Q:rS->rX->Prop) (E:rS->rX->Prop),tn i s.heap->Q (.ref it) s->wpAny (model P w) A (pyIter (.ref it)) Q E s
abbrev TI:=St->Hp->(It->Hp->Prop)->Prop
def PIE(X:Cx)(pins:Wp (rY×Obj))(σ:St)(tg:sW)(R:It->Hp->Prop)(itv:rS)(s2:rX):Prop:=
 ∃(it:rY) (fp:Wp rY) (tn:Nat->tT->Prop) (J:It) (H':Hp),itv=.ref it/\Inv X pins σ H' s2/\Turn X.prog X.w X.K tg J fp it tn/\tn 0 s2.heap/\(∀b∈fp,QE X pins H' b)/\R J H'
def PI(X:Cx)(tg iter:sW)(wi:TI):Prop:=
 ∀(pins:Wp (rY×Obj)) (s:rX) (σ:St) (H:Hp) (R:It->Hp->Prop),Inv X pins σ H s->wi σ H R->
  wpAny (model X.prog X.w) X.A (eval iter X.env) (λv s1=>wpAny (model X.prog X.w) X.A (pyIter v) (PIE X pins σ tg R) X.xe s1) X.xe s
theorem Zq{M:Model}{A:tN}{E:rS->rX->Prop}{s:rX}{tg:sW}{it:rY}{u:rS}{o:Obj}{n:vB}{vs:uE rS}{Q:Unit->rX->Prop}(ho:s.heap.get? it=Gc o)(hc:o.cls=.type n)(hd:o.data=.fields vs)(hn:["enumerate","zip","dict_itemiterator","dict_reverseitemiterator","odict_iterator","itertools.zip_longest","itertools.pairwise"].contains n=false)(hQ:Q () s):wpAny M A (letOwnedTupleGo tg (.ref it) u) Q E s:=by
 unfold letOwnedTupleGo
 cases tg<;>first
  |exact sG hQ
  |(cases u<;>first
     |exact sG hQ
     |(refine rT (wpAny_load ho ?_)
       rw[hc,hd]
       show wpAny M A (if(["enumerate","zip","dict_itemiterator","dict_reverseitemiterator","odict_iterator","itertools.zip_longest","itertools.pairwise"].contains n && vs[0]?==Gc (rawInt _))=true then _ else _) Q E s
       rw[sg (by intro h;rw[hn,Bool.false_and]at h;cases h)]
       exact sG hQ))
noncomputable def Itl(K:W1)(a:rY):It:=
 ⟨λi H=>∃xs x,SqL K H a xs/\xs[i]?=Gc x,λi H x H'=>H'=H/\∀xs,SqL K H a xs->xs[i]?=Gc x,λi H=>∃xs,SqL K H a xs/\xs.length<=i⟩
noncomputable def Itt(K:W1)(a:rY):It:=
 ⟨λi H=>∃xs x,SqT K H a xs/\xs[i]?=Gc x,λi H x H'=>H'=H/\∀xs,SqT K H a xs->xs[i]?=Gc x,λi H=>∃xs,SqT K H a xs/\xs.length<=i⟩
noncomputable def Itr(lo:Int)(n:Nat):It:=⟨λi _=>i<n,λi H x H'=>H'=H/\x=.int (lo+i),λi _=>n<=i⟩
theorem U8{P:sf}{w:tU}{K:W1}{tg:sW}(a it:rY):Turn P w K tg (Itl K a) [it] it (λi h=>h.IsListIter it a i) where
 mem:=by simp
 obj:=λi h st b hb=>by
  have e:b=it:=by simpa using hb
  subst e
  obtain⟨o,e,c,d⟩:=st
  exact⟨o,e,λv z=>by rw[d]at z;cases z⟩
 keep:=λi h h' st k=>st.at λo e=>k it (by simp) o e
 item:=by
  intro X hP hw hK hc i pins s σ H E I hf st hg
  subst hP hw hK
  obtain⟨xs,x,hq,hx⟩:=hg
  obtain⟨its,rv,p,hz⟩:=I.list hq
  obtain⟨u,hu,ru⟩:=rv.get hx
  obtain⟨f0,f1,f2,f3,f4,f5⟩:=hf it (by simp)
  refine xB st p.isList (x:=u) (by simpa using hu) λh' st' sb=>?_
  have I1:Inv X pins σ H {s with heap:=h'}:=I.turned (t':=s.toks) (λb o hb e=>(sb.2 b hb).trans e) f0 f1 f3 f4 f5
  obtain⟨o,e,c,d⟩:=id st'
  exact⟨u,rfl,Zq (s:={s with heap:=h'}) e c d (by decide) ⟨x,H,I1,ru,⟨rfl,λys hy=>by rw[I.Q8 hy hq];exact hx⟩,st',λb hb=>(hf b hb).1⟩⟩
 done:=by
  intro X hP hw hK hc i pins s σ H E I hf st hg
  subst hP hw hK
  obtain⟨xs,hq,hx⟩:=hg
  obtain⟨its,rv,p,hz⟩:=I.list hq
  obtain⟨f0,f1,f2,f3,f4,f5⟩:=hf it (by simp)
  have hl:=rv.length
  exact xP (I.ok.hd hc) st p.isList (by simp;lia) λh' eb=>⟨rfl,I.turned (t':=s.toks) (λb o hb e=>eb b o hb e) f0 f1 f3 f4 f5⟩
 self:=λ_ _ _ _ _ st h=>zO st h
theorem SJ{P:sf}{w:tU}{K:W1}{tg:sW}(a it:rY):Turn P w K tg (Itt K a) [it] it (λi h=>h.IsTupleIter it a i) where
 mem:=by simp
 obj:=λi h st b hb=>by
  have e:b=it:=by simpa using hb
  subst e
  obtain⟨o,e,c,d⟩:=st
  exact⟨o,e,λv z=>by rw[d]at z;cases z⟩
 keep:=λi h h' st k=>st.at λo e=>k it (by simp) o e
 item:=by
  intro X hP hw hK hc i pins s σ H E I hf st hg
  subst hP hw hK
  obtain⟨xs,x,hq,hx⟩:=hg
  obtain⟨its,rv,p,hz⟩:=I.tuple hq
  obtain⟨u,hu,ru⟩:=rv.get hx
  obtain⟨f0,f1,f2,f3,f4,f5⟩:=hf it (by simp)
  refine wpAny_pyNext_tuple_item st (show s.heap.IsTuple a its.toArray from p) (x:=u) (by simpa using hu) λh' st' sb=>?_
  have I1:Inv X pins σ H {s with heap:=h'}:=I.turned (t':=s.toks) (λb o hb e=>(sb.2 b hb).trans e) f0 f1 f3 f4 f5
  obtain⟨o,e,c,d⟩:=id st'
  exact⟨u,rfl,Zq (s:={s with heap:=h'}) e c d (by decide) ⟨x,H,I1,ru,⟨rfl,λys hy=>by rw[I.ON hy hq];exact hx⟩,st',λb hb=>(hf b hb).1⟩⟩
 done:=by
  intro X hP hw hK hc i pins s σ H E I hf st hg
  subst hP hw hK
  obtain⟨xs,hq,hx⟩:=hg
  obtain⟨its,rv,p,hz⟩:=I.tuple hq
  obtain⟨f0,f1,f2,f3,f4,f5⟩:=hf it (by simp)
  have hl:=rv.length
  exact wpAny_pyNext_tuple_end (I.ok.hd hc) st (show s.heap.IsTuple a its.toArray from p) (by simp;lia) λh' eb=>⟨rfl,I.turned (t':=s.toks) (λb o hb e=>eb b o hb e) f0 f1 f3 f4 f5⟩
 self:=λ_ _ _ _ _ st h=>wpAny_pyIter_tupleiter st h
theorem Ro{P:sf}{w:tU}{K:W1}{tg:sW}(it:rY)(lo:Int)(n:Nat):Turn P w K tg (Itr lo n) [it] it (λi h=>IsRangeIter h it (lo+(i:Nat)*1) ((n:Int)-(i:Nat)) 1) where
 mem:=by simp
 obj:=λi h st b hb=>by
  have e:b=it:=by simpa using hb
  subst e
  exact⟨_,st,λv z=>by
   have z':Data.fields _=Data.cell v:=z
   cases z'⟩
 keep:=λi h h' st k=>k it (by simp) _ st
 item:=by
  intro X hP hw hK hc i pins s σ H E I hf st hg
  subst hP hw hK
  obtain⟨f0,f1,f2,f3,f4,f5⟩:=hf it (by simp)
  have W:=Walks.range (prog:=X.prog) (w:=X.w) (I.ok.hd hc) it lo 1 n
  refine W.item i s _ _ hg st λv h' tk hv st' kk=>?_
  obtain⟨t,rfl⟩:=hv
  have I1:Inv X pins σ H {s with heap:=h',toks:=tk}:=I.turned (λb o hb e=>kk b o (by simpa using hb) e) f0 f1 f3 f4 f5
  refine⟨_,rfl,Zq (s:={s with heap:=h',toks:=tk}) (n:="range_iterator") st' rfl rfl (by decide) ⟨.int (lo+i),H,I1,⟨t,?_⟩,⟨rfl,rfl⟩,st',λb hb=>(hf b hb).1⟩⟩
  rw[Int.mul_one]
 done:=by
  intro X hP hw hK hc i pins s σ H E I hf st hg
  subst hP hw hK
  obtain⟨f0,f1,f2,f3,f4,f5⟩:=hf it (by simp)
  exact wpAny_pyNext_range_end (I.ok.hd hc) st (by have:n<=i:=hg;lia) λh' eb=>⟨rfl,I.turned (t':=s.toks) (λb o hb e=>eb b o hb e) f0 f1 f3 f4 f5⟩
 self:=λ_ _ _ _ _ st h=>wpAny_pyIter_rangeiter st h
end L2
namespace L2
open PySem PySem.Spec PyProof.Rows
section
variable{X:Cx}{tg:sW}
theorem Ws{pins:Wp (rY×Obj)}{σ:St}{H:Hp}{s:rX}{R:It->Hp->Prop}{E:rS->rX->Prop}{lo hi:Int}{t u v:Tok}{tk:Nat}(I:Inv X pins σ H s)(h1: -(2^62)<=lo)(h2:lo<2^62)(h3: -(2^62)<=hi)(h4:hi<2^62)(q:R (Itr lo (hi-lo).toNat) H):wpAny (model X.prog X.w) X.A (pyIter (.ref s.heap.objs.size)) (PIE X pins σ tg R) E {s with heap:=s.heap.push {cls:=.type "range",data:=.fields #[.int lo t,.int hi u,.int 1 v]},toks:=tk}:=by
 refine wpAny_pyIter_range (IsRange.new ..) (small_one h1 h2 h3 h4) ?_
 have I1:Inv X pins σ H {s with heap:=s.heap.push {cls:=.type "range",data:=.fields #[.int lo t,.int hi u,.int 1 v]},toks:=tk}:=I.kept λb o e=>rV _ e
 refine⟨(s.heap.push {cls:=.type "range",data:=.fields #[.int lo t,.int hi u,.int 1 v]}).objs.size,[(s.heap.push {cls:=.type "range",data:=.fields #[.int lo t,.int hi u,.int 1 v]}).objs.size],_,_,H,rfl,
  I1.kept (t':=tk) λb o e=>rV _ e,Ro _ lo (hi-lo).toNat,?_,λb hb=>?_,q⟩
 .have e1:lo+((0:Nat):Int)*1=lo:=by simp
  have e2:(((hi-lo).toNat:Nat):Int)-((0:Nat):Int)=Builtin.Range.rangeSize lo hi 1:=by rw[rangeSize_one];split<;>lia
  show IsRangeIter _ _ (lo+((0:Nat):Int)*1) ((((hi-lo).toNat:Nat):Int)-((0:Nat):Int)) 1
  rw[e1,e2]
  exact sS _ rfl
 .have e:b=(s.heap.push {cls:=.type "range",data:=.fields #[.int lo t,.int hi u,.int 1 v]}).objs.size:=by simpa using hb
  subst e
  exact I1.bz (sD _) (I1.hok.fresh (sD _))
noncomputable def mL(ta:TA):TI:=λσ H R=>ta σ H λvs H1=>∃j:Int,vs=[.int j]/\ -(2^62)<=j/\j<2^62/\R (Itr 0 j.toNat) H1
theorem UD{a:sW}{ta:TA}{p pos:Pos}(hg:Gl X "range")(hm:X.mg "range"=none)(ha:PA X [a] ta)(hs:sE [a] X.env=[(false,eval a X.env)]:=by rfl):PI X tg (.Call (.Name "range" p) [a] [] pos) (mL ta):=by
 intro pins s σ H R I h
 refine Call_ (MQ I hg hm boot_range (wC (thn (ha pos pins s σ H _ I h) λus s1 ⟨vs,H1,I1,r1,q1⟩=>?_) hs rfl))
 obtain⟨j,e,q1,q2,q⟩:=q1
 subst e
 cases r1 with
 |cons r rr=>
  cases rr
  obtain⟨t,rfl⟩:=r
  exact call_range_1 (Ws I1 (by lia) (by lia) q1 q2 (by simpa using q))
noncomputable def q8(wi:TI)(g:TG)(tb:TS):TS:=λD σ H=>wi σ H λJ H1=>∃W:Nat->Nat->St->Hp->Prop,(∃m,W 0 m σ H1)/\∀i m σ H,W i m σ H->
 (J.stop i H/\D.nx σ H)\/(J.go i H/\∃N:St->Hp->Prop,(∀σ' H',N σ' H'->∃m',m'<m/\W (i+1) m' σ' H')/\∀x H',J.yld i H x H'->g x σ H' λσ2 H2=>tb {D with nx:=N,ct:=N,bk:=D.nx} σ2 H2)
noncomputable def OA(fp:Wp rY)(h:tT):Wp (rY×Obj):=fp.filterMap λb=>(h.get? b).map λo=>(b,o)
theorem Ht{fp:Wp rY}{h:tT}{b:rY}{o:Obj}(hb:b∈fp)(e:h.get? b=Gc o):(b,o)∈OA fp h:=yI.mpr ⟨b,hb,by rw[e];rfl⟩
theorem Su{fp:Wp rY}{h:tT}{p:rY×Obj}(hp:p∈OA fp h):p.1∈fp/\h.get? p.1=Gc p.2:=by
 obtain⟨b,hb,e⟩:=yI.mp hp
 cases q:h.get? b with
 |none=>rw[q]at e;cases e
 |some o=>
  rw[q]at e
  have e':(b,o)=p:=uo e
  subst e'
  exact⟨hb,q⟩
theorem Inv.pinned{pins:Wp (rY×Obj)}{σ:St}{H:Hp}{s:rX}{fp:Wp rY}(I:Inv X pins σ H s)(hf:∀b∈fp,QE X pins H b)(ho:∀b∈fp,∃o,s.heap.get? b=Gc o/\∀v,o.data≠.cell v):Inv X (pins++OA fp s.heap) σ H s:=
 I.TB λp hp=>(sX.mp hp).elim (λz=>I.pin p (tm _ z)) λz=>by
  obtain⟨hb,e⟩:=Su z
  obtain⟨f0,f1,f2,_⟩:=hf p.1 hb
  obtain⟨o,e',d⟩:=ho p.1 hb
  rw[e]at e';cases e'
  exact⟨e,f0,f1,f2,d⟩
theorem Inv.Kj{pins pl:Wp (rY×Obj)}{σ:St}{H:Hp}{s:rX}(I:Inv X (pins++pl) σ H s):Inv X pins σ H s:=I.TB λp hp=>I.pin p (tm _ (xg _ hp))
theorem fZ{iter:sW}{body:Wp tE}{wi:TI}{g:TG}{tb:TS}{pos:Pos}(hp:PassesOwn (model X.prog X.w) X.A X.env X.xe)(hc:X.calm=true)(hi:PI X tg iter wi)(hg:PG X tg g)(hb:PSs X body tb)(hs:∀x,foldedSetIterable iter X.env x=pure x:=by intro _;rfl):PS X (.For tg iter body [] pos) (q8 wi g tb):=by
 intro pins s σ H D I h
 refine wpAny_For (thn (hi pins s σ H _ I h) λv s1 h1=>thn h1 λitv s2 h2=>?_) hs
 obtain⟨it,fp,tn,J,H2,e,I2,T,st2,f2,W,⟨m0,w0⟩,turn⟩:=h2
 subst e
 have stat:∀{H':Hp},(∀b∈fp,H' b=none)->∀b∈fp,QE X pins H' b:=λhn b hb=>⟨hn b hb,(f2 b hb).2⟩
 refine codeAny_forLoop_any (λn s'=>∃i σ' H',Inv X pins σ' H' s'/\tn i s'.heap/\(∀b∈fp,H' b=none)/\W i n σ' H') ?_ m0 ⟨0,σ,H2,I2,st2,λb hb=>(f2 b hb).1,w0⟩
 rintro n s3 ⟨i,σ3,H3,I3,st3,fr3,w3⟩
 rcases turn i n σ3 H3 w3 with⟨stop,qn⟩|⟨go,N,hN,step⟩
 .refine ve hp (thn (T.done X rfl rfl rfl hc i pins s3 σ3 H3 X.xe I3 (stat fr3) st3 stop) λr s4 ⟨hr,I4⟩=>?_)
  subst hr
  exact wg ⟨σ3,H3,I4,qn⟩
 .refine ve hp (thn (T.item X rfl rfl rfl hc i pins s3 σ3 H3 X.xe I3 (stat fr3) st3 go) λr s4 ⟨u,hr,h4⟩=>?_)
  subst hr
  refine ve hp (thn h4 λ_ s5 ⟨x,H5,I5,r5,y5,st5,fr5⟩=>?_)
  have I5':=I5.pinned (stat fr5) (T.obj _ _ st5)
  refine ve hp (thn (hg _ s5 σ3 H5 x u _ I5' r5 (step x H5 y5)) λ_ s6 ⟨σ6,H6,I6,q6⟩=>?_)
  refine ve hp (thn (hb _ s6 σ6 H6 _ I6 q6) λf s7 q7=>?_)
  have again:∀{σ7:St} {H7:Hp},Inv X (pins++OA fp s5.heap) σ7 H7 s7->N σ7 H7->∃m,m<n/\∃i σ' H',Inv X pins σ' H' s7/\tn i s7.heap/\(∀b∈fp,H' b=none)/\W i m σ' H':=λ{σ7 H7} I7 n7=>by
   obtain⟨m',hm,w7⟩:=hN σ7 H7 n7
   refine⟨m',hm,i+1,σ7,H7,I7.Kj,T.keep _ _ _ st5 λb hb o e=>(I7.pin (b,o) (tm _ (tm _ (Ht hb e)))).1,λb hb=>?_,w7⟩
   obtain⟨o,e,d⟩:=T.obj _ _ st5 b hb
   exact(I7.pin (b,o) (tm _ (tm _ (Ht hb e)))).2.1
  cases f with
  |next=>obtain⟨σ7,H7,I7,n7⟩:=q7;exact again I7 n7
  |cont=>obtain⟨σ7,H7,I7,n7⟩:=q7;exact again I7 n7
  |brk=>obtain⟨σ7,H7,I7,q7⟩:=q7;exact⟨σ7,H7,I7.Kj,q7⟩
  |ret v=>obtain⟨x7,σ7,H7,I7,r7,q7⟩:=q7;exact⟨x7,σ7,H7,I7.Kj,r7,q7⟩
end
end L2
namespace L2
open PySem PySem.Spec PyProof.Rows
abbrev R2:=V->V->Hp->VK->Prop
def OpR(X:Cx)(f:rS->rS->Sem rS)(r:R2):Prop:=
 ∀(pins:Wp (rY×Obj)) (s:rX) (σ:St) (H:Hp) (x y:V) (v u:rS) (Q:VK),Inv X pins σ H s->RelV x v->RelV y u->r x y H Q->
  wpAny (model X.prog X.w) X.A (f v u) (EP X pins σ Q) X.xe s
def UnR(X:Cx)(f:rS->Sem rS)(r:V->Hp->VK->Prop):Prop:=
 ∀(pins:Wp (rY×Obj)) (s:rX) (σ:St) (H:Hp) (x:V) (v:rS) (Q:VK),Inv X pins σ H s->RelV x v->r x H Q->
  wpAny (model X.prog X.w) X.A (f v) (EP X pins σ Q) X.xe s
def EH(X:Cx)(f:rS)(r:Wp V->Hp->VK->Prop):Prop:=
 ∀(pins:Wp (rY×Obj)) (s:rX) (σ:St) (H:Hp) (xs:Wp V) (us:Wp rS) (Q:VK),Inv X pins σ H s->Vals xs us->r xs H Q->
  wpAny (model X.prog X.w) X.A (call f us) (EP X pins σ Q) X.xe s
noncomputable def tOp(r:R2)(ta tb:TE):TE:=λσ H Q=>ta σ H λx H1=>tb σ H1 λy H2=>r x y H2 Q
noncomputable def tUn(r:V->Hp->VK->Prop)(ta:TE):TE:=λσ H Q=>ta σ H λx H1=>r x H1 Q
noncomputable def rI(C:Int->Int->Prop)(g:Int->Int->V):R2:=λx y H Q=>∃i j,x=.int i/\y=.int j/\C i j/\Q (g i j) H
noncomputable def rI0(g:Int->Int->V):R2:=λx y H Q=>∃i j,x=.int i/\y=.int j/\Q (g i j) H
def rU(g:Int->V):V->Hp->VK->Prop:=λx H Q=>∃i,x=.int i/\Q (g i) H
section
variable{X:Cx}{a b c:sW}{ta tb tc:TE}{pos:Pos}
theorem mw(ha:PE X a ta)(hb:PE X b tb){pins:Wp (rY×Obj)}{s:rX}{σ:St}{H:Hp}{R:V->V->Hp->Prop}(I:Inv X pins σ H s)(h:ta σ H λx H1=>tb σ H1 λy H2=>R x y H2){Q:rS->rX->Prop}{f:rS->rS->Sem rS}(hf:∀v u s2 x y H2,Inv X pins σ H2 s2->RelV x v->RelV y u->R x y H2->wpAny (model X.prog X.w) X.A (f v u) Q X.xe s2):wpAny (model X.prog X.w) X.A (eval a X.env) (λv s₁=>wpAny (model X.prog X.w) X.A (eval b X.env) (λu s₂=>wpAny (model X.prog X.w) X.A (f v u) Q X.xe s₂) X.xe s₁) X.xe s:=by
 refine thn (ha pins s σ H _ I h) λv s1 ⟨x,H1,I1,r1,q1⟩=>?_
 refine thn (hb pins s1 σ H1 _ I1 q1) λu s2 ⟨y,H2,I2,r2,q2⟩=>?_
 exact hf v u s2 x y H2 I2 r1 r2 q2
theorem mn{op:Operator}{r:R2}(ho:OpR X (binaryOp op) r)(ha:PE X a ta)(hb:PE X b tb):PE X (.BinOp a op b pos) (tOp r ta tb):=by
 intro pins s σ H Q I h
 exact wpAny_BinOp (mw ha hb I h λv u s2 x y H2 I2 rx ry q=>ho pins s2 σ H2 x y v u Q I2 rx ry q)
theorem gU{op:UnaryOp}{r:V->Hp->VK->Prop}(ho:UnR X (unaryOp op) r)(ha:PE X a ta):PE X (.UnaryOp op a pos) (tUn r ta):=by
 intro pins s σ H Q I h
 exact UnaryOp_ (thn (ha pins s σ H _ I h) λv s1 ⟨x,H1,I1,r1,q1⟩=>ho pins s1 σ H1 x v Q I1 r1 q1)
theorem opI{f:rS->rS->Sem rS}{C:Int->Int->Prop}{g:Int->Int->Int}(rule:∀(i j:Int) (t u:Tok) (s:rX) (Q:rS->rX->Prop) (E:rS->rX->Prop),C i j->Q (.int (g i j) s.toks) {s with toks:=s.toks+1}->wpAny (model X.prog X.w) X.A (f (.int i t) (.int j u)) Q E s):OpR X f (rI C λi j=>.int (g i j)):=by
 intro pins s σ H x y v u Q I rx ry h
 obtain⟨i,j,rfl,rfl,hc,q⟩:=h
 obtain⟨t,rfl⟩:=rx
 obtain⟨t',rfl⟩:=ry
 exact rule i j t t' s _ _ hc ⟨.int (g i j),H,I.tok _,⟨_,rfl⟩,q⟩
theorem pC{f:rS->rS->Sem rS}{g:Int->Int->Int}(rule:∀(i j:Int) (t u:Tok) (s:rX) (Q:rS->rX->Prop) (E:rS->rX->Prop),Q (.int (g i j) s.toks) {s with toks:=s.toks+1}->wpAny (model X.prog X.w) X.A (f (.int i t) (.int j u)) Q E s):OpR X f (rI0 λi j=>.int (g i j)):=by
 intro pins s σ H x y v u Q I rx ry h
 obtain⟨i,j,rfl,rfl,q⟩:=h
 obtain⟨t,rfl⟩:=rx
 obtain⟨t',rfl⟩:=ry
 exact rule i j t t' s _ _ ⟨.int (g i j),H,I.tok _,⟨_,rfl⟩,q⟩
theorem kL{f:rS->rS->Sem rS}{g:Int->Int->sx}(rule:∀(i j:Int) (t u:Tok) (s:rX) (Q:rS->rX->Prop) (E:rS->rX->Prop),Q (.bool (g i j)) s->wpAny (model X.prog X.w) X.A (f (.int i t) (.int j u)) Q E s):OpR X f (rI0 λi j=>.bl (g i j)):=by
 intro pins s σ H x y v u Q I rx ry h
 obtain⟨i,j,rfl,rfl,q⟩:=h
 obtain⟨t,rfl⟩:=rx
 obtain⟨t',rfl⟩:=ry
 exact rule i j t t' s _ _ ⟨.bl (g i j),H,I,rfl,q⟩
def pM(i j:Int):Prop:=0<=j/\j<=1000000/\i.natAbs<2^64
def l0(i j:Int):Prop:=(-(2^64)<i/\i<2^64)\/(-(2^64)<j/\j<2^64)
theorem l0.ok{i j:Int}(h:l0 i j):IntMulOk i j:=by
 rcases h with⟨h1,h2⟩|⟨h1,h2⟩
 .exact .of_left (intBits_le_64 h1 h2)
 .exact .of_right (intBits_le_64 h1 h2)
theorem iT:OpR X (binaryOp .Add) (rI0 λi j=>.int (i+j)):=pC λ_ _ _ _ _ _ _ q=>add_int q
theorem gG:OpR X (binaryOp .Sub) (rI0 λi j=>.int (i-j)):=pC λ_ _ _ _ _ _ _ q=>sub_int q
theorem YW:OpR X (binaryOp .Mult) (rI l0 λi j=>.int (i*j)):=opI λ_ _ _ _ _ _ _ hc q=>mul_int q hc.ok
theorem iJ:OpR X (binaryOp .Mod) (rI (λ_ j=>0<j) λi j=>.int (i % j)):=opI λi j _ _ _ _ _ hc q=>by
 have h1:(0:Int)<j:=hc
 exact mod_int' (by lia) (by rw[Int.fmod_eq_emod_of_nonneg i (by lia)];exact q)
theorem fN:OpR X (binaryOp .Pow) (rI pM λi j=>.int (i^j.toNat)):=opI λ_ _ _ _ _ _ _ hc q=>pow_int_small hc.1 hc.2.1 hc.2.2 q
theorem unI{f:rS->Sem rS}{g:Int->Int}(rule:∀(i:Int) (t:Tok) (s:rX) (Q:rS->rX->Prop) (E:rS->rX->Prop),Q (.int (g i) s.toks) {s with toks:=s.toks+1}->wpAny (model X.prog X.w) X.A (f (.int i t)) Q E s):UnR X f (rU λi=>.int (g i)):=by
 intro pins s σ H x v Q I rx h
 obtain⟨i,rfl,q⟩:=h
 obtain⟨t,rfl⟩:=rx
 exact rule i t s _ _ ⟨.int (g i),H,I.tok _,⟨_,rfl⟩,q⟩
theorem Yh:UnR X (unaryOp .USub) (rU λi=>.int (-i)):=unI λ_ _ _ _ _ q=>neg_int q
end
section
variable{X:Cx}{a b c:sW}{ta tb tc:TE}{pos:Pos}
theorem fT{pins:Wp (rY×Obj)}{σ:St}{H:Hp}{s:rX}{Q:VK}{k k':sx}(I:Inv X pins σ H s)(q:Q (.bl k) H)(e:k=k'):EP X pins σ Q (.bool k') s:=by
 subst e
 exact⟨.bl k,H,I,rfl,q⟩
theorem kW:OpR X (compareOp .Lt) (rI0 λi j=>.bl (decide (i<j))):=kL λ_ _ _ _ _ _ _ q=>lt_int q
theorem aO:OpR X (compareOp .LtE) (rI0 λi j=>.bl (decide (i<=j))):=kL λ_ _ _ _ _ _ _ q=>le_int q
theorem kr:OpR X (compareOp .Gt) (rI0 λi j=>.bl (decide (j<i))):=kL λ_ _ _ _ _ _ _ q=>gt_int q
theorem kq:OpR X (compareOp .GtE) (rI0 λi j=>.bl (decide (j<=i))):=kL λ_ _ _ _ _ _ _ q=>ge_int q
theorem Zo:OpR X (compareOp .IsNot) (λx y H Q=>y=.non/\Q (.bl (!decide (x=.non))) H):=by
 intro pins s σ H x y v u Q I rx ry h
 obtain⟨rfl,q⟩:=h
 cases ry
 refine isnot_none_gen (fT I q ?_)
 cases x<;>first
  |(cases rx;rfl)
  |(obtain⟨t,rfl⟩:=rx;rfl)
theorem cF{op:CmpOp}{r:R2}(ho:OpR X (compareOp op) r)(ha:PE X a ta)(hb:PE X b tb)(hm:behindInMarks op b=false):PE X (.Compare a [op] [b] pos) (tOp r ta tb):=by
 intro pins s σ H Q I h
 exact wpAny_Compare1 (mw ha hb I h λv u s2 x y H2 I2 rx ry q=>ho pins s2 σ H2 x y v u Q I2 rx ry q) hm
noncomputable def iD(t:TE):TT:=λσ H Q=>t σ H λx H'=>∃k,x=.bl k/\Q k H'
theorem VZ{op:CmpOp}{r:R2}(ho:OpR X (compareOp op) r)(ha:PE X a ta)(hb:PE X b tb)(hm:behindInMarks op b=false):PT X (.Compare a [op] [b] pos) (iD (tOp r ta tb)):=by
 intro pins s σ H Q I h
 refine wpAny_isTrue_Compare1 (thn (ha pins s σ H _ I h) λv s1 ⟨x,H1,I1,r1,q1⟩=>thn (hb pins s1 σ H1 _ I1 q1) λu s2 ⟨y,H2,I2,r2,q2⟩=>
  thn (ho pins s2 σ H2 x y v u _ I2 r1 r2 q2) λc s3 ⟨z,H3,I3,r3,k,e,q3⟩=>?_) hm
 subst e
 cases r3
 exact vL ⟨H3,I3,q3⟩
noncomputable def Y3(r r':R2)(ta tb tc:TE):TE:=λσ H Q=>ta σ H λx H1=>tb σ H1 λy H2=>r x y H2 λz H3=>∃k,z=.bl k/\
 (if k=true then tc σ H3 λw' H4=>r' y w' H4 Q else Q (.bl false) H3)
theorem WN{op op':CmpOp}{r r':R2}(ho:OpR X (compareOp op) r)(ho':OpR X (compareOp op') r')(ha:PE X a ta)(hb:PE X b tb)(hc:PE X c tc)(hm:lastMarks [op,op'] [b,c]=false:=by with_unfolding_all rfl):PE X (.Compare a [op,op'] [b,c] pos) (Y3 r r' ta tb tc):=by
 intro pins s σ H Q I h
 refine Compare_chain (thn (ha pins s σ H _ I h) λv s1 ⟨x,H1,I1,r1,q1⟩=>chain_link (thn (hb pins s1 σ H1 _ I1 q1) λu s2 ⟨y,H2,I2,r2,q2⟩=>
  thn (ho pins s2 σ H2 x y v u _ I2 r1 r2 q2) λd s3 ⟨z,H3,I3,r3,k,e,q3⟩=>?_)) hm
 subst e
 cases r3
 refine vL ?_
 cases k with
 |false=>exact ite_ff ⟨.bl false,H3,I3,rfl,q3⟩
 |true=>exact ite_tt (chain_last (thn (hc pins s3 σ H3 _ I3 q3) λw' s4 ⟨z',H4,I4,r4,q4⟩=>ho' pins s4 σ H4 y z' u w' Q I4 r2 r4 q4))
theorem PJ:(sizeLine:Nat)<2^63:=by rw[zW];decide
theorem Ra:OpR X (binaryOp .Add) (λx y H Q=>∃i j,x=.str i/\y=.str j/\i.length+j.length<=sizeLine/\Q (.str (i++j)) H):=by
 intro pins s σ H x y v u Q I rx ry h
 obtain⟨i,j,rfl,rfl,hz,q⟩:=h
 obtain⟨t,rfl⟩:=rx
 obtain⟨t',rfl⟩:=ry
 exact add_str (λt' tk=>⟨.str (i++j),H,I.tok _,⟨_,rfl⟩,q⟩) hz
theorem vals1{x:V}{us:Wp rS}(r:Vals [x] us):∃u,us=[u]/\RelV x u:=by
 cases r with
 |cons r1 r2=>cases r2;exact⟨_,rfl,r1⟩
theorem vals2{x y:V}{us:Wp rS}(r:Vals [x,y] us):∃u w',us=[u,w']/\RelV x u/\RelV y w':=by
 cases r with
 |cons r1 r2=>
  cases r2 with
  |cons r3 r4=>cases r4;exact⟨_,_,rfl,r1,r3⟩
theorem Xx:EH X (.builtin "abs") (λxs H Q=>∃i,xs=[.int i]/\Q (.int (if i<0 then-i else i)) H):=by
 intro pins s σ H xs us Q I r h
 obtain⟨i,rfl,q⟩:=h
 obtain⟨u,rfl,t,rfl⟩:=vals1 r
 exact call_abs_int λu tk=>⟨.int (if i<0 then-i else i),H,I.tok _,⟨_,rfl⟩,q⟩
theorem Ta(hc:X.calm=true):EH X (.builtin "min") (λxs H Q=>∃i j,xs=[.int i,.int j]/\Q (.int (if j<i then j else i)) H):=by
 intro pins s σ H xs us Q I r h
 obtain⟨i,j,rfl,q⟩:=h
 obtain⟨u,w',rfl,⟨t,rfl⟩,⟨t',rfl⟩⟩:=vals2 r
 refine min_two_ints (I.ok.hd hc) λh' tk k=>⟨_,H,I.kept k,?_,q⟩
 by_cases hj:j<i
 .rw[sZ hj,sZ hj];exact⟨_,rfl⟩
 .rw[sg hj,sg hj];exact⟨_,rfl⟩
theorem PK:EH X (.type "int") (λxs H Q=>(∃i,xs=[.int i]/\Q (.int i) H)\/∃k,xs=[.bl k]/\Q (.int (if k then 1 else 0)) H):=by
 intro pins s σ H xs us Q I r h
 rcases h with⟨i,rfl,q⟩|⟨k,rfl,q⟩
 .obtain⟨u,rfl,t,rfl⟩:=vals1 r
  exact call_int_int ⟨.int i,H,I,⟨_,rfl⟩,q⟩
 .obtain⟨u,rfl,r1⟩:=vals1 r
  cases r1
  exact call_int_bool ⟨.int (if k then 1 else 0),H,I.tok _,⟨_,rfl⟩,q⟩
theorem Oj:EH X (.type "str") (λxs H Q=>∃i,xs=[.int i]/\i.natAbs.log2<1920/\Q (.str (toString i)) H):=by
 intro pins s σ H xs us Q I r h
 obtain⟨i,rfl,hz,q⟩:=h
 obtain⟨u,rfl,t,rfl⟩:=vals1 r
 exact PySem.P.str_of_int hz ⟨.str _,H,I.tok _,⟨_,rfl⟩,q⟩
end
end L2
namespace L2
open PySem PySem.Spec PyProof.Rows
structure aS(h:tT)(x dx C:rY)(mA:Str->rW rS):Prop where
 obj:h.get? x=Gc (vN C dx)
 ns:h.Ns1 dx mA
 ne:dx≠x
theorem Vd{h:tT}{dx:rY}{mA:Str->rW rS}(n:h.Ns1 dx mA):∃od,h.get? dx=Gc od/\∀name,yJ name od=Gc (mA name):=by
 obtain⟨o,es,ep,ho,hd,hk,_,hm⟩:=n
 refine⟨o,ho,λname=>?_⟩
 have e:=hm name
 unfold nsFind findBy at e
 rw[<-Array.find?_toList]at e
 unfold yJ
 rw[hd]
 dsimp only
 split
 .rename_i y q
  rw[q]at e
  exact congrArg Gc e
 .rename_i q
  rw[q]at e
  have a:es.toList.any (·.refKey)=false:=by
   rw[List.any_eq_false]
   intro y hy
   obtain⟨z,t,hkey⟩:=hk y (Array.mem_toList_iff.mp hy)
   simp[DictEntry.refKey,hkey]
  have a':¬es.toList.any (·.refKey)=true:=by rw[a];exact tq
  rw[sg a']
  exact congrArg Gc e
theorem aS.look{h:tT}{x dx C:rY}{mA:Str->rW rS}(I:aS h x dx C mA):∃od,PySem.W.InstAt h x (vN C dx) C (Gc od)/\∀name,yJ name od=Gc (mA name):=
 let⟨od,ho,hl⟩:=Vd I.ns
 ⟨od,⟨I.obj,rfl,rfl,ho⟩,hl⟩
section
variable{prog:sf}{w:tU}{A:tN}{E:rS->rX->Prop}{s:rX}{K:W1}{x dx C f:rY}{mA:Str->rW rS}{name:Str}{v:rS}
theorem get_map{expr:sx}{Q:rS->rX->Prop}(X:K.In s.heap)(I:aS s.heap x dx C mA)(hg:wN K C name=true)(hh:xC K C=true)(ha:uH K (.ref C) name=Gc none)(hv:mA name=Gc v)(hv':PySem.W.handedIn v=true)(h:Q v {s with toks:=s.toks+1}):wpAny (model prog w) A (getAttr (.ref x) name expr) Q E s:=by
 obtain⟨od,J,hl⟩:=I.look
 exact PySem.W.get_value X J (xr hg).1 (PySem.W.findObj_own hh ha rfl (by rw[hl,hv])) hv' h
theorem Xz{pl:Sem sx}{Q:rS×Wp rS->rX->Prop}(X:K.In s.heap)(I:aS s.heap x dx C mA)(hg:wN K C name=true)(hf:uH K (.ref C) name=Gc (Gc (.ref f)))(ht:xw K (.ref f)=true)(hv:mA name=none)(h:Q (.ref f,[.ref x]) s):wpAny (model prog w) A (getMethod (.ref x) name pl) Q E s:=by
 obtain⟨od,J,hl⟩:=I.look
 exact PySem.W.method_fn X J (xr hg).1 (xr hg).2 hf (vC.mp ht) (by show(yJ name od).map (·.isSome)=Gc false;rw[hl,hv];rfl) h
theorem cK{ns:Wp Str}{Q:Unit->rX->Prop}(X:K.In s.heap)(I:aS s.heap x dx C mA)(hs:uH K (.ref C) "__setattr__"=Gc (Gc (.builtin "object.__setattr__")))(hp:ya K C=true)(ht:zF K C name=Gc none)(hh:xC K C=true)(hw:PySem.Within mA ns)(hsz:ns.length<=sizeLine)(h:∀h',aS h' x dx C (λy=>if y=name then Gc v else mA y)->wM dx s.heap h'->Q () {s with heap:=h',toks:=s.toks+2}):wpAny (model prog w) A (setAttr (.ref x) name v) Q E s:=by
 obtain⟨od,J,hl⟩:=I.look
 refine PySem.W.set_plain X J hs (PySem.W.osa_open (s:={s with toks:=s.toks+1}) (r:=none) X J hp ht λb=>?_)
 obtain⟨cd,hc,hd'⟩:=PySem.W.any_some hh
 have hx:s.heap.get? x=Gc ⟨.ref C,Gc dx,.plain, #[]⟩:=I.obj
 refine rT (sG (rT (rT (wpAny_loadPart hx (rT (PySem.W.Looks.here (s:={s with toks:=s.toks+1}) (PySem.W.looks_clsIn X hc) ?_))))))
 rw[hd']
 refine sG (a:=Gc dx) (rT (sG (rT ?_)))
 refine wpAny_nsSet1 (s:={s with toks:=s.toks+1}) I.ns λh' hn2 hs2=>?_
 obtain⟨oD,esD,epD,hoD,hdD,hcD⟩:=hn2.count (PySem.Within.cons name v hw)
 refine rT (wpAny_lookBehind hoD (by rw[hdD];exact pastItsLine_dict (sI hcD (by rw[sk];lia))) ?_)
 exact sG (h _ ⟨(hs2.2 _ (uX I.ne)).trans I.obj,hn2,I.ne⟩ hs2)
theorem RF{R:Result->rX->Prop}{vs:Wp rS}{kw:Wp (Str×rS)}(X:K.In s.heap)(hm:zG K C=true)(hi:uH K (.ref C) "__init__"=Gc (Gc (.ref f)))(hf:PySem.W.typeIn K (.ref f)=Gc (.type "function"))(h:codeAny (model prog w) (A.under (.builtin "type.__call__" ⟨.ref C::vs,kw⟩)) (.call (.ref f) ⟨.ref (s.heap.objs.size+1)::vs,kw⟩) (PySem.W.InitBack (s.heap.objs.size+1) R) {s with heap:=(s.heap.push ui).push (vN C s.heap.objs.size)}):codeAny (model prog w) A (.call (.ref C) ⟨vs,kw⟩) R s:=by
 obtain⟨hh,g,d,t,os⟩:=s
 exact PySem.W.make_core (PySem.W.makes_of X hm) (PySem.W.looks_findIn X hi) (λself=>PySem.W.bind_fn X self hf) (.inl rfl) h
end
noncomputable def Me(f:Str)(v:V):Wp (Str×V)->Wp (Str×V)
 | []=>[(f,v)]
 |(g,x)::r=>if g=f then(g,v)::r else(g,x)::Me f v r
theorem Lv(f g:Str)(v:V):∀fs:Wp (Str×V),(Me f v fs).lookup g=if g=f then Gc v else fs.lookup g
 | []=>by
   show uu g [(f,v)]=_
   by_cases h:g=f
   .have hb:(g==f)=true:=vC.mpr h
    simp only[uu,hb,sZ h]
   .have hb:(g==f)=false:=tO.mpr h
    simp only[uu,hb,sg h]
 |(k,x)::r=>by
  have ih:=Lv f g v r
  rw[show Me f v ((k,x)::r)=(if k=f then(k,v)::r else(k,x)::Me f v r)from rfl]
  by_cases hk:k=f
  .rw[sZ hk]
   by_cases h:g=k
   .have hb:(g==k)=true:=vC.mpr h
    simp only[uu,hb,sZ (h.trans hk)]
   .have hb:(g==k)=false:=tO.mpr h
    simp only[uu,hb,sg (λe:g=f=>h (e.trans hk.symm))]
  .rw[sg hk]
   by_cases h:g=k
   .have hb:(g==k)=true:=vC.mpr h
    simp only[uu,hb,sg (λe:g=f=>hk (h.symm.trans e))]
   .have hb:(g==k)=false:=tO.mpr h
    simp only[uu,hb]
    exact ih
theorem LF(f:Str)(v:V):∀fs:Wp (Str×V),f∈(Me f v fs).map (·.1)/\∀g,g∈fs.map (·.1)->g∈(Me f v fs).map (·.1)
 | []=>⟨by simp[Me],λg h=>by simp at h⟩
 |(k,x)::r=>by
  obtain⟨i1,i2⟩:=LF f v r
  rw[show Me f v ((k,x)::r)=(if k=f then(k,v)::r else(k,x)::Me f v r)from rfl]
  by_cases hk:k=f
  .rw[sZ hk]
   subst hk
   exact⟨by simp,λg h=>by simpa using h⟩
  .rw[sg hk]
   refine⟨?_,λg h=>?_⟩
   .rw[sV]
    exact rg _ i1
   .rw[sV]at h⊢
    rcases rZ.mp h with e|e
    .exact rZ.mpr (.inl e)
    .exact rg _ (i2 g e)
theorem Lg(f:Str)(v:V):∀fs:Wp (Str×V),(Me f v fs).length<=fs.length+1
 | []=>by simp[Me]
 |(k,x)::r=>by
  have ih:=Lg f v r
  rw[show Me f v ((k,x)::r)=(if k=f then(k,v)::r else(k,x)::Me f v r)from rfl]
  by_cases hk:k=f
  .rw[sZ hk,sk,sk];lia
  .rw[sg hk,sk,sk];lia
theorem P2.some_of{v:V}{o:rW rS}(r:P2 (Gc v) o):∃u,o=Gc u/\RelV v u:=by
 cases o with
 |none=>exact(show ur from r).elim
 |some u=>exact⟨u,rfl,r⟩
theorem P2.none_of{o:rW rS}(r:P2 none o):o=none:=by
 cases o with
 |none=>rfl
 |some u=>exact(show ur from r).elim
theorem UI{v:V}{u:rS}(r:RelV v u):PySem.W.handedIn u=true:=by
 cases v with
 |non=>cases (show u=tP from r);rfl
 |bl b=>cases (show u=yE b from r);rfl
 |int i=>obtain⟨t,e⟩:=(show∃t,u=yB i t from r);cases e;rfl
 |str x=>obtain⟨t,e⟩:=(show∃t,u=yC x t from r);cases e;rfl
 |byt b=>obtain⟨t,e⟩:=(show∃t,u=Value.bytes b t from r);cases e;rfl
 |flt b=>obtain⟨t,e⟩:=(show∃t,u=Value.float b t from r);cases e;rfl
 |ref a=>cases (show u=si a from r);rfl
 |ty n=>cases (show u=yF n from r);rfl
section
variable{P:sf}{w:tU}{H H':Hp}{h h':tT}{a C dx:rY}{fs fs':Wp (Str×V)}
theorem Nn(hok:HOk P w H h)(e:H a=Gc (.ins C dx fs)):∃mA,aS h a dx C mA/\(∀f,P2 (fs.lookup f) (mA f))/\PySem.Within mA (fs.map (·.1))/\fs.length<=1000/\H dx=Gc (.own a):=by
 obtain⟨d,z,ne,ob,mA,n,r,q⟩:=(show C0 P w H h a (.ins C dx fs)from hok a _ e)
 exact⟨mA,⟨ob,n,ne⟩,r,q,z,d⟩
end
structure Cls(K:W1)(C:rY):Prop where
 pg:wN K C Str.empty=true
 hd:xC K C=true
 po:ya K C=true
 sa:uH K (.ref C) "__setattr__"=Gc (Gc (.builtin "object.__setattr__"))
theorem Cls.get{K:W1}{C:rY}(c:Cls K C)(f:Str):wN K C f=true:=c.pg
def He(K:W1)(C:rY)(f:Str):Prop:=uH K (.ref C) f=Gc none
theorem He.nD{K:W1}{C:rY}{f:Str}(n:He K C f):zF K C f=Gc none:=by
 unfold zF
 rw[show uH K (.ref C) f=Gc none from n]
 rfl
structure Con(K:W1)(C:rY)(f:Str)(v:V)(u:rS):Prop where
 at_:uH K (.ref C) f=Gc (Gc u)
 rel:RelV v u
 get:PySem.W.specialIn K u "__get__"=Gc none
 cp:PySem.W.copiedNames.contains f=false
structure Meth(K:W1)(C:rY)(m:Str)(f:rY):Prop where
 at_:uH K (.ref C) m=Gc (Gc (.ref f))
 fn:xw K (.ref f)=true
 kp:uL K (.ref f)=true
section
variable{X:Cx}{pins:Wp (rY×Obj)}{σ:St}{H:Hp}{s:rX}{a C dx:rY}{fs:Wp (Str×V)}{f:Str}{v:V}{A:tN}{E:rS->rX->Prop}
theorem Rh{b:sx}{Q:rS->rX->Prop}(I:Inv X pins σ H s)(e:H a=Gc (.ins C dx fs))(c:Cls X.K C)(n:He X.K C f)(l:fs.lookup f=Gc v)(h:∀u s',Inv X pins σ H s'->RelV v u->Q u s'):wpAny (model X.prog X.w) A (getAttr (.ref a) f b) Q E s:=by
 obtain⟨mA,O,r,_,_,_⟩:=Nn I.hok e
 obtain⟨u,hu,ru⟩:=P2.some_of (v:=v) (o:=mA f) (by rw[<-l];exact r f)
 exact get_map I.kIn O (c.get f) c.hd n hu (UI ru) (h u _ (I.tok _) ru)
theorem Ji{m:Str}{g:rY}{pl:Sem sx}{Q:rS×Wp rS->rX->Prop}(I:Inv X pins σ H s)(e:H a=Gc (.ins C dx fs))(c:Cls X.K C)(k:Meth X.K C m g)(l:fs.lookup m=none)(h:Q (.ref g,[.ref a]) s):wpAny (model X.prog X.w) A (getMethod (.ref a) m pl) Q E s:=by
 obtain⟨mA,O,r,_,_,_⟩:=Nn I.hok e
 have hn:mA m=none:=P2.none_of (by rw[<-l];exact r m)
 exact Xz I.kIn O (c.get m) k.at_ k.fn hn h
theorem R8{y:V}{u:rS}{Q:Unit->rX->Prop}(I:Inv X pins σ H s)(e:H a=Gc (.ins C dx fs))(c:Cls X.K C)(n:He X.K C f)(hl:fs.length<1000)(ry:RelV y u)(h:∀s',Inv X pins σ (upd H a (.ins C dx (Me f y fs))) s'->Q () s'):wpAny (model X.prog X.w) A (setAttr (.ref a) f u) Q E s:=by
 obtain⟨mA,O,r,wi,_,ho⟩:=Nn I.hok e
 have hz:(fs.map (·.1)).length<=sizeLine:=by rw[uJ,zW];lia
 refine cK I.kIn O c.sa c.po n.nD c.hd wi hz λh' O' sb=>h _ ?_
 have hd:∃o,h'.get? dx=Gc o:=let⟨o,_,_,e',_⟩:=O'.ns;⟨o,e'⟩
 refine I.write (x:=a) (e:=dx) (by rw[e];exact vw) (.inr ho) (λb q hb z=>(sb.2 b hb).trans z) hd ?_
 refine⟨by rw[AU O.ne];exact ho,?_,O.ne,O'.obj,_,O'.ns,λg=>?_,λg hg=>?_⟩
 .have:=Lg f y fs;lia
 .show P2 ((Me f y fs).lookup g) (if g=f then Gc u else mA g)
  rw[Lv]
  by_cases q:g=f
  .rw[sZ q,sZ q];exact ry
  .rw[sg q,sg q];exact r g
 .by_cases q:g=f
  .rw[q];exact(LF f y fs).1
  .refine(LF f y fs).2 g (wi g λz=>hg ?_)
   show(if g=f then Gc u else mA g)=none
   rw[sg q];exact z
theorem Inv.made(I:Inv X pins σ H s):Inv X pins σ (upd (upd H s.heap.objs.size (.own (s.heap.objs.size+1))) (s.heap.objs.size+1) (.ins C s.heap.objs.size [])) {s with heap:=(s.heap.push ui).push (vN C s.heap.objs.size)}:=by
 have e1:(s.heap.push ui).get? s.heap.objs.size=Gc ui:=sS s.heap rfl
 have e2:((s.heap.push ui).push (vN C s.heap.objs.size)).get? (s.heap.objs.size+1)=Gc (vN C s.heap.objs.size):=by
  have:=sS (s.heap.push ui) (o:=vN C s.heap.objs.size) rfl
  rwa [uU]at this
 have e3:(s.heap.push ui).Ns s.heap.objs.size (λ_=>none):=⟨ui, #[],_,e1,rfl,(λe he=>absurd he (by simp)),λ_=>rfl⟩
 have I1:=I.laid (a:=s.heap.objs.size) (o:=.own (s.heap.objs.size+1)) (h':=s.heap.push ui) (t':=s.toks) (λb u q=>rV _ q) (sD _) ⟨_,e1⟩
 refine I1.laid (a:=s.heap.objs.size+1) (o:=.ins C s.heap.objs.size []) (t':=s.toks) (λb u q=>rV _ q) (Nat.le_of_eq (uU _ _)) ?_
 have ne:s.heap.objs.size≠s.heap.objs.size+1:=tJ (xS _)
 refine⟨by rw[AU ne,Ac],vv _,ne,e2,λ_=>none,(Heap.Ns1.of_empty e3).at λo q=>rV _ q,λ_=>vw,λy hy=>absurd rfl hy⟩
theorem aF{prog:sf}{w:tU}{env:Env}{e:sW}{f:Str}{pos:Pos}{s:rX}{Q:rS->rX->Prop}(hb:attributeBase e f env (eval e env)=eval e env)(h:wpAny (model prog w) A (eval e env) (λo s₁=>wpAny (model prog w) A (getAttr o f true) Q E s₁) E s):wpAny (model prog w) A (eval (.Attribute e f pos) env) Q E s:=
 Attribute_any_ h (by rw[arm_eval_Attribute,hb])
end
noncomputable def qP(K:W1)(ta:TE)(f:Str):TE:=λσ H Q=>ta σ H λx H1=>∃a C dx fs v,x=.ref a/\H1 a=Gc (.ins C dx fs)/\Cls K C/\He K C f/\fs.lookup f=Gc v/\Q v H1
noncomputable def qU(K:W1)(ta tv:TE)(f:Str):TS:=λD σ H=>tv σ H λy H1=>ta σ H1 λx H2=>∃a C dx fs,x=.ref a/\H2 a=Gc (.ins C dx fs)/\Cls K C/\He K C f/\fs.length<1000/\
 D.nx σ (upd H2 a (.ins C dx (Me f y fs)))
section
variable{X:Cx}{o e value:sW}{f:Str}{pos pos' tpos:Pos}{ta tv:TE}
theorem fG(he:PE X e ta)(hb:attributeBase e f X.env (eval e X.env)=eval e X.env):PE X (.Attribute e f pos) (qP X.K ta f):=by
 intro pins s σ H Q I h
 refine aF hb (thn (he pins s σ H _ I h) λu s1 ⟨x,H1,I1,rx,a,C,dx,fs,v,ex,ea,c,n,l,q⟩=>?_)
 subst ex
 obtain rfl:u=si a:=rx
 exact Rh I1 ea c n l λu' s2 I2 ru=>⟨v,H1,I2,ru,q⟩
theorem iP(ha:PE X o ta)(hv:PE X value tv)(hs:swapsWith value (Gc (.Attribute o f pos')) pos.line X.env=pure false):PS X (.Assign [.Attribute o f pos'] value pos) (qU X.K ta tv f):=by
 intro pins s σ H D I h
 refine plainObj_wpAny_Assign_Attribute (thn (hv pins s σ H _ I h) λu s1 ⟨y,H1,I1,ry,q⟩=>thn (ha pins s1 σ H1 _ I1 q) λov s2 ⟨x,H2,I2,rx,a,C,dx,fs,ex,ea,c,n,l,q2⟩=>?_) hs
 subst ex
 obtain rfl:ov=si a:=rx
 exact R8 I2 ea c n l ry λs3 I3=>⟨σ,_,I3,q2⟩
end
section
variable{X:Cx}{pins:Wp (rY×Obj)}{σ:St}{H:Hp}{s:rX}{A:tN}{E:rS->rX->Prop}{Q:rS->rX->Prop}{c:rS}{b:sx}
inductive SN(K:W1)(H:Hp):V->rS->Prop where
 |non:SN K H .non (.type "NoneType")
 |bl (x:sx):SN K H (.bl x) (.type "bool")
 |int (i:Int):SN K H (.int i) (.type "int")
 |str (x:Str):SN K H (.str x) (.type "str")
 |flt (x:UInt64):SN K H (.flt x) (.type "float")
 |lst {a:rY} {xs:Wp V} (e:H a=Gc (.lst xs)):SN K H (.ref a) (.type "list")
 |frz {a:rY} {o:Obj} {xs:Wp V} (e:H a=Gc (.frz o (.lst xs))):SN K H (.ref a) (.type "list")
 |tup {a:rY} {xs:Wp V} (e:H a=Gc (.tup xs)):SN K H (.ref a) (.type "tuple")
 |dK {a:rY} {kvs:Wp (Key×V)} (e:H a=Gc (.dK kvs)):SN K H (.ref a) (.type "dict")
 |dT {a:rY} {kvs:Wp (Wp Key×V)} (e:H a=Gc (.dT kvs)):SN K H (.ref a) (.type "dict")
 |ins {a C dx:rY} {fs:Wp (Str×V)} (e:H a=Gc (.ins C dx fs)) (cl:Cls K C) (ha:uH K (.ref C) "__class__"=Gc (Gc (.builtin "object.__class__")))
   (hn:PySem.W.specialIn K (.builtin "object.__class__") "__get__"=Gc (Gc (.builtin "getset_descriptor.__get__"))) (htk:PySem.W.takesIn K (.builtin "object.__class__")=Gc true)
   (hm:PySem.W.mroIn K C (.type "object")=Gc true):SN K H (.ref a) (.ref C)
theorem FH{x:V}{u t:rS}(I:Inv X pins σ H s)(rx:RelV x u)(ty:SN X.K H x t)(e:vT X.K t c=Gc b)(h:∀tk,Q (.bool b) {s with toks:=tk}):wpAny (model X.prog X.w) A (call (.builtin "isinstance") [u,c]) Q E s:=by
 cases ty with
 |non=>cases (show u=tP from rx);exact uV PySem.W.kitx_none I.kIn vw e (λz=>nomatch z) h
 |bl y=>cases (show u=yE y from rx);exact uV PySem.W.kitx_bool I.kIn vw e (λz=>nomatch z) h
 |int i=>obtain⟨t,q⟩:=(show∃t,u=yB i t from rx);cases q;exact uV PySem.W.kitx_int I.kIn vw e (λz=>nomatch z) h
 |str y=>obtain⟨t,q⟩:=(show∃t,u=yC y t from rx);cases q;exact uV PySem.W.kitx_str I.kIn vw e (λz=>nomatch z) h
 |flt y=>obtain⟨t,q⟩:=(show∃t,u=Value.float y t from rx);cases q;exact uV PySem.W.kitx_float I.kIn vw e (λz=>nomatch z) h
 | @lst a xs ea=>
   cases (show u=si a from rx)
   obtain⟨_,_,n,_,h1⟩:=(show C0 X.prog X.w H s.heap a (.lst xs)from I.hok a _ ea)
   exact uV PySem.W.kitx_list I.kIn ⟨_,h1,rfl⟩ e (λz=>nomatch z) h
 | @frz a ob xs ea=>
   cases (show u=si a from rx)
   obtain⟨_,_,_,n,_,h1⟩:=(show C0 X.prog X.w H s.heap a (.frz ob (.lst xs))from I.hok a _ ea)
   exact uV PySem.W.kitx_list I.kIn ⟨_,h1,rfl⟩ e (λz=>nomatch z) h
 | @tup a xs ea=>
   cases (show u=si a from rx)
   obtain⟨_,_,_,p⟩:=(show C0 X.prog X.w H s.heap a (.tup xs)from I.hok a _ ea)
   obtain⟨o,h1,h2,_⟩:=p
   exact uV AAE I.kIn ⟨o,h1,h2⟩ e (λz=>nomatch z) h
 | @dK a kvs ea=>
   cases (show u=si a from rx)
   obtain⟨_,_,vs,_,p⟩:=(show C0 X.prog X.w H s.heap a (.dK kvs)from I.hok a _ ea)
   obtain⟨o,es,ep,h1,h2,_⟩:=p
   exact uV PySem.W.kitx_dict I.kIn ⟨o,h1,h2.1⟩ e (λz=>nomatch z) h
 | @dT a kvs ea=>
   cases (show u=si a from rx)
   obtain⟨_,_,xs,_,o,es,ep,h1,h2,_⟩:=(show C0 X.prog X.w H s.heap a (.dT kvs)from I.hok a _ ea)
   exact uV PySem.W.kitx_dict I.kIn ⟨o,h1,h2.1⟩ e (λz=>nomatch z) h
 | @ins a C dx fs ea cl ha hn htk hm=>
   cases (show u=si a from rx)
   obtain⟨mA,O,_⟩:=Nn I.hok ea
   obtain⟨od,J,_⟩:=O.look
   exact uV (PySem.W.kitx_own (cl.get _) cl.hd ha hn htk hm) I.kIn J e (λz=>nomatch z) h
end
end L2
namespace L2
open PySem PySem.Spec PyProof.Rows
structure CZ(k:Nat)(A:tN):Prop where
 hd:A.handled=none
 dp:A.depth+3*k+5<recursionLimit
 un:A.units+16*k+200<cLine
theorem CZ.mono{j k:Nat}{A:tN}(r:CZ k A)(h:j<=k):CZ j A:=⟨r.hd,by have:=r.dp;lia,by have:=r.un;lia⟩
theorem CZ.deeper{k:Nat}{A:tN}(r:CZ (k+1) A)(env:Env):CZ k (A.deeper env):=
 ⟨r.hd,by have:=r.dp;show A.depth+1+3*k+5<_;lia,by have:=r.un;show A.units+3+16*k+200<_;lia⟩
theorem Ry{A:tN}{C:rY}{us:Wp rS}{kw:Wp (Str×rS)}:(A.under (.builtin "type.__call__" ⟨.ref C::us,kw⟩)).depth=A.depth+1:=by
 first|rfl|simp[Around.under,Code.weight,Code.isCreation,Code.isGuard,Code.isCaller,Code.frames,Code.isFrame,guardIds]
theorem SI{A:tN}{C:rY}{us:Wp rS}{kw:Wp (Str×rS)}:(A.under (.builtin "type.__call__" ⟨.ref C::us,kw⟩)).units=A.units+1:=by
 first|rfl|simp[Around.under,Code.cUnits,Code.frames,Code.isFrame]
theorem CZ.make{k:Nat}{A:tN}(r:CZ (k+1) A)(C:rY)(us:Wp rS)(kw:Wp (Str×rS)):CZ k (A.under (.builtin "type.__call__" ⟨.ref C::us,kw⟩)):=
 ⟨r.hd,by have:=r.dp;rw[Ry];lia,by have:=r.un;rw[SI];lia⟩
theorem CZ.depth{k:Nat}{A:tN}(r:CZ k A):A.depth<recursionLimit:=by have:=r.dp;lia
noncomputable def lG:TA:=λ_ H Q=>Q [] H
noncomputable def gC(ta:TE)(tr:TA):TA:=λσ H Q=>ta σ H λx H1=>tr σ H1 λxs H2=>Q (x::xs) H2
section
variable{X:Cx}{e:sW}{es:Wp sW}{te:TE}{t:TA}{pos:Pos}
theorem Q5:PA X [] lG:=λ_ _ _ _ H Q I h=>zX ⟨[],H,I,.nil,h⟩
theorem J3(ha:PE X e te)(hr:PA X es t)(hs:sE (e::es) X.env=(false,eval e X.env)::sE es X.env:=by rfl):PA X (e::es) (gC te t):=by
 intro pos pins s σ H Q I h
 rw[hs]
 show wpAny _ _ (spliced ((false,eval e X.env)::backTo pos (sE es X.env))) _ _ s
 refine wO (thn (ha pins s σ H _ I h) λu s1 ⟨x,H1,I1,r1,q1⟩=>?_)
 exact thn (hr pos pins s1 σ H1 _ I1 q1) λus s2 ⟨xs,H2,I2,r2,q2⟩=>⟨x::xs,H2,I2,.cons r1 r2,q2⟩
noncomputable def qA(t:TA):TE:=λσ H Q=>t σ H λxs H1=>xs.length<=sizeLine/\∀p,H1 p=none->Q (.ref p) (upd H1 p (.tup xs))
noncomputable def qG(t:TA):TE:=λσ H Q=>t σ H λxs H1=>xs.length<=sizeLine/\∀p,H1 p=none->Q (.ref p) (upd H1 p (.lst xs))
theorem Yx{x1}(h:PA X es t):PE X (.Tuple es x1 pos) (qA t):=by
 intro pins s σ H Q I hq
 refine zt (thn (h pos pins s σ H _ I hq) λus s1 ⟨xs,H1,I1,r,z,q⟩=>⟨by rw[<-r.length];exact z,?_⟩)
 have hf:H1 s1.heap.objs.size=none:=I1.hok.fresh (sD _)
 refine⟨.ref s1.heap.objs.size,upd H1 s1.heap.objs.size (.tup xs),I1.laid (t':=s1.toks) (λb u e=>rV _ e) (sD _) ?_,rfl,q _ hf⟩
 exact⟨z,us,r,⟨_,sS _ rfl,rfl,_,rfl⟩⟩
theorem iA(h:PA X es t):PE X (.List es pos) (qG t):=by
 intro pins s σ H Q I hq
 refine wpAny_List_spliced (thn (h pos pins s σ H _ I hq) λus s1 ⟨xs,H1,I1,r,z,q⟩=>⟨by rw[<-r.length];exact z,?_⟩)
 have hf:H1 s1.heap.objs.size=none:=I1.hok.fresh (sD _)
 refine⟨.ref s1.heap.objs.size,upd H1 s1.heap.objs.size (.lst xs),I1.laid (t':=s1.toks) (λb u e=>rV _ e) (sD _) ?_,rfl,q _ hf⟩
 exact⟨z,us,0,r,sS _ rfl⟩
end
abbrev Sp:=Wp V->Hp->VK->XK->Prop
abbrev CXT:=Wp Env->Hp->rX->XK->rS->rX->Prop
structure Yy(P:sf)(w:tU)(K:W1)(mg:Str->rW rS)(base:tT)(A:tN)(outer:Wp Env)(s:rX)(H:Hp):Prop where
 frames:A.frames=Gc outer
 mod:Mod K mg base
 bs:∀b o,base.get? b=Gc o->s.heap.get? b=Gc o/\H b=none
 bsz:base.objs.size<=s.heap.objs.size
 Pp:s.heap.FunFrames base outer
 frf:∀b∈frs outer,H b=none
 hok:HOk P w H s.heap
 bare:wo s.gens
def CE(outer:Wp Env)(P:sf)(w:tU)(H:Hp)(s:rX)(Q:VK)(u:rS)(s':rX):Prop:=
 ∃v H',s'.os=s.os/\wo s'.gens/\Un (frs outer) [] H H' s.heap s'.heap/\HOk P w H' s'.heap/\RelV v u/\Q v H'
def CR(CX:CXT)(outer:Wp Env)(P:sf)(w:tU)(H:Hp)(s:rX)(Q:VK)(E:XK)(r:Result)(s':rX):Prop:=
 match r with
 | .ok (.ret u)=>CE outer P w H s Q u s'
 | .ok _=>ur
 | .error e=>CX outer H s E e s'
structure KR(P:sf)(w:tU)(K:W1)(mg:Str->rW rS)(base:tT)(CX:CXT)(k:Nat)(f:rY)(fd:uf)(ps:Wp Str)(sp:Sp):Prop where
 len:∀vs H Q E,sp vs H Q E->vs.length=ps.length
 run:∀(A:tN) (outer:Wp Env) (s:rX) (H:Hp) (args:Args) (us:Wp rS) (vs:Wp V) (Q:VK) (E:XK),CZ k A->Yy P w K mg base A outer s H->BindsTo s fd args (ps.zip us)->Vals vs us->sp vs H Q E->
  codeAny (model P w) A (.call (.ref f) args) (CR CX outer P w H s Q E) s
theorem KR.mono{P:sf}{w:tU}{K:W1}{mg:Str->rW rS}{base:tT}{CX:CXT}{j k:Nat}{f:rY}{fd:uf}{ps:Wp Str}{sp:Sp}(F:KR P w K mg base CX j f fd ps sp)(h:j<=k):KR P w K mg base CX k f fd ps sp:=⟨F.len,λA outer s H args us vs Q E hr=>F.run A outer s H args us vs Q E (hr.mono h)⟩
theorem Yy.make{P:sf}{w:tU}{K:W1}{mg:Str->rW rS}{base:tT}{A:tN}{outer:Wp Env}{s:rX}{H:Hp}(e:Yy P w K mg base A outer s H)(C:rY)(us:Wp rS)(kw:Wp (Str×rS)):Yy P w K mg base (A.under (.builtin "type.__call__" ⟨.ref C::us,kw⟩)) outer s H:=⟨by first|exact e.frames|(simpa[Around.under,Code.envs,Code.isFrame,pushEnvs]using e.frames),e.mod,e.bs,e.bsz,e.Pp,e.frf,e.hok,e.bare⟩
section
variable{X:Cx}{pins:Wp (rY×Obj)}{σ:St}{H:Hp}{s s':rX}
theorem Inv.Yi(I:Inv X pins σ H s):Yy X.prog X.w X.K X.mg X.base X.A X.stack s H:=
 ⟨I.ok.frames,I.ok.mod,I.bs,sI I.ok.bsz I.sz,I.stack,I.Ph,I.hok,I.bare⟩
theorem Inv.after{Q:VK}{u:rS}(I:Inv X pins σ H s)(h:CE X.stack X.prog X.w H s Q u s'):EP X pins σ Q u s':=by
 obtain⟨v,H',os,bare,un,hok,r,q⟩:=h
 obtain⟨hh,g,d,t,os'⟩:=s'
 obtain rfl:os'=s.os:=os
 exact⟨v,H',I.call (h':=hh) (g':=g) (d':=d) (t':=t) (ch:=[]) un hok bare (λb z=>absurd z (by simp)),r,q⟩
end
noncomputable def bX(sp:Sp)(dvs:Wp V)(E:XK)(t:TA):TE:=λσ H Q=>t σ H λvs H1=>sp (vs++dvs) H1 Q E
noncomputable def gq(C:rY)(m:Str)(sp:Sp)(dvs:Wp V)(E:XK)(ta:TE)(t:TA):TE:=λσ H Q=>ta σ H λx H1=>∃a dx fs,x=.ref a/\H1 a=Gc (.ins C dx fs)/\fs.lookup m=none/\
 t σ H1 λvs H2=>sp (x::(vs++dvs)) H2 Q E
noncomputable def l7(C:rY)(sp:Sp)(dvs:Wp V)(E:XK)(t:TA):TE:=λσ H Q=>t σ H λvs H1=>∀x dx,H1 x=none->H1 dx=none->dx≠x->
 sp (.ref x::(vs++dvs)) (upd (upd H1 dx (.own x)) x (.ins C dx [])) (λv H2=>v=.non/\Q (.ref x) H2) E
def Binds(K:W1)(fd:uf)(ps:Wp Str)(ds:Wp rS):Prop:=
 ∀(s:rX) (us:Wp rS),K.In s.heap->(us++ds).length=ps.length->BindsTo s fd ⟨us,[]⟩ (ps.zip (us++ds))
theorem Binds.all{K:W1}{fd:uf}{ps:Wp Str}(h:∀us:Wp rS,us.length=ps.length->bindArgs fd ⟨us,[]⟩=pure (ps.zip us)):Binds K fd ps []:=λs us _ hl=>by
 rw[uB]at hl⊢
 exact .of_eq (h us hl)
def Passes(CX:CXT)(X:Cx)(E:XK):Prop:=∀(pins:Wp (rY×Obj)) (σ:St) (H:Hp) (s:rX) (e:rS) (s':rX),Inv X pins σ H s->CX X.stack H s E e s'->X.xe e s'
section
variable{X:Cx}{CX:CXT}{k:Nat}{f C:rY}{fd:uf}{ps:Wp Str}{sp:Sp}{dvs:Wp V}{ds:Wp rS}{E:XK}{x m:Str}{p pos apos:Pos}{e o:sW}{es:Wp sW}{ta:TE}{t:TA}
theorem Ql{pins:Wp (rY×Obj)}{σ:St}{H:Hp}{s:rX}{Q:VK}{us:Wp rS}{vs:Wp V}(F:KR X.prog X.w X.K X.mg X.base CX k f fd ps sp)(hr:CZ k X.A)(hb:Binds X.K fd ps ds)(hd:Vals dvs ds)(hx:Passes CX X E)(I:Inv X pins σ H s)(r:Vals vs us)(h:sp (vs++dvs) H Q E):wpAny (model X.prog X.w) X.A (call (.ref f) us) (EP X pins σ Q) X.xe s:=by
 have r2:Vals (vs++dvs) (us++ds):=r.append hd
 have hl:(us++ds).length=ps.length:=by rw[<-r2.length];exact F.len _ _ _ _ h
 refine wj (wQ (F.run X.A X.stack s H ⟨us,[]⟩ (us++ds) (vs++dvs) Q E hr I.Yi (hb s us I.kIn hl) r2 h) λr s' hq=>?_)
 cases r with
 |error e=>exact hx pins σ H s e s' I hq
 |ok fl=>
  cases fl with
  |ret u=>exact I.after hq
  |next=>exact tu hq
  |brk=>exact tu hq
  |cont=>exact tu hq
theorem cA(F:KR X.prog X.w X.K X.mg X.base CX k f fd ps sp)(hr:CZ k X.A)(hg:Gl X x)(hm:X.mg x=Gc (.ref f))(hk:uL X.K (.ref f)=true)(hb:Binds X.K fd ps ds)(hd:Vals dvs ds)(hx:Passes CX X E)(ha:PA X (e::es) t)(hdb:(x==("__debug__":Str))=false:=by decide)(he:sE (e::es) X.env=(false,eval e X.env)::sE es X.env:=by rfl)(hpl:(backTo pos (sE es X.env)).any (·.1)=false:=by rfl):PE X (.Call (.Name x p) (e::es) [] pos) (bX sp dvs E t):=by
 intro pins s σ H Q I h
 refine uR (IX I hg hm ?_ hdb)
 refine uq (h₀:=X.base) I.ok.mod.kin hk (thn (ha pos pins s σ H _ I h) λus s1 ⟨vs,H1,I1,r,q⟩=>⟨I1.kIn,?_⟩) he hpl
 exact Ql F hr hb hd hx I1 r q
theorem bM {pl : Sem sx} (he : PE X o ta) (c : Cls X.K C) (hm : Meth X.K C m f) (F : KR X.prog X.w X.K X.mg X.base CX k f fd ps sp) (hr : CZ k X.A) (hb : Binds X.K fd ps ds) (hd : Vals dvs ds) (hx : Passes CX X E) (ha : PA X (e :: es) t) (hst : sE (e :: es) X.env = (false, eval e X.env) :: sE es X.env := by rfl) (hpl : (backTo pos (sE es X.env)).any (·.1) = false := by rfl) (ht : eval (.Call (.Attribute o m apos) (e :: es) [] pos) X.env = (do
      let ov ← eval o X.env
      standAt apos.atName
      let (f, first) ← holding [ov] (getMethod ov m pl)
      callWith pos f first (backTo pos (sE (e :: es) X.env)) (backToKw pos (keywordEach [] X.env))) := by rfl) :
    PE X (.Call (.Attribute o m apos) (e :: es) [] pos) (gq C m sp dvs E ta t) := by
  intro pins s σ H Q I h
  refine xQ (pl := pl) (thn (he pins s σ H _ I h) fun u s1 ⟨x, H1, I1, rx, a, dx, fs, ex, ea, l, q⟩ => ?_) ht
  subst ex
  obtain rfl : u = si a := rx
  refine Ji I1 ea c hm l ?_
  refine uq (first := [.ref a]) (h₀ := X.base) I.ok.mod.kin hm.kp (thn (ha pos pins s1 σ H1 _ I1 q) fun us s2 ⟨vs, H2, I2, r, q2⟩ => ⟨I2.kIn, ?_⟩) hst hpl
  exact Ql (us := .ref a :: us) (vs := .ref a :: vs) F hr hb hd hx I2 (.cons rfl r) q2
theorem W8 {pl : Sem sx} (he : PE X o ta) (c : Cls X.K C) (hm : Meth X.K C m f) (F : KR X.prog X.w X.K X.mg X.base CX k f fd ps sp) (hr : CZ k X.A) (hb : Binds X.K fd ps ds) (hd : Vals dvs ds) (hx : Passes CX X E) (ht : eval (.Call (.Attribute o m apos) [] [] pos) X.env = (do
      let ov ← eval o X.env
      standAt apos.atName
      let (f, first) ← holding [ov] (getMethod ov m pl)
      callWith pos f first (backTo pos (sE [] X.env)) (backToKw pos (keywordEach [] X.env))) := by rfl) :
    PE X (.Call (.Attribute o m apos) [] [] pos) (gq C m sp dvs E ta lG) := by
  intro pins s σ H Q I h
  refine xQ (pl := pl) (thn (he pins s σ H _ I h) fun u s1 ⟨x, H1, I1, rx, a, dx, fs, ex, ea, l, q⟩ => ?_) ht
  subst ex
  obtain rfl : u = si a := rx
  refine Ji I1 ea c hm l ?_
  exact PySem.W.callWith_K0 (first := [.ref a]) I1.kIn hm.kp (Ql (us := [.ref a]) (vs := [.ref a]) F hr hb hd hx I1 (.cons rfl .nil) q)
structure Mk(K:W1)(C f:rY):Prop where
 makes:zG K C=true
 init:uH K (.ref C) "__init__"=Gc (Gc (.ref f))
 fn:xw K (.ref f)=true
 kp:uL K (.ref C)=true
theorem XY{pins:Wp (rY×Obj)}{σ:St}{H:Hp}{s:rX}{Q:VK}{us:Wp rS}{vs:Wp V}(M:Mk X.K C f)(F:KR X.prog X.w X.K X.mg X.base CX k f fd ps sp)(hr:CZ (k+1) X.A)(hb:Binds X.K fd ps ds)(hd:Vals dvs ds)(hx:Passes CX X E)(I:Inv X pins σ H s)(r:Vals vs us)(h:∀x dx,H x=none->H dx=none->dx≠x->sp (.ref x::(vs++dvs)) (upd (upd H dx (.own x)) x (.ins C dx [])) (λv H2=>v=.non/\Q (.ref x) H2) E):wpAny (model X.prog X.w) X.A (call (.ref C) us) (EP X pins σ Q) X.xe s:=by
 have hq:=h (s.heap.objs.size+1) s.heap.objs.size (I.hok.fresh (Nat.le_succ _)) (I.hok.fresh (sD _)) (tJ (xS _))
 have I2:=Inv.made (C:=C) I
 have r2:Vals (V.ref (s.heap.objs.size+1)::(vs++dvs)) (si (s.heap.objs.size+1)::(us++ds)):=.cons rfl (r.append hd)
 have hl:(si (s.heap.objs.size+1)::us++ds).length=ps.length:=by
  have e:=r2.length
  rw[F.len _ _ _ _ hq]at e
  exact e.symm
 refine wj (RF (f:=f) I.kIn M.makes M.init (vC.mp M.fn) (wQ (F.run _ X.stack _ _ ⟨si (s.heap.objs.size+1)::us,[]⟩ (si (s.heap.objs.size+1)::(us++ds)) _ _ E (hr.make C us [])
  (I2.Yi.make C us []) (hb _ (si (s.heap.objs.size+1)::us) I2.kIn hl) r2 hq) λr s' hq'=>?_))
 cases r with
 |error e=>exact hx pins σ _ _ e s' I2 hq'
 |ok fl=>
  cases fl with
  |ret u=>
   obtain⟨v,H',I3,rv,ev,q3⟩:=I2.after hq'
   subst ev
   exact⟨rv,⟨V.ref (s.heap.objs.size+1),H',I3,rfl,q3⟩⟩
  |next=>exact tu hq'
  |brk=>exact tu hq'
  |cont=>exact tu hq'
theorem bN(M:Mk X.K C f)(F:KR X.prog X.w X.K X.mg X.base CX k f fd ps sp)(hr:CZ (k+1) X.A)(hg:Gl X x)(hm:X.mg x=Gc (.ref C))(hb:Binds X.K fd ps ds)(hd:Vals dvs ds)(hx:Passes CX X E)(ha:PA X (e::es) t)(hdb:(x==("__debug__":Str))=false:=by decide)(he:sE (e::es) X.env=(false,eval e X.env)::sE es X.env:=by rfl)(hpl:(backTo pos (sE es X.env)).any (·.1)=false:=by rfl):PE X (.Call (.Name x p) (e::es) [] pos) (l7 C sp dvs E t):=by
 intro pins s σ H Q I h
 refine uR (IX I hg hm ?_ hdb)
 refine uq (h₀:=X.base) I.ok.mod.kin M.kp (thn (ha pos pins s σ H _ I h) λus s1 ⟨vs,H1,I1,r,q⟩=>⟨I1.kIn,?_⟩) he hpl
 exact XY M F hr hb hd hx I1 r q
end
section
variable{X:Cx}{CX:CXT}{k:Nat}{f C:rY}{fd:uf}{ps ks:Wp Str}{sp:Sp}{E:XK}{x m:Str}{p pos apos kpos:Pos}{e o:sW}{es:Wp sW}{kws:Wp yb}{te ta:TE}{t tk:TA}{nm:rW Str}
structure oq(K:W1)(fd:uf)(ps ks:Wp Str)(g:Wp rS->Wp rS->Wp rS)(gV:Wp V->Wp V->Wp V):Prop where
 to:∀(s:rX) (us ws:Wp rS),K.In s.heap->(g us ws).length=ps.length->BindsTo s fd ⟨us,ks.zip ws⟩ (ps.zip (g us ws))
 rel:∀{vs:Wp V} {us:Wp rS} {zs:Wp V} {ws:Wp rS},Vals vs us->Vals zs ws->Vals (gV vs zs) (g us ws)
variable{g:Wp rS->Wp rS->Wp rS}{gV:Wp V->Wp V->Wp V}
end
structure Ar(N P:Wp Str)(sc:uT):Prop where
 kind:sc.kind=.function
 co:sc.isCoroutine=false
 gen:sc.isGenerator=false
 nd:N.Nodup
 pre:N.take P.length=P
 par:∀x∈P,sc.names.lookup x=Gc .local\/sc.names.lookup x=Gc .cell
 gi:∀y∈sc.names,y.2≠.free
theorem OQ{kindOf:Str->rW vq}{x:Str}:∀{binds:Wp (Str×rS)} {m:Str->rW rS},(∀v,(x,v)∉binds)->bindL kindOf binds m x=m x
 | [],_,_=>rfl
 |(n,v)::r,m,h=>by
  unfold bindL
  rw[OQ λw hw=>h w (rg _ hw)]
  split
  .have:x≠n:=by rintro rfl;exact h v sN
   simp[this]
  .rfl
theorem OS{kindOf:Str->rW vq}{x:Str}:∀{binds:Wp (Str×rS)} {m:Str->rW rS},(∀v,(x,v)∉binds)->bindC kindOf binds m x=m x
 | [],_,_=>rfl
 |(n,v)::r,m,h=>by
  unfold bindC
  rw[OS λw hw=>h w (rg _ hw)]
  split
  .rfl
  .have:x≠n:=by rintro rfl;exact h v sN
   simp[this]
theorem Oa{kindOf:Str->rW vq}{x:Str}{v:rS}:∀{P:Wp Str} {vs:Wp rS} {i:Nat} {m:Str->rW rS},P.Nodup->P[i]?=Gc x->vs[i]?=Gc v->kindOf x=Gc .local->bindL kindOf (P.zip vs) m x=Gc v
 | [],_,_,_,_,h,_,_=>by simp at h
 |_::_,[],_,_,_,_,h,_=>by simp at h
 |p::P,w::vs,0,m,nd,h1,h2,hk=>by
  simp at h1 h2;subst h1;subst h2
  show bindL kindOf ((p,w)::P.zip vs) m p=_
  unfold bindL
  rw[OQ λv hv=>(vO.mp nd).1 (vP hv).1,sZ hk]
  simp
 |p::P,w::vs,i+1,m,nd,h1,h2,hk=>by
  show bindL kindOf ((p,w)::P.zip vs) m x=_
  unfold bindL
  exact Oa (i:=i) (vO.mp nd).2 (by simpa using h1) (by simpa using h2) hk
theorem Om{kindOf:Str->rW vq}{x:Str}{v:rS}:∀{P:Wp Str} {vs:Wp rS} {i:Nat} {m:Str->rW rS},P.Nodup->P[i]?=Gc x->vs[i]?=Gc v->kindOf x≠Gc .local->bindC kindOf (P.zip vs) m x=Gc v
 | [],_,_,_,_,h,_,_=>by simp at h
 |_::_,[],_,_,_,_,h,_=>by simp at h
 |p::P,w::vs,0,m,nd,h1,h2,hk=>by
  simp at h1 h2;subst h1;subst h2
  show bindC kindOf ((p,w)::P.zip vs) m p=_
  unfold bindC
  rw[OS λv hv=>(vO.mp nd).1 (vP hv).1,sg hk]
  simp
 |p::P,w::vs,i+1,m,nd,h1,h2,hk=>by
  show bindC kindOf ((p,w)::P.zip vs) m x=_
  unfold bindC
  exact Om (i:=i) (vO.mp nd).2 (by simpa using h1) (by simpa using h2) hk
noncomputable def start(N:Wp Str)(vs:Wp V):St:=vs.map Gc++sH (N.length-vs.length) none
noncomputable def Hw(CX:CXT)(P:sf)(w:tU)(K:W1)(mg:Str->rW rS)(base:tT)(N:Wp Str)(qual:Str)(scope:uT)(f:rY)(cd:rS)(A:tN)(outer:Wp Env)(s:rX)(H:Hp)(E:XK):Cx where
 prog:=P
 w:=w
 K:=K
 mg:=mg
 base:=base
 A:=A.deeper (envOfC qual scope s.heap.objs.size f cd)
 N:=N
 s₀:=s
 H₀:=H
 env:=envOfC qual scope s.heap.objs.size f cd
 outer:=outer
 stack:=envOfC qual scope s.heap.objs.size f cd::outer
 ex:=[]
 calm:=true
 fn:=λ_=>true
 pn:=[]
 xe:=λe s'=>wpAny (model P w) (A.deeper (envOfC qual scope s.heap.objs.size f cd)) (leaving (envOfC qual scope s.heap.objs.size f cd) e) (λ_ s''=>CX outer H s E e s'') (λe' s''=>CX outer H s E e' s'') s'
theorem Kp{sc:uT}{n:Nat}{x:Str}(h:sc.names.lookup x=Gc .cell):∃c,(cellsFrom n sc.names []).lookup x=Gc c:=by
 have q:=xD sc.names n [] (.inl h)
 exact Option.isSome_iff_exists.mp q
theorem OY{CX:CXT}{P:sf}{w:tU}{K:W1}{mg:Str->rW rS}{base:tT}{N ps:Wp Str}{qual:Str}{scope:uT}{f:rY}{cd:rS}{A:tN}{outer:Wp Env}{s s1:rX}{H:Hp}{E:XK}{us:Wp rS}{vs:Wp V}(S:Ar N ps scope)(hd:A.handled=none)(e0:Yy P w K mg base A outer s H)(hl:vs.length=ps.length)(r:Vals vs us)(x:InCallC s s.heap.objs.size (bindL (envOfC qual scope s.heap.objs.size f cd).kindOf (ps.zip us) λ_=>none) (cellsFrom (s.heap.objs.size+1) scope.names []) (bindC (envOfC qual scope s.heap.objs.size f cd).kindOf (ps.zip us) λ_=>none) s1):Inv (Hw CX P w K mg base N qual scope f cd A outer s H E) [] (start N vs) H s1:=by
 have hpl:ps.length<=N.length:=by have:=congrArg List.length S.pre;rw[xT]at this;lia
 obtain⟨h1,tk,rfl,hk⟩:=x.done
 have noA:∀b:rY,b∉(Hw CX P w K mg base N qual scope f cd A outer s H E).ex:=λb z=>absurd (show b∈([]:Wp rY)from z) (by simp)
 refine⟨⟨e0.mod,S.kind,rfl,rfl,sD _,λy z c h1 h2=>?_,λy hy=>?_,λy c _ h=>?_,λ_=>hd,zY e0.frames,.inr ⟨rfl,rfl⟩,λb z=>absurd z (noA b),e0.bs,e0.bsz,λb _ _=>noA b,λb z=>absurd z (noA b),e0.Pp,e0.frf⟩,
  rfl,e0.bare,Un.kept hk,⟨_,x.toInCall.ns,λi y v h1 h2 h3=>?_⟩,λy c h=>⟨_,x.cell y c h⟩,e0.hok.fresh (sD _),λy c h=>?_,λp hp=>absurd (show p∈([]:Wp (rY×Obj))from hp) (by simp),e0.hok.kept hk,?_⟩
 .exact name_of_addr x.apart (tZ h1) (tZ h2)
 .have hy:scope.names.lookup y=Gc .cell\/scope.names.lookup y=Gc .free:=hy
  rcases hy with hy|hy
  .exact Kp hy
  .exact absurd rfl (S.gi _ (tZ hy))
 .exact xu (x.above y c (tZ h))
 .have hi:i<vs.length:=by
   unfold start at h2
   by_cases hi:i<vs.length
   .exact hi
   .rw[tK (by simpa using hi)]at h2
    rw[wu]at h2
    split at h2<;>cases h2
  have ha:vs[i]?=Gc v:=by
   unfold start at h2
   rw[rf (by simpa using hi),sY]at h2
   cases e:vs[i]? with
   |none=>rw[e]at h2;cases h2
   |some a=>rw[e]at h2;cases h2;rfl
  obtain⟨u,hu,rv⟩:=r.get ha
  have hp:ps[i]?=Gc y:=by
   rw[<-S.pre,List.getElem?_take_of_lt (by lia)];exact h1
  have ndP:ps.Nodup:=by rw[<-S.pre];exact S.nd.sublist (List.take_sublist _ _)
  refine⟨u,rv,?_⟩
  rcases S.par y (sQ hp)with k|k
  .exact .inl ⟨k,Oa ndP hp hu k⟩
  .obtain⟨c,e⟩:=Kp (n:=s.heap.objs.size+1) k
   refine .inr ⟨.inl k,c,e,?_⟩
   have q:=x.cell y c e
   rw[Om ndP hp hu (by show scope.names.lookup y≠_;rw[k];decide)]at q
   exact q
 .exact e0.hok.fresh (xu (x.above y c (tZ h)))
 .unfold start
  show _=N.length
  rw[tV,uJ,List.length_replicate]
  lia
theorem X5{CX:CXT}{P:sf}{w:tU}{K:W1}{mg:Str->rW rS}{base:tT}{k:Nat}{f:rY}{name qual:Str}{params:yD}{body:Wp tE}{scope:uT}{dV kV doc pm cdv ct oc:rS}{an od:rW rY}{osl:uE (rW rS)}{N ps:Wp Str}{sp:Sp}(lk:K.lookup f=Gc ⟨oc,od,.func (vG name qual params body scope dV kV doc pm an cdv ct),osl⟩)(hcd:wH K cdv qual=true)(S:Ar N ps scope)(len:∀vs H Q E,sp vs H Q E->vs.length=ps.length)(hbody:∀(A:tN) (outer:Wp Env) (s:rX) (H:Hp) (vs:Wp V) (Q:VK) (E:XK),CZ k (A.deeper (envOfC qual scope s.heap.objs.size f cdv))->sp vs H Q E->∃t,PSs (Hw CX P w K mg base N qual scope f cdv A outer s H E) body t/\t {nx:=λ_ H'=>Q .non H',rt:=Q} (start N vs) H):KR P w K mg base CX (k+1) f (vG name qual params body scope dV kV doc pm an cdv ct) ps sp:=by
 refine⟨len,λA outer s H args us vs Q E hr e0 hb r hsp=>?_⟩
 have hl:=len _ _ _ _ hsp
 have KX:K.In s.heap:=e0.mod.kin.keeps λb o e=>(e0.bs b o e).1
 have lim:s.heap.NoLimit:=e0.mod.nolimit.keeps λb o e=>(e0.bs b o e).1
 have hkind:∀y∈ps.zip us,scope.names.lookup y.1=Gc .local\/(scope.names.lookup y.1=Gc .cell/\((cellsFrom (s.heap.objs.size+1) scope.names []).lookup y.1).isSome=true):=λ⟨n,v⟩ hy=>by
  rcases S.par n (vP hy).1 with q|q
  .exact .inl q
  .exact .inr ⟨q,xD _ _ _ (.inl q)⟩
 refine zP hr.depth (KX _ _ lk) rfl S.co S.gen rfl (AAF KX hcd) (hb _ _ _ _ ?_)
 refine yK S.kind hkind λenv he s1 x=>?_
 subst he
 refine⟨lim.keeps x.toInCall.keep,codeAny_func ?_⟩
 obtain⟨t,ht,hq⟩:=hbody A outer s H vs Q E (hr.deeper _) hsp
 have I:Inv (Hw CX P w K mg base N qual scope f cdv A outer s H E) [] (start N vs) H s1:=OY S hr.hd e0 hl r x
 refine ub (ht [] s1 (start N vs) H _ I hq) (λfl s' hs=>?_) λe s' hs=>hs
 have fin:∀{σ':St} {H':Hp} {v:V} {u:rS},Inv (Hw CX P w K mg base N qual scope f cdv A outer s H E) [] σ' H' s'->RelV v u->Q v H'->CE outer P w H s Q u s':=
  λ{σ' H' v u} J rv q=>⟨v,H',J.os,J.bare,J.base,J.hok,rv,q⟩
 cases fl with
 |ret u=>
  obtain⟨v,σ',H',J,rv,q⟩:=hs
  exact fin J rv q
 |next=>
  obtain⟨σ',H',J,q⟩:=hs
  exact fin (v:=V.non) (u:=tP) J rfl q
 |brk=>
  obtain⟨_,_,_,q⟩:=hs
  exact tu q
 |cont=>
  obtain⟨_,_,_,q⟩:=hs
  exact tu q
end L2
namespace L2
open PySem PySem.Spec PyProof.Rows
section
variable{X:Cx}{x:Str}{p pos:Pos}{e:sW}{es:Wp sW}{t:TA}{id T:vB}{r:Wp V->Hp->VK->Prop}
noncomputable def tCB(r:Wp V->Hp->VK->Prop)(t:TA):TE:=λσ H Q=>t σ H λvs H1=>r vs H1 Q
theorem V0(hc:EH X (.builtin id) r)(hg:Gl X x)(hm:X.mg x=none)(hv:bootBuiltins x=Gc (.builtin id))(ha:PA X (e::es) t)(hn:x≠ "__name__":=by decide)(hdb:(x==("__debug__":Str))=false:=by decide)(he:sE (e::es) X.env=(false,eval e X.env)::sE es X.env:=by rfl)(hpl:(backTo pos (sE es X.env)).any (·.1)=false:=by rfl):PE X (.Call (.Name x p) (e::es) [] pos) (tCB r t):=by
 intro pins s σ H Q I h
 refine uR (MQ I hg hm hv ?_ hn hdb)
 exact PyProof.Rows.callWith_builtin1 (thn (ha pos pins s σ H _ I h) λus s1 ⟨vs,H1,I1,r1,q1⟩=>hc pins s1 σ H1 vs us Q I1 r1 q1) he hpl
theorem UR(hc:EH X (.type T) r)(hg:Gl X x)(hm:X.mg x=none)(hv:bootBuiltins x=Gc (.type T))(ha:PA X (e::es) t)(hn:x≠ "__name__":=by decide)(hdb:(x==("__debug__":Str))=false:=by decide)(he:sE (e::es) X.env=(false,eval e X.env)::sE es X.env:=by rfl)(hpl:(backTo pos (sE es X.env)).any (·.1)=false:=by rfl):PE X (.Call (.Name x p) (e::es) [] pos) (tCB r t):=by
 intro pins s σ H Q I h
 refine uR (MQ I hg hm hv ?_ hn hdb)
 exact wC (thn (ha pos pins s σ H _ I h) λus s1 ⟨vs,H1,I1,r1,q1⟩=>hc pins s1 σ H1 vs us Q I1 r1 q1) he hpl
end
end L2
namespace HT
open PySem PyProof.Rows
section
open PySem.SeqAt
open PySem.AutoSeq1 (wpAny_loadPart')
open PySem.MeetsSeq PySem.MeetsSeq2 PySem.MeetsSeq3
end
section
variable{prog:sf}{w:tU}{A:tN}{E:rS->rX->Prop}{s:rX}
theorem Z7{t b:rY}{vs ws:Wp rS}{Q:rS->rX->Prop}(ht:IsTup s.heap t vs.toArray)(hb:IsTup s.heap b ws.toArray)(hv:vs≠[])(h1:ws=[]->Q (.ref t) s)(h2:ws≠[]->Q (.ref s.heap.objs.size) {s with heap:=s.heap.push {cls:=.type "tuple",data:=.seq (vs++ws).toArray}})(hsz:vs.length+ws.length<=sizeLine):wpAny (model prog w) A (binaryOp .Add (.ref t) (.ref b)) Q E s:=by
 obtain⟨⟨cls,dd,data,sl⟩,ho,hc,n,hd⟩:=id ht
 obtain⟨⟨cls2,dd2,data2,sl2⟩,ho2,hc2,n2,hd2⟩:=id hb
 simp only at hc hd hc2 hd2
 subst hc hd hc2 hd2
 have e:vs.toArray++ws.toArray=(vs++ws).toArray:=by simp
 by_cases hw:ws=[]
 .exact concat_meets ⟨_,ho,rfl⟩ ⟨_,ho2,rfl⟩ yr z8 xE wx (wZ _ _)
   (tuple_addW1 t b vs.toArray ws.toArray n n2 dd dd2 sl sl2 (by simpa using hv) (by simp[hw])) ⟨ho,ho2,h1 hw⟩
 .refine concat_meets ⟨_,ho,rfl⟩ ⟨_,ho2,rfl⟩ yr z8 xE wx (wZ _ _)
   (tuple_addW2 t b vs.toArray ws.toArray n n2 dd dd2 sl sl2 (by simpa using hv) (by simpa using hw) (by rw[sJ,sJ];exact hsz)) ⟨ho,ho2,?_⟩
  rw[e]
  exact h2 hw
noncomputable def sIx(n d:Nat):rW Int->Nat
 |none=>d
 |some v=>if v<0 then(v+(n:Int)).toNat else min v.toNat n
theorem QC(n d k:Nat):sIx n d (Gc (k:Int))=min k n:=by
 show(if(k:Int)<0 then((k:Int)+(n:Int)).toNat else min (k:Int).toNat n)=min k n
 rw[sg (by lia),xF]
theorem fK(n d:Nat)(hd:d<=n)(o:rW Int):sIx n d o<=n:=by
 cases o with
 |none=>exact hd
 |some v=>
  show(if v<0 then(v+(n:Int)).toNat else min v.toNat n)<=n
  by_cases hv:v<0
  .rw[sZ hv];lia
  .rw[sg hv];exact Nat.min_le_right _ _
theorem TY(v:Int)(n d:Nat):(if v<0 then max (v+(n:Int)) 0 else min v (n:Int))=((sIx n d (Gc v):Nat):Int):=by
 show(if v<0 then max (v+(n:Int)) 0 else min v (n:Int))=(((if v<0 then(v+(n:Int)).toNat else min v.toNat n):Nat):Int)
 by_cases hv:v<0
 .simp only[sZ hv];lia
 .simp only[sg hv];lia
theorem R0(lo hi:rW Int)(n:Nat):ug lo hi 1 (n:Int)=(((sIx n 0 lo:Nat):Int),((sIx n n hi:Nat):Int)):=by
 have h1:¬((1:Int)<0):=by lia
 unfold ug
 simp only[h1,yL]
 refine Prod.ext ?_ ?_
 .cases lo with
  |none=>rfl
  |some v=>exact TY v n 0
 .cases hi with
  |none=>rfl
  |some v=>exact TY v n n
theorem Rq(i j:Nat):uF (i:Int) (j:Int) 1=j-i:=by
 unfold uF
 have h1:(1:Int)>0:=by lia
 simp only[h1,xZ,Int.ediv_one]
 split<;>lia
theorem Mf{v:rS}{o:rW Int}{Q:rW Int->rX->Prop}(p:y0 v o)(h:Q o s):wpAny (model prog w) A (Builtin.Slice.slicePartIndex v) Q E s:=by
 cases p with
 |none=>exact yM h
 |int i t=>exact slicePart_int h
theorem Gx{sl:rY}{vl vu:rS}{lo hi:rW Int}{n:Nat}{Q:Int×Int×Nat->rX->Prop}(hs:s.heap.IsSliceOf sl vl vu .none)(pl:y0 vl lo)(pu:y0 vu hi)(h:Q (((sIx n 0 lo:Nat):Int),1,sIx n n hi-sIx n 0 lo) s):wpAny (model prog w) A (vU (.ref sl) (pure (n:Int))) Q E s:=by
 obtain⟨os,hos,hcs,hds⟩:=id hs
 unfold vU yW
 refine rT (rT (uP hos hds (x:=vl) rfl (rT (uP hos hds (x:=vu) rfl (rT (uP hos hds (x:=.none) rfl (sG ?_)))))))
 refine rT (yM ?_)
 show wpAny _ _ (if((1:Int)==0)=true then _ else _) _ _ s
 rw[sg (by decide)]
 refine rT (Mf pl (rT (Mf pu (rT (sG ?_)))))
 show wpAny _ _ (match ug lo hi 1 (n:Int)with|(lo,hi)=>pure (lo,(1:Int),uF lo hi 1)) _ _ s
 rw[R0 lo hi n]
 show wpAny _ _ (pure (((sIx n 0 lo:Nat):Int),(1:Int),uF ((sIx n 0 lo:Nat):Int) ((sIx n n hi:Nat):Int) 1)) _ _ s
 rw[Rq]
 exact sG h
theorem XG(xs:uE rS)(i k:Nat):((tj k).filterMap λ(m:Nat)=>xs[((i:Int)+(m:Int)*1).toNat]?).toArray=((xs.toList.drop i).take k).toArray:=by
 have e:(λ(m:Nat)=>xs[((i:Int)+(m:Int)*1).toNat]?)=λm=>xs[i+m]?:=by
  funext m
  have:((i:Int)+(m:Int)*1).toNat=i+m:=by lia
  rw[this]
 rw[e]
 have:=pick_run xs i k
 rw[List.filterMap_map]at this
 have e2:((λx=>xs[x]?)∘λx=>i+x)=λm=>xs[i+m]?:=rfl
 rw[e2]at this
 rw[this]
theorem J1{t sl:rY}{items:uE rS}{vl vu:rS}{lo hi:rW Int}{Q:rS->rX->Prop}(ht:IsTup s.heap t items)(hs:s.heap.IsSliceOf sl vl vu .none)(pl:y0 vl lo)(pu:y0 vu hi)(hw:¬(sIx items.size 0 lo=0/\sIx items.size items.size hi=items.size))(h:Q (.ref s.heap.objs.size) {s with heap:=s.heap.push {cls:=.type "tuple",data:=.seq ((items.toList.drop (sIx items.size 0 lo)).take (sIx items.size items.size hi-sIx items.size 0 lo)).toArray}})(hsz:items.size<=sizeLine):wpAny (model prog w) A (getItem (.ref t) (.ref sl)) Q E s:=by
 have htake:sizeOk (.seq ((items.toList.drop (sIx items.size 0 lo)).take (sIx items.size items.size hi-sIx items.size 0 lo)).toArray):=by
  show((items.toList.drop (sIx items.size 0 lo)).take (sIx items.size items.size hi-sIx items.size 0 lo)).toArray.size<=sizeLine
  rw[sJ,xT,yt,xq]
  lia
 have hj:sIx items.size items.size hi<=items.size:=fK _ _ (sD _) hi
 obtain⟨os,hos,hcs,hds⟩:=id hs
 have hTs:s.TypeIs (.ref sl) "slice":=⟨os,hos,hcs⟩
 unfold getItem
 try with_reducible refine uy ?_
 first|refine rT (sG ?_)|skip
 refine rT (yc ht.typeIs (by decide) ?_)
 refine rT (uc (name:=rh "__getitem__") ht.typeIs tM
  (uv tM ht.typeIs xt ?_ (yN _ _)))
 show wpAny _ _ (wI (.ref t) >>= _) _ _ s
 refine rT (z9 ht ?_)
 refine rT (y2 hTs ?_)
 rw[sZ (by decide)]
 refine rT (Gx hs pl pu ?_)
 have hno:¬((((sIx items.size 0 lo:Nat):Int)==0 && (1:Int)==1 && (sIx items.size items.size hi-sIx items.size 0 lo)==items.size)=true):=by
  intro q
  rw[sA,sA]at q
  have q1:((sIx items.size 0 lo:Nat):Int)=0:=eq_of_beq q.1.1
  have q2:sIx items.size items.size hi-sIx items.size 0 lo=items.size:=eq_of_beq q.2
  exact hw ⟨by lia,by lia⟩
 show wpAny _ _ (if(((sIx items.size 0 lo:Nat):Int)==0 && (1:Int)==1 && (sIx items.size items.size hi-sIx items.size 0 lo)==items.size)=true then _ else _) _ _ s
 rw[sg hno,XG]
 first
  |exact rT (m:=uI _) (uN (sG ⟨_,rfl,sG h⟩) htake)
  |exact rT (m:=uI _) (uN (rT (sG (sG ⟨_,rfl,sG h⟩))) htake)
  |exact rT (rT (m:=uI _) (uN (sG (sG ⟨_,rfl,sG h⟩)) htake))
  |exact rT (rT (m:=uI _) (uN (sG ⟨_,rfl,sG h⟩) htake))
end
end HT
namespace L2
open PySem PySem.Spec PyProof.Rows
abbrev TO:=St->Hp->(rW Int->Hp->Prop)->Prop
def PO(X:Cx)(e:rW sW)(t:TO):Prop:=
 ∀(pins:Wp (rY×Obj)) (s:rX) (σ:St) (H:Hp) (Q:rW Int->Hp->Prop),Inv X pins σ H s->t σ H Q->
  wpAny (model X.prog X.w) X.A (evalPart e X.env) (λu s'=>∃o H',Inv X pins σ H' s'/\y0 u o/\Q o H') X.xe s
noncomputable def Zs:TO:=λ_ H Q=>Q none H
noncomputable def mf(t:TE):TO:=λσ H Q=>t σ H λx H1=>∃i,x=.int i/\Q (Gc i) H1
section
variable{X:Cx}{e:sW}{te:TE}{lo hi:rW sW}{tl th:TO}{pos p2:Pos}
theorem VC:PO X none Zs:=by
 intro pins s σ H Q I h
 rw[AAA]
 exact sG ⟨none,H,I,.none,h⟩
theorem NK(h:PE X e te):PO X (Gc e) (mf te):=by
 intro pins s σ H Q I hw
 rw[evalPart_some]
 refine thn (h pins s σ H _ I hw) λu s1 ⟨x,H1,I1,r1,q1⟩=>?_
 obtain⟨i,rfl,q⟩:=q1
 obtain⟨t,rfl⟩:=r1
 exact⟨Gc i,H1,I1,.int i t,q⟩
def SlR(X:Cx)(r:V->rW Int->rW Int->Hp->VK->Prop):Prop:=
 ∀(pins:Wp (rY×Obj)) (s:rX) (σ:St) (H:Hp) (x:V) (v vl vu:rS) (lo hi:rW Int) (sl:rY) (Q:VK),Inv X pins σ H s->RelV x v->s.heap.IsSliceOf sl vl vu .none->y0 vl lo->y0 vu hi->r x lo hi H Q->
  ∃T id,typeLookup (.type T) "__getitem__"=pure (Gc (.builtin id))/\s.TypeIs v T/\wpAny (model X.prog X.w) X.A (getItem v (.ref sl)) (EP X pins σ Q) X.xe s
noncomputable def tSl(r:V->rW Int->rW Int->Hp->VK->Prop)(te:TE)(tl th:TO):TE:=λσ H Q=>te σ H λx H1=>tl σ H1 λl H2=>th σ H2 λu H3=>r x l u H3 Q
theorem Nv{r:V->rW Int->rW Int->Hp->VK->Prop}(hr:SlR X r)(he:PE X e te)(hl:PO X lo tl)(hu:PO X hi th):PE X (.Subscript e (.Slice lo hi none p2) pos) (tSl r te tl th):=by
 intro pins s σ H Q I h
 refine zV (thn (he pins s σ H _ I h) λv s1 ⟨x,H1,I1,r1,q1⟩=>?_)
 refine wpAny_Slice (thn (hl pins s1 σ H1 _ I1 q1) λvl s2 ⟨l,H2,I2,pl,q2⟩=>thn (hu pins s2 σ H2 _ I2 q2) λvu s3 ⟨u,H3,I3,pu,q3⟩=>?_)
 rw[AAA]
 refine sG ?_
 have I4:Inv X pins σ H3 {s3 with heap:=s3.heap.push {cls:=.type "slice",data:=.fields #[vl,vu,.none]}}:=I3.kept (t':=s3.toks) λb ob q=>rV _ q
 obtain⟨T,id,hT,ht,hg⟩:=hr pins {s3 with heap:=s3.heap.push {cls:=.type "slice",data:=.fields #[vl,vu,.none]}} σ H3 x v vl vu l u s3.heap.objs.size Q I4 r1 (AAG ..) pl pu q3
 show wpAny (model X.prog X.w) X.A (subscriptTail e (.Slice lo hi none p2) v (.ref s3.heap.objs.size)) (EP X pins σ Q) X.xe {s3 with heap:=s3.heap.push {cls:=.type "slice",data:=.fields #[vl,vu,.none]}}
 exact AAO (ops:=[.ref s3.heap.objs.size,v]) ht hT hg (by with_unfolding_all rfl)
noncomputable def Yt(xs:Wp V)(lo hi:rW Int):Wp V:=(xs.drop (HT.sIx xs.length 0 lo)).take (HT.sIx xs.length xs.length hi-HT.sIx xs.length 0 lo)
theorem K7(xs:Wp V)(lo hi:rW Int):(Yt xs lo hi).length<=xs.length:=by
 unfold Yt
 rw[xT,yt]
 lia
def qE(K:W1):V->rW Int->rW Int->Hp->VK->Prop:=λx lo hi H Q=>∃a xs,x=.ref a/\SqT K H a xs/\
 ¬(HT.sIx xs.length 0 lo=0/\HT.sIx xs.length xs.length hi=xs.length)/\∀p,H p=none->Q (.ref p) (upd H p (.tup (Yt xs lo hi)))
theorem gJ:SlR X (qE X.K):=by
 intro pins s σ H x v vl vu lo hi sl Q I rx hs pl pu h
 obtain⟨a,xs,rfl,hx,hw,q⟩:=h
 cases rx
 obtain⟨its,r,ht,hz⟩:=I.tuple hx
 have hlen:its.toArray.size=xs.length:=by rw[sJ];exact r.length.symm
 refine⟨"tuple",_,tM.lookup,ht.typeIs,?_⟩
 refine HT.J1 ht hs pl pu (by rw[hlen];exact hw) ?_ (by rw[hlen];exact hz)
 rw[hlen]
 refine⟨.ref s.heap.objs.size,_,I.laid (t':=s.toks) (o:=.tup (Yt xs lo hi)) (λb ob q=>rV _ q) (sD _) ?_,rfl,q _ (I.hok.fresh (sD _))⟩
 exact⟨sI (K7 xs lo hi) hz,_,(r.drop (HT.sIx xs.length 0 lo)).take (HT.sIx xs.length xs.length hi-HT.sIx xs.length 0 lo),vk _ _⟩
noncomputable def nJ(K:W1):R2:=λx y H Q=>∃a b xs ys,x=.ref a/\y=.ref b/\SqT K H a xs/\SqT K H b ys/\xs≠[]/\xs.length+ys.length<=sizeLine/\
 (ys=[]->Q (.ref a) H)/\(ys≠[]->∀p,H p=none->Q (.ref p) (upd H p (.tup (xs++ys))))
theorem Vals.M8{xs:Wp V}{us:Wp rS}(r:Vals xs us):us=[]↔xs=[]:=by
 cases r with
 |nil=>simp
 |cons _ _=>simp
theorem Zw:OpR X (binaryOp .Add) (nJ X.K):=by
 intro pins s σ H x y v u Q I rx ry h
 obtain⟨a,b,xs,ys,rfl,rfl,ha,hb,hx,hz,q1,q2⟩:=h
 cases rx
 cases ry
 obtain⟨its,r1,p1,_⟩:=I.tuple ha
 obtain⟨its2,r2,p2,_⟩:=I.tuple hb
 refine HT.Z7 p1 p2 (λz=>hx (r1.M8.mp z)) (λz=>⟨.ref a,H,I,rfl,q1 (r2.M8.mp z)⟩) (λz=>?_) (by rw[<-r1.length,<-r2.length];exact hz)
 refine⟨.ref s.heap.objs.size,_,I.laid (t':=s.toks) (o:=.tup (xs++ys)) (λb ob q=>rV _ q) (sD _) ?_,rfl,q2 (λw=>z (r2.M8.mpr w)) _ (I.hok.fresh (sD _))⟩
 exact⟨by rw[tV];exact hz,_,r1.append r2,vk _ _⟩
end
end L2
namespace L2
open PySem PySem.Spec PyProof.Rows
noncomputable def ixN(n:Nat)(i:Int):rW Nat:=if 0<=i then(if i<n then Gc i.toNat else none)else if-(n:Int)<=i then Gc (i+n).toNat else none
noncomputable def atI{α:Type}(xs:Wp α)(i:Int):rW α:=(ixN xs.length i).bind λj=>xs[j]?
theorem Uo{n:Nat}{i:Int}{j:Nat}(h:ixN n i=Gc j):seqIndex? i n=Gc j/\j<n/\ -(n:Int)<=i/\i<n:=by
 unfold ixN at h
 by_cases h0:0<=i
 .rw[sZ h0]at h
  by_cases h1:i<n
  .rw[sZ h1]at h
   have e:i.toNat=j:=uo h
   exact⟨by rw[seqIndex_of h0 h1,e],by lia,by lia,h1⟩
  .rw[sg h1]at h;cases h
 .rw[sg h0]at h
  by_cases h1: -(n:Int)<=i
  .rw[sZ h1]at h
   have e:(i+n).toNat=j:=uo h
   exact⟨by rw[seqIndex_neg (by lia) h1,e],by lia,h1,by lia⟩
  .rw[sg h1]at h;cases h
theorem Us{α:Type}{xs:Wp α}{i:Int}{v:α}(h:atI xs i=Gc v):∃j,seqIndex? i xs.length=Gc j/\xs[j]?=Gc v/\j<xs.length/\ -(xs.length:Int)<=i/\i<xs.length:=by
 unfold atI at h
 cases e:ixN xs.length i with
 |none=>rw[e]at h;cases h
 |some j=>
  rw[e]at h
  obtain⟨h1,h2,h3,h4⟩:=Uo e
  exact⟨j,h1,h,h2,h3,h4⟩
theorem ZP{α:Type}{xs:Wp α}{j:Nat}{v:α}(h:xs[j]?=Gc v):atI xs (j:Int)=Gc v:=by
 have hj:j<xs.length:=(r9.mp h).1
 have e:ixN xs.length (j:Int)=Gc j:=by
  unfold ixN
  rw[sZ (by lia),sZ (by lia)];simp
 unfold atI;rw[e];exact h
theorem QV{α:Type}(xs:Wp α)(v:α):atI (xs++[v]) (-1)=Gc v:=by
 have hl:(xs++[v]).length=xs.length+1:=by simp
 have e:ixN (xs++[v]).length (-1)=Gc xs.length:=by
  unfold ixN
  rw[hl,sg (by decide),sZ (by lia)]
  congr 1
  lia
 unfold atI
 rw[e]
 show(xs++[v])[xs.length]?=Gc v
 simp
def Nq(b:sW):Prop:=∀o i,subscripted b false o i=operate [o,i] (getItem o i)
def IxR(X:Cx)(r:R2):Prop:=
 ∀(value slice:sW) (pins:Wp (rY×Obj)) (s:rX) (σ:St) (H:Hp) (x y:V) (v u:rS) (Q:VK),Inv X pins σ H s->RelV x v->RelV y u->r x y H Q->
  subscripted slice false v u=operate [v,u] (getItem v u)->wpAny (model X.prog X.w) X.A (subscriptTail value slice v u) (EP X pins σ Q) X.xe s
def MtR(X:Cx)(id:vB)(r:V->Wp V->Hp->VK->Prop):Prop:=
 ∀(pins:Wp (rY×Obj)) (s:rX) (σ:St) (H:Hp) (x:V) (xs:Wp V) (v:rS) (us:Wp rS) (Q:VK),Inv X pins σ H s->RelV x v->Vals xs us->r x xs H Q->
  wpAny (model X.prog X.w) X.A (call (.builtin id) (v::us)) (EP X pins σ Q) X.xe s
section
variable{X:Cx}{a b:sW}{ta tb:TE}{pos:Pos}
theorem bV{r:R2}(hr:IxR X r)(ha:PE X a ta)(hb:PE X b tb)(hs:Nq b):PE X (.Subscript a b pos) (tOp r ta tb):=by
 intro pins s σ H Q I h
 exact zV (mw ha hb I h λv u s2 x y H2 I2 rx ry q=>hr a b pins s2 σ H2 x y v u Q I2 rx ry q (hs _ _))
noncomputable def qc(K:W1):R2:=λx y H Q=>∃p xs i v,x=.ref p/\y=.int i/\SqL K H p xs/\atI xs i=Gc v/\Q v H
noncomputable def pW(K:W1):R2:=λx y H Q=>∃p xs i v,x=.ref p/\y=.int i/\SqT K H p xs/\atI xs i=Gc v/\Q v H
theorem aj:IxR X (qc X.K):=by
 intro value slice pins s σ H x y v u Q I rx ry h hs
 obtain⟨p,xs,i,z,rfl,rfl,hq,he,q⟩:=h
 cases rx
 obtain⟨t,rfl⟩:=ry
 obtain⟨its,r,pl,hz⟩:=I.list hq
 obtain⟨j,h1,h2,h3,h4,h5⟩:=Us he
 obtain⟨w,ew,rw'⟩:=r.get h2
 have hl:=r.length
 have hn:=PJ
 have fin:EP X pins σ Q w s:=⟨z,H,I,rw',q⟩
 by_cases h0:0<=i
 .have hj:i.toNat=j:=by
   rw[seqIndex_of h0 h5]at h1
   exact uo h1
  exact item_listR pl.isList h0 (by lia) (by rw[hj];simpa using ew) fin hs
 .have hj:(i+(its.toArray.size:Int)).toNat=j:=by
   rw[seqIndex_neg (by lia) h4]at h1
   rw[sJ,<-hl]
   exact uo h1
  exact y3 (x:=w) pl.isList.typeIs slot_list_getitem.lookup
   (wpAny_getItem_list_neg (Q:=λr s'=>r=w/\EP X pins σ Q r s') pl.isList (by lia) (by rw[sJ]<;>lia) (by lia) (by rw[hj];simpa using ew) ⟨rfl,fin⟩) hs
theorem eG:IxR X (pW X.K):=by
 intro value slice pins s σ H x y v u Q I rx ry h hs
 obtain⟨p,xs,i,z,rfl,rfl,hq,he,q⟩:=h
 cases rx
 obtain⟨t,rfl⟩:=ry
 obtain⟨its,r,pl,hz⟩:=I.tuple hq
 obtain⟨j,h1,h2,h3,h4,h5⟩:=Us he
 obtain⟨w,ew,rw'⟩:=r.get h2
 have hl:=r.length
 have hn:=PJ
 have fin:EP X pins σ Q w s:=⟨z,H,I,rw',q⟩
 exact y3 (x:=w) pl.typeIs tM.lookup
  (getItem_tuple (j:=j) (Q:=λr s'=>r=w/\EP X pins σ Q r s') pl (by lia) (by lia) (by rw[sJ,<-hl];exact h1) (by simpa using ew) ⟨rfl,fin⟩) hs
theorem Rb(its:Wp rS)(n j:Nat)(u:rS):yO (·.setIfInBounds j u) {cls:=.type "list",data:=.seq its.toArray n}={cls:=.type "list",data:=.seq (its.set j u).toArray n}:=by
 simp[yO]
theorem Inv.lst{pins:Wp (rY×Obj)}{σ:St}{H:Hp}{s:rX}{p:rY}{xs:Wp V}(I:Inv X pins σ H s)(h:H p=Gc (.lst xs)):∃(its:Wp rS) (n:Nat),Vals xs its/\s.heap.get? p=Gc {cls:=.type "list",data:=.seq its.toArray n}/\xs.length<=sizeLine:=by
 obtain⟨z,its,n,r,e⟩:=I.hok p _ h
 exact⟨its,n,r,e,z⟩
theorem Inv.fH{pins:Wp (rY×Obj)}{σ:St}{H:Hp}{s:rX}{p:rY}{xs ys:Wp V}{its its':Wp rS}{n n':Nat}{f:Obj->Obj}(I:Inv X pins σ H s)(h:H p=Gc (.lst xs))(ho:s.heap.get? p=Gc {cls:=.type "list",data:=.seq its.toArray n})(hf:f {cls:=.type "list",data:=.seq its.toArray n}={cls:=.type "list",data:=.seq its'.toArray n'})(r:Vals ys its')(hz:ys.length<=sizeLine)(t:Nat):Inv X pins σ (upd H p (.lst ys)) {s with heap:=s.heap.update p f,toks:=t}:=by
 have e:(s.heap.update p f).get? p=Gc {cls:=.type "list",data:=.seq its'.toArray n'}:=by
  rw[u9 f ho (by rw[hf]<;>rfl),hf]
 refine I.write (x:=p) (e:=p) (by rw[h];trivial) (.inl rfl) (λb u hb q=>(uS _ _ (uX hb)).trans q) ⟨_,e⟩ ?_
 exact⟨hz,its',n',r,e⟩
def kT:V->V->V->Hp->(Hp->Prop)->Prop:=λo i v H Q=>∃p xs k j,o=.ref p/\i=.int k/\H p=Gc (.lst xs)/\ixN xs.length k=Gc j/\Q (upd H p (.lst (xs.set j v)))
theorem set_list:ng X kT:=by
 intro pins s σ H o i v ov iv u Q I ro ri rv h
 obtain⟨p,xs,k,j,rfl,rfl,hp,hj,q⟩:=h
 cases ro
 obtain⟨t,rfl⟩:=ri
 obtain⟨its,n,r,ho,hz⟩:=I.lst hp
 obtain⟨h1,h2,h3,h4⟩:=Uo hj
 have hl:=r.length
 have hn:=PJ
 have I':Inv X pins σ (upd H p (.lst (xs.set j v))) {s with heap:=s.heap.update p (yO (·.setIfInBounds j u))}:=
  I.fH hp ho (Rb its n j u) (r.set rv j) (by rw[u6];exact hz) s.toks
 by_cases h0:0<=k
 .have hk:k.toNat=j:=by
   rw[seqIndex_of h0 h4]at h1
   exact uo h1
  exact PySem.W.ki_setAt ho h0 (by lia) (by rw[sJ,<-hl];exact h4) (by rw[hk];exact⟨_,I',q⟩)
 .have hk:(k+(its.toArray.size:Int)).toNat=j:=by
   rw[seqIndex_neg (by lia) h3]at h1
   rw[sJ,<-hl]
   exact uo h1
  exact PySem.W.ki_setBack ho (by lia) (by rw[sJ,<-hl];exact h3) (by lia) (by rw[hk];exact⟨_,I',q⟩)
theorem OJ(lo hi:rW Int)(n:Nat):(sliceBounds lo hi none n).1=((HT.sIx n 0 lo:Nat):Int)/\(sliceBounds lo hi none n).2.1=((HT.sIx n n hi:Nat):Int)/\(sliceBounds lo hi none n).2.2=1:=by
 refine⟨?_,?_,rfl⟩
 .cases lo with
  |none=>simp[sliceBounds,HT.sIx]
  |some i=>
   simp only[sliceBounds,HT.sIx,Option.getD_none,show(1:Int)>0 by decide,xZ]
   by_cases h:i<0
   .simp only[h,xZ]<;>lia
   .simp only[h,yL]<;>lia
 .cases hi with
  |none=>simp[sliceBounds,HT.sIx]
  |some i=>
   simp only[sliceBounds,HT.sIx,Option.getD_none,show(1:Int)>0 by decide,xZ]
   by_cases h:i<0
   .simp only[h,xZ]<;>lia
   .simp only[h,yL]<;>lia
theorem Nf(its:Wp rS)(lo hi:rW Int):slicePick its.toArray lo hi none=((its.drop (HT.sIx its.length 0 lo)).take (HT.sIx its.length its.length hi-HT.sIx its.length 0 lo)).toArray:=by
 obtain⟨h1,h2,h3⟩:=OJ lo hi its.toArray.size
 unfold slicePick
 rw[h1,h2,h3]
 simp only[sliceRange_one,pick_run,sJ]<;>rfl
def pv(K:W1):V->rW Int->rW Int->Hp->VK->Prop:=λx lo hi H Q=>∃a xs,x=.ref a/\SqL K H a xs/\∀p,H p=none->Q (.ref p) (upd H p (.lst (Yt xs lo hi)))
theorem aI:SlR X (pv X.K):=by
 intro pins s σ H x v vl vu lo hi sl Q I rx hs pl pu h
 obtain⟨a,xs,rfl,hx,q⟩:=h
 cases rx
 obtain⟨its,r,ht,hz⟩:=I.list hx
 have hlen:=r.length
 refine⟨"list",_,slot_list_getitem.lookup,ht.isList.typeIs,?_⟩
 refine wpAny_getItem_list_slice ht.isList hs pl pu .none (by simp) ?_ (by rw[sJ]<;>lia)
 rw[Nf,<-hlen]
 refine⟨.ref s.heap.objs.size,_,I.laid (t':=s.toks) (o:=.lst (Yt xs lo hi)) (λb ob q=>rV _ q) (sD _) ?_,rfl,q _ (I.hok.fresh (sD _))⟩
 exact⟨sI (K7 xs lo hi) hz,_,0,(r.drop (HT.sIx xs.length 0 lo)).take (HT.sIx xs.length xs.length hi-HT.sIx xs.length 0 lo),sS _ rfl⟩
noncomputable def LX:V->sx
 | .non=>true
 | .bl _=>true
 | .int _=>true
 | .str _=>true
 |_=>false
noncomputable def eqV:V->V->sx
 | .non,.non=>true
 | .bl a,.bl b=>a==b
 | .bl a,.int b=>(if a then 1 else 0)==b
 | .int a,.bl b=>a==(if b then 1 else 0)
 | .int a,.int b=>a==b
 | .str a,.str b=>a==b
 |_,_=>false
theorem dI{A:tN}{s:rX}{y x:V}{u v:rS}(ry:RelV y u)(rx:RelV x v)(fy:LX y=true)(fx:LX x=true):SeqAt.EqAt A s u v (eqV y x):=by
 cases y with
 |non=>
  cases ry
  cases x with
  |non=>cases rx;exact SeqAt.EqAt.same _
  |bl b=>cases rx;exact SeqAt.EqAt.none_bool b
  |int b=>obtain⟨t,rfl⟩:=rx;exact SeqAt.EqAt.none_int b t
  |str b=>obtain⟨t,rfl⟩:=rx;exact SeqAt.EqAt.none_str b t
  |_=>exact absurd (show false=true from fx) tq
 |bl a=>
  cases ry
  cases x with
  |non=>cases rx;exact SeqAt.EqAt.bool_none a
  |bl b=>cases rx;exact SeqAt.EqAt.bool_bool a b
  |int b=>obtain⟨t,rfl⟩:=rx;exact SeqAt.EqAt.bool_int a b t
  |str b=>obtain⟨t,rfl⟩:=rx;exact SeqAt.EqAt.bool_str a b t
  |_=>exact absurd (show false=true from fx) tq
 |int a=>
  obtain⟨t',rfl⟩:=ry
  cases x with
  |non=>cases rx;exact SeqAt.EqAt.int_none a t'
  |bl b=>cases rx;exact SeqAt.EqAt.int_bool a t' b
  |int b=>obtain⟨t,rfl⟩:=rx;exact SeqAt.EqAt.int_int a t' b t
  |str b=>obtain⟨t,rfl⟩:=rx;exact AAC a t' b t
  |_=>exact absurd (show false=true from fx) tq
 |str a=>
  obtain⟨t',rfl⟩:=ry
  cases x with
  |non=>cases rx;exact SeqAt.EqAt.str_none a t'
  |bl b=>cases rx;exact SeqAt.EqAt.str_bool a t' b
  |int b=>obtain⟨t,rfl⟩:=rx;exact AAD a t' b t
  |str b=>obtain⟨t,rfl⟩:=rx;exact SeqAt.EqAt.str_str a t' b t
  |_=>exact absurd (show false=true from fx) tq
 |_=>exact absurd (show false=true from fy) tq
noncomputable def eqU(x:V)(u:rS):sx:=match u with
 | .none=>eqV .non x
 | .bool b=>eqV (.bl b) x
 | .int i _=>eqV (.int i) x
 | .str z _=>eqV (.str z) x
 |_=>false
theorem Ya{x y:V}{u:rS}(r:RelV y u)(f:LX y=true):eqU x u=eqV y x:=by
 cases y with
 |non=>cases r;rfl
 |bl b=>cases r;rfl
 |int i=>obtain⟨t,rfl⟩:=r;rfl
 |str z=>obtain⟨t,rfl⟩:=r;rfl
 |_=>exact absurd (show false=true from f) tq
theorem LY{x:V}:∀{xs:Wp V} {us:Wp rS},Vals xs us->xs.all LX=true->us.any (eqU x)=xs.any λy=>eqV y x
 |_,_,.nil,_=>rfl
 |y::xs,u::us,.cons r t,f=>by
  rw[vm,sA]at f
  rw[vR,vR,Ya r f.1,LY t f.2]
theorem JI{A:tN}{s:rX}{x:V}{v:rS}(rx:RelV x v)(fx:LX x=true):∀{xs:Wp V} {us:Wp rS},Vals xs us->xs.all LX=true->∀u∈us,SeqAt.EqAt A s u v (eqU x u)
 |_,_,.nil,_=>λu hu=>by cases hu
 |y::xs,u::us,.cons r t,f=>λu' hu=>by
  rw[vm,sA]at f
  rcases rZ.mp hu with rfl|hu
  .rw[Ya r f.1];exact dI r rx f.1 fx
  .exact JI rx fx t f.2 u' hu
noncomputable def inV(x:V)(xs:Wp V):sx:=xs.any λy=>eqV y x
noncomputable def rIn(K:W1)(neg:sx):R2:=λx y H Q=>∃p xs,y=.ref p/\(SqL K H p xs\/SqT K H p xs)/\LX x=true/\xs.all LX=true/\Q (.bl (if neg then !inV x xs else inV x xs)) H
theorem So:OpR X (compareOp .In) (rIn X.K false):=by
 intro pins s σ H x y v u Q I rx ry h
 obtain⟨p,xs,rfl,hq,fx,fs,q⟩:=h
 cases ry
 rcases hq with hq|hq
 .obtain⟨its,r,pl,hz⟩:=I.list hq
  refine SeqAt.in_listAt (eqU x) pl.isList (λw hw=>JI rx fx r fs w (by simpa using hw)) ⟨.bl _,H,I,rfl,?_⟩
  rw[show its.toArray.any (eqU x)=its.any (eqU x) by simp,LY r fs]
  exact q
 .obtain⟨its,r,pl,hz⟩:=I.tuple hq
  refine SeqAt.in_tupleAt (eqU x) pl (λw hw=>JI rx fx r fs w (by simpa using hw)) ⟨.bl _,H,I,rfl,?_⟩
  rw[show its.toArray.any (eqU x)=its.any (eqU x) by simp,LY r fs]
  exact q
theorem OP:OpR X (compareOp .NotIn) (rIn X.K true):=by
 intro pins s σ H x y v u Q I rx ry h
 obtain⟨p,xs,rfl,hq,fx,fs,q⟩:=h
 cases ry
 rcases hq with hq|hq
 .obtain⟨its,r,pl,hz⟩:=I.list hq
  refine SeqAt.notIn_listAt (eqU x) pl.isList (λw hw=>JI rx fx r fs w (by simpa using hw)) ⟨.bl _,H,I,rfl,?_⟩
  rw[show its.toArray.any (eqU x)=its.any (eqU x) by simp,LY r fs]
  exact q
 .obtain⟨its,r,pl,hz⟩:=I.tuple hq
  refine SeqAt.notIn_tupleAt (eqU x) pl (λw hw=>JI rx fx r fs w (by simpa using hw)) ⟨.bl _,H,I,rfl,?_⟩
  rw[show its.toArray.any (eqU x)=its.any (eqU x) by simp,LY r fs]
  exact q
theorem O6:EH X (.builtin "len") (λxs H Q=>∃p ys,xs=[.ref p]/\(SqL X.K H p ys\/SqT X.K H p ys)/\Q (.int ys.length) H):=by
 intro pins s σ H xs us Q I r h
 obtain⟨p,ys,rfl,hq,q⟩:=h
 obtain⟨u,rfl,rx⟩:=vals1 r
 cases rx
 have hn:=PJ
 rcases hq with hq|hq
 .obtain⟨its,r',pl,hz⟩:=I.list hq
  have hlen:=r'.length
  exact Calls.call_len_list pl.isList (by simp only[sJ]<;>lia) ⟨.int ys.length,H,I.tok _,⟨s.toks+1,by rw[sJ,hlen]⟩,q⟩
 .obtain⟨its,r',pl,hz⟩:=I.tuple hq
  have hlen:=r'.length
  exact len_tuple pl (by simp only[sJ]<;>lia) ⟨.int ys.length,H,I.tok _,⟨s.toks+1,by rw[sJ,hlen]⟩,q⟩
theorem OT:EH X (.builtin "len") (λxs H Q=>∃z,xs=[.str z]/\z.length<=sizeLine/\Q (.int z.length) H):=by
 intro pins s σ H xs us Q I r h
 obtain⟨z,rfl,hz,q⟩:=h
 obtain⟨u,rfl,t,rfl⟩:=vals1 r
 have hn:=PJ
 exact len_str (by lia) ⟨.int z.length,H,I.tok _,⟨_,rfl⟩,q⟩
theorem PH:EH X (.type "list") (λxs H Q=>∃p ys,xs=[.ref p]/\(SqL X.K H p ys\/SqT X.K H p ys)/\∀l,H l=none->Q (.ref l) (upd H l (.lst ys))):=by
 intro pins s σ H xs us Q I r h
 obtain⟨p,ys,rfl,hq,q⟩:=h
 obtain⟨u,rfl,rx⟩:=vals1 r
 cases rx
 have fin:∀(its:Wp rS),Vals ys its->ys.length<=sizeLine->∀(h':tT) (c':Nat),(∀b o',s.heap.get? b=Gc o'->h'.get? b=Gc o')->
   h'.get? s.heap.objs.size=Gc {cls:=.type "list",dict:=none,data:=.seq its.toArray c',slots:= #[]}->EP X pins σ Q (.ref s.heap.objs.size) {s with heap:=h'}:=λits r' hz h' c' kp e=>
  ⟨.ref s.heap.objs.size,_,I.laid (t':=s.toks) kp (sD _) (show C0 X.prog X.w _ h' _ (.lst ys)from⟨hz,its,c',r',e⟩),rfl,q _ (I.hok.fresh (sD _))⟩
 rcases hq with hq|hq
 .obtain⟨its,r',pl,hz⟩:=I.list hq
  have hlen:=r'.length
  obtain⟨o,ho,hc,n,hd⟩:=pl.isList
  exact call_list_seq p (.inl rfl) ho hc hd (λh' c' kp e=>fin its r' hz h' c' kp e) (by simp only[sJ]<;>lia)
 .obtain⟨its,r',pl,hz⟩:=I.tuple hq
  have hlen:=r'.length
  obtain⟨o,ho,hc,n,hd⟩:=pl
  exact call_list_seq p (.inr rfl) ho hc hd (λh' c' kp e=>fin its r' hz h' c' kp e) (by simp only[sJ]<;>lia)
theorem ND:EH X (.type "tuple") (λxs H Q=>∃p ys,xs=[.ref p]/\((SqL X.K H p ys/\∀l,H l=none->Q (.ref l) (upd H l (.tup ys)))\/(SqT X.K H p ys/\Q (.ref p) H))):=by
 intro pins s σ H xs us Q I r h
 obtain⟨p,ys,rfl,h⟩:=h
 obtain⟨u,rfl,rx⟩:=vals1 r
 cases rx
 rcases h with⟨hq,q⟩|⟨hq,q⟩
 .obtain⟨its,r',pl,hz⟩:=I.list hq
  have hlen:=r'.length
  refine call_tuple_list pl.isList (λh' kp=>?_) (by simp only[sJ]<;>lia)
  have I1:Inv X pins σ H {s with heap:=h'}:=I.kept (t':=s.toks) kp
  have I2:Inv X pins σ (upd H h'.objs.size (.tup ys)) {s with heap:=h'.push {cls:=.type "tuple",data:=.seq its.toArray}}:=
   I1.laid (t':=s.toks) (λb o e=>rV _ e) (sD _) (show C0 X.prog X.w _ _ _ (.tup ys)from⟨hz,its,r',vk _ _⟩)
  exact⟨.ref h'.objs.size,_,I2,rfl,q _ (I1.hok.fresh (sD _))⟩
 .obtain⟨its,r',pl,hz⟩:=I.tuple hq
  exact call_tuple_same pl ⟨.ref p,H,I,rfl,q⟩
def tyV(K:W1)(T:vB)(x:V)(H:Hp):Prop:=match x with
 | .str _=>T="str"
 | .int _=>T="int"
 | .ref p=>(T="list" /\∃xs,SqL K H p xs)\/(T="tuple" /\∃o,K.lookup p=Gc o/\o.cls=.type "tuple" /\o.dict=none)∨
    (T="dict" /\((∃kvs,H p=Gc (.dK kvs))\/∃kvs,H p=Gc (.dT kvs)))\/(T="set" /\∃S n,H p=Gc (.set S n))
 |_=>ur
theorem YV{pins:Wp (rY×Obj)}{σ:St}{H:Hp}{s:rX}{T:vB}{x:V}{v:rS}(I:Inv X pins σ H s)(r:RelV x v)(ty:tyV X.K T x H):s.TypeIs v T/\∀a,v=.ref a->∃ob,s.heap.get? a=Gc ob/\ob.dict=none:=by
 cases x with
 |str z=>
  obtain⟨t,rfl⟩:=r
  cases (show T="str" from ty)
  exact⟨yP s z t,λ_ e=>nomatch e⟩
 |int i=>
  obtain⟨t,rfl⟩:=r
  cases (show T="int" from ty)
  exact⟨xU s i t,λ_ e=>nomatch e⟩
 |ref p=>
  cases r
  rcases ty with⟨rfl,xs,hq⟩|⟨rfl,o,hk,hc,hd⟩|⟨rfl,hk⟩|⟨rfl,S,n,hk⟩
  .obtain⟨its,_,pl,_⟩:=I.list hq
   refine⟨pl.isList.typeIs,λa e=>?_⟩
   cases e
   obtain⟨o,n,e,c,hd,_⟩:=pl
   exact⟨o,e,hd⟩
  .refine⟨⟨o,I.kIn p o hk,hc⟩,λa e=>?_⟩
   cases e
   exact⟨o,I.kIn _ o hk,hd⟩
  .have z:∃o,s.heap.get? p=Gc o/\o.ExactDict:=by
    rcases hk with⟨kvs,hk⟩|⟨kvs,hk⟩
    .obtain⟨_,_,_,_,o,_,_,e,ex,_⟩:=I.hok p _ hk
     exact⟨o,e,ex⟩
    .obtain⟨_,_,_,_,o,_,_,e,ex,_⟩:=I.hok p _ hk
     exact⟨o,e,ex⟩
   obtain⟨o,e,ex⟩:=z
   refine⟨⟨o,e,ex.1⟩,λa e2=>?_⟩
   cases e2
   exact⟨o,e,ex.2.1⟩
  .obtain⟨o,_,_,_,e,ex,_⟩:=I.hok p _ hk
   refine⟨⟨o,e,ex.1⟩,λa e2=>?_⟩
   cases e2
   exact⟨o,e,ex.2.1⟩
 |_=>exact tu ty
noncomputable def ql(K:W1)(T:vB)(r:V->Wp V->Hp->VK->Prop)(to:TE):TE:=λσ H Q=>to σ H λx H1=>tyV K T x H1/\r x [] H1 Q
noncomputable def tBM(K:W1)(T:vB)(r:V->Wp V->Hp->VK->Prop)(to:TE)(t:TA):TE:=λσ H Q=>to σ H λx H1=>tyV K T x H1/\t σ H1 λxs H2=>r x xs H2 Q
variable{o e:sW}{es:Wp sW}{to:TE}{t:TA}{name:Str}{apos cpos:Pos}{T id:vB}{r:V->Wp V->Hp->VK->Prop}
theorem dQ(pa:PlainAttrs T)(slot:Slot T name id)(hty:typeOf (.builtin id)=pure (.type "method_descriptor"))(hm:MtR X id r)(ho:PE X o to)(hbase:attributeBase o name X.env (eval o X.env)=eval o X.env:=by rfl)(hline:(apos.endLine==cpos.line)=true:=by rfl):PE X (.Call (.Attribute o name apos) [] [] cpos) (ql X.K T r to):=by
 intro pins s σ H Q I h
 refine wpAny_Call_method0_late hbase hline (thn (ho pins s σ H _ I h) λv s1 ⟨x,H1,I1,r1,ty,q1⟩=>?_)
 obtain⟨h1,h2⟩:=YV I1 r1 ty
 exact⟨T,id,pa,slot,hty,h1,h2,y4 rfl (PySem.evalArgs_none (hm pins s1 σ H1 x [] v [] Q I1 r1 .nil q1))⟩
theorem nK(pa:PlainAttrs T)(slot:Slot T name id)(hty:typeOf (.builtin id)=pure (.type "method_descriptor"))(hm:MtR X id r)(ho:PE X o to)(ha:PA X (e::es) t)(hbase:attributeBase o name X.env (eval o X.env)=eval o X.env:=by rfl)(hfew:((backTo cpos (sE (e::es) X.env)).all (λx=> !x.1) && (backToKw cpos (keywordEach [] X.env)).all (λx=>x.1.isSome) && decide ((e::es).length+([]:Wp yb).length+(if([]:Wp yb).isEmpty then 0 else 1)<30))=true:=by rfl)(hline:(apos.endLine==cpos.line)=true:=by rfl)(hs:sE (e::es) X.env=(false,eval e X.env)::sE es X.env:=by rfl)(hplain:(backTo cpos (sE es X.env)).any (·.1)=false:=by rfl):PE X (.Call (.Attribute o name apos) (e::es) [] cpos) (tBM X.K T r to t):=by
 intro pins s σ H Q I h
 refine wpAny_Call_method_late hbase hfew hline rfl (thn (ho pins s σ H _ I h) λv s1 ⟨x,H1,I1,r1,ty,q1⟩=>?_)
 obtain⟨h1,h2⟩:=YV I1 r1 ty
 refine⟨T,id,pa,slot,hty,h1,h2,?_⟩
 have hA:=ha cpos pins s1 σ H1 _ I1 q1
 rw[hs]at hA⊢
 refine y4 (by show(false||(backTo cpos (sE es X.env)).any (·.1))=false;rw[hplain]<;>rfl) (zZ ?_)
 exact thn hA λus s2 ⟨vs,H2,I2,r2,q2⟩=>hm pins s2 σ H2 x vs v us Q I2 r1 r2 q2
end
end L2
namespace L2
open PySem PySem.Spec PyProof.Rows
def MtM(X:Cx)(id:vB)(r:V->Wp V->Hp->VK->Prop):Prop:=
 ∀(pins:Wp (rY×Obj)) (s:rX) (σ:St) (H:Hp) (x:V) (xs:Wp V) (v:rS) (us:Wp rS) (Q:VK),Inv X pins σ H s->RelV x v->Vals xs us->r x xs H Q->
  wpAny (model X.prog X.w) X.A (call (.builtin id) (v::us)) (EP X pins σ Q) X.xe s
theorem Vals.one:∀{x:V} {us:Wp rS},Vals [x] us->∃u,us=[u]/\RelV x u:=λh=>by
 cases h with
 |cons r t=>cases t;exact⟨_,rfl,r⟩
theorem Vals.two:∀{x y:V} {us:Wp rS},Vals [x,y] us->∃u v,us=[u,v]/\RelV x u/\RelV y v:=λh=>by
 cases h with
 |cons r t=>
  cases t with
  |cons q t=>cases t;exact⟨_,_,rfl,r,q⟩
theorem Vals.rep{xs:Wp V}{us:Wp rS}(h:Vals xs us):∀k:Nat,Vals (sH k xs).flatten (sH k us).flatten
 |0=>.nil
 |k+1=>by
  rw[uh,uh,vg,vg]
  exact Vals.append h (Vals.rep h k)
theorem foldl_rep(its:Wp rS):∀(k:Nat) (acc:Wp rS),AAH (λx1 x2=>x1++x2) acc.toArray (sH k its.toArray)=(acc++(sH k its).flatten).toArray
 |0,acc=>by simp
 |k+1,acc=>by
  have e:acc.toArray++its.toArray=(acc++its).toArray:=by simp
  have e2:(acc++its)++(sH k its).flatten=acc++(sH (k+1) its).flatten:=by
   rw[uh,vg,xG]
  rw[<-e2,<-foldl_rep its k (acc++its),<-e,uh,List.foldl_cons]
section
variable{X:Cx}{pins:Wp (rY×Obj)}{σ:St}{H:Hp}{s:rX}{l b:rY}{xs ys zs:Wp V}
theorem Inv.lZ{its its':Wp rS}{n:Nat}{f:uE rS->uE rS}{t':Nat}(I:Inv X pins σ H s)(hH:H l=Gc (.lst xs))(e:s.heap.get? l=Gc {cls:=.type "list",data:=.seq its.toArray n})(hf:f its.toArray=its'.toArray)(hv:Vals ys its')(hz:ys.length<=sizeLine):Inv X pins σ (upd H l (.lst ys)) {s with heap:=s.heap.update l (yO f),toks:=t'}:=by
 have q:=PySem.IsL.update e f
 rw[hf]at q
 refine I.write (x:=l) (e:=l) (by rw[hH];exact trivial) (.inl rfl) (λb' u hb hu=>(uS s.heap (yO f) (uX hb)).trans hu) ⟨_,q⟩ ?_
 exact⟨hz,its',_,hv,q⟩
theorem Inv.oR{its:Wp rS}{t':Nat}(I:Inv X pins σ H s)(hv:Vals ys its)(hz:ys.length<=sizeLine):Inv X pins σ (upd H s.heap.objs.size (.lst ys)) {s with heap:=s.heap.push {cls:=.type "list",data:=.seq its.toArray},toks:=t'}:=
 I.laid (λ_ _ q=>rV _ q) (sD _) ⟨hz,its,0,hv,sS _ rfl⟩
theorem Inv.fresh(I:Inv X pins σ H s):H s.heap.objs.size=none:=I.hok.fresh (sD _)
theorem Inv.YU(I:Inv X pins σ H s)(hH:H l=Gc (.lst xs)):xs.length<=sizeLine/\∃(its:Wp rS) (n:Nat),Vals xs its/\xs.length=its.length/\s.heap.get? l=Gc {cls:=.type "list",data:=.seq its.toArray n}:=by
 obtain⟨z,its,n,r,e⟩:=I.hok l _ hH
 exact⟨z,its,n,r,r.length,e⟩
theorem NN{n:Nat}(h:n<=sizeLine):uk n=false:=by
 unfold uk
 exact ue (by lia)
end
section
variable{X:Cx}
def cI:V->Wp V->Hp->VK->Prop:=λx vs H Q=>∃l xs y,x=.ref l/\vs=[y]/\H l=Gc (.lst xs)/\xs.length<sizeLine/\Q .non (upd H l (.lst (xs++[y])))
theorem OH:MtM X "list.append" cI:=by
 intro pins s σ H x vs v us Q I rx rv h
 obtain⟨l,xs,y,rfl,rfl,hH,hz,q⟩:=h
 cases rx
 obtain⟨u,rfl,ru⟩:=rv.one
 obtain⟨z,its,n,r,hl,e⟩:=I.YU hH
 refine xV zQ ⟨_,e,rfl⟩ F.entry_list_append (F.args_list_append_2 _ _) (PySem.list_append l its.toArray n u (by rw[sJ];lia)) ⟨e,?_⟩
 refine⟨.non,_,I.lZ (its':=its++[u]) hH e (by simp) (r.append (.cons ru .nil)) ?_,rfl,q⟩
 rw[tV,zR]
 lia
def aM:V->Wp V->Hp->VK->Prop:=λx vs H Q=>∃l b xs zs,x=.ref l/\vs=[.ref b]/\H l=Gc (.lst xs)/\H b=Gc (.lst zs)/\xs.length+zs.length<=sizeLine/\Q .non (upd H l (.lst (xs++zs)))
theorem Ub:MtM X "list.extend" aM:=by
 intro pins s σ H x vs v us Q I rx rv h
 obtain⟨l,b,xs,zs,rfl,rfl,hH,hB,hz,q⟩:=h
 cases rx
 obtain⟨u,rfl,ru⟩:=rv.one
 cases ru
 obtain⟨z,its,n,r,hl,e⟩:=I.YU hH
 obtain⟨z2,its2,n2,r2,hl2,e2⟩:=I.YU hB
 have hsz:its.toArray.size+its2.toArray.size<=sizeLine:=by rw[sJ,sJ];lia
 have hlong:¬(!its.toArray.isEmpty && uk (its.toArray.size+its2.toArray.size))=true:=by
  rw[NN hsz,yQ]
  exact tq
 refine xV AAI ⟨_,e,rfl⟩ zu (zb _ _)
  (AutoSeq1.list_extend_list_list_0 l its.toArray n b its2.toArray n2 hlong (by rw[sJ];lia) (by lia)) ⟨e,e2,?_⟩
 refine⟨.non,_,I.lZ (its':=its++its2) hH e (by simp) (r.append r2) ?_,rfl,q⟩
 rw[tV]
 lia
noncomputable def qJ:R2:=λx y H Q=>∃l b xs zs,x=.ref l/\y=.ref b/\H l=Gc (.lst xs)/\H b=Gc (.lst zs)/\xs.length+zs.length<=sizeLine/\∀p,H p=none->Q (.ref p) (upd H p (.lst (xs++zs)))
theorem gO:OpR X (binaryOp .Add) qJ:=by
 intro pins s σ H x y v u Q I rx ry h
 obtain⟨l,b,xs,zs,rfl,rfl,hH,hB,hz,q⟩:=h
 cases rx
 cases ry
 obtain⟨z,its,n,r,hl,e⟩:=I.YU hH
 obtain⟨z2,its2,n2,r2,hl2,e2⟩:=I.YU hB
 refine PySem.P.add_list e e2 ?_ (by rw[sJ,sJ];lia)
 have ea:its.toArray++its2.toArray=(its++its2).toArray:=by simp
 rw[ea]
 exact⟨.ref _,_,I.oR (t':=s.toks) (r.append r2) (by rw[tV];lia),rfl,q _ I.fresh⟩
noncomputable def qj:R2:=λx y H Q=>∃l k xs,x=.ref l/\y=.int k/\H l=Gc (.lst xs)/\ -(2^63)<=k/\k<2^63/\xs.length*k.toNat<=sizeLine/\
 ∀p,H p=none->Q (.ref p) (upd H p (.lst (sH k.toNat xs).flatten))
theorem len_rep{α:Type}(xs:Wp α)(k:Nat):(sH k xs).flatten.length=k*xs.length:=by
 induction k with
 |zero=>simp
 |succ k ih=>rw[uh,vg,tV,ih,Nat.succ_mul,Nat.add_comm]
theorem eE:OpR X (binaryOp .Mult) qj:=by
 intro pins s σ H x y v u Q I rx ry h
 obtain⟨l,k,xs,rfl,rfl,hH,h1,h2,hz,q⟩:=h
 cases rx
 obtain⟨t,rfl⟩:=ry
 obtain⟨z,its,n,r,hl,e⟩:=I.YU hH
 have hlen:its.toArray.size*k.toNat<=sizeLine:=by rw[sJ,<-hl];exact hz
 have hcap:¬its.toArray.size*k.toNat>(2^63-1) / 8:=by
  have:(sizeLine:Nat)<=(2^63-1) / 8:=by decide
  lia
 have hfit:¬(!Builtin.List.listFitsIndex k)=true:=by
  rw[fitsIndex_both h1 h2]
  exact tq
 have hlong:¬uk (its.toArray.size*k.toNat)=true:=by
  rw[NN hlen]
  exact tq
 have hnew:AAH (λx1 x2=>x1++x2) #[] (sH (if its.toArray.isEmpty=true then 0 else k.toNat) its.toArray)=(sH k.toNat its).flatten.toArray:=by
  have f0:∀m:Nat,AAH (λx1 x2=>x1++x2) #[] (sH m its.toArray)=(sH m its).flatten.toArray:=λm=>by
   have:=foldl_rep its m []
   rw[uC]at this
   exact this
  rw[f0]
  cases its with
  |nil=>simp
  |cons a r'=>rw[sg (by simp)]
 refine wV (T:="list") (U:="int") (by decide) ⟨_,e,rfl⟩ (λs'=>xU s' k t) noFill_list_mul zH v5 repeat_list yu.lookup
  (xV v5 (xU s k t) yv (yd _ _) (int___rmul___int_list k t l its.toArray n)
    ⟨e,rfl,⟨_,e,rfl⟩,xV F.slot_list_mul ⟨_,e,rfl⟩ F.entry_list_mul (F.args_list_mul_2 _ _) (AutoListH.list___mul___list_int_3 l its.toArray n k t hfit hcap hlong) ⟨e,?_⟩⟩)
 rw[hnew]
 exact⟨.ref _,_,I.oR (t':=s.toks) (r.rep k.toNat) (by rw[len_rep,vx];exact hz),rfl,q _ I.fresh⟩
end
section
variable{prog:sf}{w:tU}{A:tN}{E:rS->rX->Prop}{s:rX}
end
section
variable{X:Cx}
end
end L2
namespace Att
open PySem PySem.W PySem.Calls PyProof.Rows
theorem ints_of_wellAll{P:Params}{h:tT}:∀(ns:Wp Int) (vs:Wp rS),WellAll P h vs (ns.map WData.int)->IntsAre vs ns:=by
 intro ns
 induction ns with
 |nil=>
  intro vs w
  rw[vQ]at w
  cases w
  exact .nil
 |cons n ns ih=>
  intro vs w
  rw[sV]at w
  cases w with
  |cons a b=>
   cases a
   exact .cons _ _ (ih _ b)
theorem script_of{l:yy}{n:Nat}(hn:l.most=Gc n){P:Params}{h:tT}{args:Wp WData}{vals:Wp rS}(hpre:l.row.toRowW.claim.pre args=true)(hwl:WellAll P h vals args):∃a vs ns,vals=[si a]/\args=[WData.list (ns.map WData.int)]/\h.get? a=Gc {cls:=.type "list",data:=.seq vs.toArray}/\IntsAre vs ns/\ns.length<=n:=by
 have hsh:WShape.hasAll [] args [.list .int]=true:=(pre_splitW hpre).1
 have hc:l.pre.holds [] {args:=args}=true:=(pre_splitW hpre).2
 obtain⟨d,r,rfl,h1,h2⟩:=hasAllW_cons hsh
 obtain rfl:=hasAllW_nil h2
 obtain⟨xs,rfl,h3⟩:=hasW_list h1
 obtain⟨ns,rfl⟩:=items_int h3
 have hlen:ns.length<=n:=by
  unfold OpenLaw.pre at hc
  have h4:(WTm.not (.lt (.lit (.int (n:Int))) (.len (.arg 0)))).holds [] {args:=[.list (ns.map .int)]}=true:=by
   have h4:=(holds_andW hc).1
   rw[hn]at h4
   exact h4
  have h5:=condW_of h4 (w_not (w_lt w_lit (w_len_list (w_arg rfl))))
  rw[uJ]at h5
  refine Nat.le_of_not_lt λq=>?_
  have q':(n:Int)<((ns.length:Nat):Int):=by lia
  first
   |(rw[vK q']at h5;exact absurd h5 (by decide))
   |(simp at h5;lia)
 cases hwl with
 |cons w1 w2=>
  cases w2
  cases w1 with
  |list ho hall=>exact⟨_,_,ns,rfl,rfl,ho,ints_of_wellAll ns _ hall,hlen⟩
theorem post_true(l:yy)(args:Wp WData):l.row.toRowW.claim.post args (.bool true) args=true:=
 postW_of (r:=l.row.toRowW) (X:=(true==true))
  (show WShape.has [] (.bool true) .bool=true by first|rfl|decide|simp[WShape.has,WShape.arms,WShape.armsAll])
  (show(WTm.eq .res (.lit (.bool true))).value [] {args:=args,res:=Gc (.bool true),after:=args}=Gc (.bool (true==true))from w_eq_bool (w_res rfl) w_lit) rfl
theorem attach_call{l:yy}{n:Nat}{q:sf}{loose:Wp Str}{XP:(Str->rW rS)->tT->Prop}{YP:tU->tT->Prop}{d:DefRec}(hn:l.most=Gc n)(hdf:d.params.defaults=[])(call:∀(w:tU) (s₀ s₁:rX) (mg mb:Str->rW rS) (fa:rY) (o:Obj) (pm cd doc:rS) (a:rY) (vs:Wp rS) (ns:Wp Int),Ground q loose [] XP w s₀ mg mb s₁.heap->YP w s₁.heap->s₁.heap.get? fa=Gc o->o.data=.func (docDef d.name d.params d.body d.scope pm cd doc)->s₁.heap.CodeRec cd d.name->mg d.name=Gc (.ref fa)->s₁.heap.get? a=Gc {cls:=.type "list",data:=.seq vs.toArray}->IntsAre vs ns->ns.length<=n->s₁.gens= #[]->codeAny (model l.prog w) callerA (.call (.ref fa) ⟨[.ref a],[]⟩) (λr s'=>r=.ok (.ret (.bool true))/\OldK s₁.heap s'.heap/\s'.os=s₁.os/\wo s'.gens) s₁):WalkO q loose XP YP l.row.toRowW d [] (λf vs=>PySem.call f vs):=by
 intro w s₀ s₁ mg mb G Y fa o pm cd doc dV kV ho hd hcd hD hmg hg args vals as hpre hlay hrd hwl hlo
 obtain rfl:dV=.none:=Dflts.none hD hdf
 obtain rfl:kV=.none:=Dflts.noKw hD
 obtain⟨a,vs,ns,rfl,rfl,hobj,hints,hlen⟩:=script_of hn hpre hwl
 refine enter_call (wQ (call w s₀ s₁ mg mb fa o pm cd doc a vs ns G Y ho (fd_plain hd) hcd hmg hobj hints hlen hg) λr s' hq=>?_)
 obtain⟨rfl,h2,h3,h4⟩:=hq
 exact⟨.inl ⟨.bool true,.bool true,[],rfl,λ_=>rfl,.bool true,post_true l _,λ_=>⟨List.Pairwise.nil,λ_ hm=>(nomatch hm)⟩⟩,h2,h3,h4⟩
section
variable{prog:sf}{w:tU}{A:tN}{E:rS->rX->Prop}{s:rX}{K:W1}
end
end Att
namespace L2
open PySem PySem.Spec PyProof.Rows
theorem PM:∀{vs:Wp rS} {ns:Wp Int},IntsAre vs ns->Vals (ns.map V.int) vs
 |_,_,.nil=>.nil
 |_,_,.cons n t h=>.cons ⟨t,rfl⟩ (PM h)
end L2
namespace L2
open PySem PySem.Spec PyProof.Rows
abbrev KOf{K:W1}{h:tT}(_:K.In h):W1:=K
end L2
namespace L2
open PySem PySem.Spec PyProof.Rows
noncomputable def inClass(s:tE)(j:Nat):tE:=match s with
 | .ClassDef _ _ _ body _ _ _ _ _ _ _=>body.getD j (.Pass ⟨0,0,0,0⟩)
 |_=>.Pass ⟨0,0,0,0⟩
noncomputable def Gp(s:tE):yD:=match s with
 | .FunctionDef _ a _ _ _ _ _ _ _ _=>a
 |_=>{posonlyargs:=[],args:=[],vararg:=none,kwonlyargs:=[],kw_defaults:=[],kwarg:=none,defaults:=[]}
noncomputable def A3(s:tE):Wp tE:=match s with
 | .FunctionDef _ _ b _ _ _ _ _ _ _=>b
 |_=>[]
noncomputable def AD(s:tE):uT:=match s with
 | .FunctionDef _ _ _ _ _ _ sc _ _ _=>sc
 |_=>{kind:=.function,names:=[],isGenerator:=false,isCoroutine:=false}
abbrev CX0:CXT:=λ_ _ _ _ _ _=>ur
abbrev E0:XK:=λ_ _ _=>ur
theorem TU{X:Cx}:Passes CX0 X E0:=λ_ _ _ _ _ _ _ h=>h.elim
structure Fun(K:W1)(x qual:Str)(st:tE)(f:rY)(fd:uf):Prop where
 ex:∃(oc:rS) (od:rW rY) (kV doc pm:rS) (an:rW rY) (cdv ct:rS) (osl:uE (rW rS)),
  fd=vG x qual (Gp st) (A3 st) (AD st) .none kV doc pm an cdv ct/\K.lookup f=Gc ⟨oc,od,.func fd,osl⟩/\wH K cdv qual=true
 kp:uL K (.ref f)=true
section
variable{P:sf}{w:tU}{K:W1}{mg:Str->rW rS}{base:tT}
theorem Fun.ok{x qual:Str}{st:tE}{f:rY}{fd:uf}{N ps:Wp Str}{k:Nat}{sp:Sp}(F:Fun K x qual st f fd)(S:Ar N ps (AD st))(len:∀vs H Q E,sp vs H Q E->vs.length=ps.length)(hbody:∀(cdv:rS) (A:tN) (outer:Wp Env) (s:rX) (H:Hp) (vs:Wp V) (Q:VK) (E:XK),CZ k (A.deeper (envOfC qual (AD st) s.heap.objs.size f cdv))->sp vs H Q E->∃t,PSs (Hw CX0 P w K mg base N qual (AD st) f cdv A outer s H E).nox (A3 st) t/\t {nx:=λ_ H'=>Q .non H',rt:=Q} (start N vs) H):KR P w K mg base CX0 (k+1) f fd ps sp:=by
 obtain⟨oc,od,kV,doc,pm,an,cdv,ct,osl,rfl,lk,hcd⟩:=F.ex
 refine X5 lk hcd S len λA outer s H vs Q E hr hsp=>?_
 obtain⟨t,h,q⟩:=hbody cdv A outer s H vs Q E hr hsp
 exact⟨t,h.nox,q⟩
theorem Fun.binds{x qual:Str}{st:tE}{f:rY}{fd:uf}{ps:Wp Str}(F:Fun K x qual st f fd)(h:∀(kV doc pm:rS) (an:rW rY) (cdv ct:rS) (us:Wp rS),us.length=ps.length->bindArgs (vG x qual (Gp st) (A3 st) (AD st) .none kV doc pm an cdv ct) ⟨us,[]⟩=pure (ps.zip us)):Binds K fd ps []:=by
 obtain⟨oc,od,kV,doc,pm,an,cdv,ct,osl,rfl,lk,hcd⟩:=F.ex
 exact .all (h kV doc pm an cdv ct)
theorem U0{x qual:Str}{st:tE}{f:rY}{oc:rS}{od an:rW rY}{osl:uE (rW rS)}{kV doc pm cdv ct:rS}(l:K.lookup f=Gc ⟨oc,od,.func (vG x qual (Gp st) (A3 st) (AD st) .none kV doc pm an cdv ct),osl⟩)(c:wH K cdv qual=true)(k:uL K (.ref f)=true):Fun K x qual st f (vG x qual (Gp st) (A3 st) (AD st) .none kV doc pm an cdv ct):=⟨⟨oc,od,kV,doc,pm,an,cdv,ct,osl,rfl,l,c⟩,k⟩
end
section
variable{X:Cx}
end
theorem Z4{A B:Prop}(h:B):if false=true then A else B:=by
 rw[sg tq]
 exact h
theorem aQ{A B:Prop}(h:A):if true=true then A else B:=by
 rw[sZ rfl]
 exact h
def Ed(H H':Hp):Prop:=∀b o,H b=Gc o->H' b=Gc o
end L2
end
noncomputable section
namespace L2
open PySem PySem.Spec PyProof.Rows
noncomputable def FD(cells:Wp (Str×rY)):Wp (Str×vq)->Wp (Str×rY)->Wp (Str×rY)
 | [],cs=>cs
 |(n,k)::r,cs=>if(k==uO)=true then FD cells r ((n,(cells.lookup n).getD 0)::cs)else FD cells r cs
theorem O5{env:Env}:∀(names:Wp (Str×vq)) (cs:Wp (Str×rY)),(∀y∈names,y.2=.free->∃a,env.cells.lookup y.1=Gc a)->(forIn names cs λ(x:Str×vq) r=>match x with|(name,kind)=>if(kind==uO)=true then(do let a<-cellOf env name;pure (xk ((name,a)::r)))else pure (xk r):Sem (Wp (Str×rY)))=pure (FD env.cells names cs)
 | [],cs,_=>by simp[FD]
 |(n,k)::r,cs,h=>by
  rw[zI]
  have ih:=λcs=>O5 r cs λy hy=>h y (rg _ hy)
  by_cases hk:(k==uO)=true
  .obtain⟨a,ha⟩:=h (n,k) sN (by simpa using hk)
   have ha':env.cells.lookup n=Gc a:=ha
   have e:cellOf env n=pure a:=by unfold cellOf;rw[ha']
   simp only[hk,xZ,e,pure_bind,FD,ha',Option.getD_some]
   exact ih _
  .simp only[hk,yL,pure_bind,FD]
   exact ih _
theorem NO{scope:uT}{env:Env}(h:∀y∈scope.names,y.2=.free->∃a,env.cells.lookup y.1=Gc a):closureFor scope env=pure (FD env.cells scope.names []):=by
 unfold closureFor
 have:=O5 (env:=env) scope.names [] h
 simp only[bind_pure]at this⊢
 exact this
theorem JO{cells:Wp (Str×rY)}{x:Str}{c:rY}:∀{names:Wp (Str×vq)} {cs:Wp (Str×rY)},(∀y∈names,y.2=.free->∃a,cells.lookup y.1=Gc a)->(FD cells names cs).lookup x=Gc c->cs.lookup x=Gc c\/cells.lookup x=Gc c
 | [],cs,_,h=>.inl h
 |(n,k)::r,cs,hh,h=>by
  have hr:∀y∈r,y.2=.free->∃a,cells.lookup y.1=Gc a:=λy hy=>hh y (rg _ hy)
  unfold FD at h
  by_cases hk:(k==uO)=true
  .rw[sZ hk]at h
   rcases JO hr h with q|q
   .obtain⟨a,ha⟩:=hh (n,k) sN (by simpa using hk)
    have ha':cells.lookup n=Gc a:=ha
    rw[tY]at q
    cases hx:x==n with
    |true=>
     rw[hx,ha']at q
     have e:x=n:=by simpa using hx
     subst e
     cases q
     exact .inr ha'
    |false=>
     rw[hx]at q
     exact .inl q
   .exact .inr q
  .rw[sg hk]at h
   exact JO hr h
theorem GC{cells:Wp (Str×rY)}{x:Str}:∀{names:Wp (Str×vq)} {cs:Wp (Str×rY)},((x,uO)∈names\/∃c,cs.lookup x=Gc c)->∃c,(FD cells names cs).lookup x=Gc c
 | [],cs,h=>h.elim (λz=>nomatch z) id
 |(n,k)::r,cs,h=>by
  unfold FD
  by_cases hk:(k==uO)=true
  .rw[sZ hk]
   refine GC ?_
   by_cases hx:x=n
   .subst hx
    exact .inr ⟨_,by rw[tY,yw]⟩
   .rcases h with h|⟨c,h⟩
    .rcases rZ.mp h with e|e
     .cases e;exact absurd rfl hx
     .exact .inl e
    .refine .inr ⟨c,?_⟩
     rw[tY,show(x==n)=false by simpa using hx]
     exact h
  .rw[sg hk]
   refine GC ?_
   rcases h with h|h
   .rcases rZ.mp h with e|e
    .cases e;exact absurd rfl hk
    .exact .inl e
   .exact .inr h
theorem KJ{env:Env}{x:Str}:∀{names:Wp (Str×vq)},names.lookup x=Gc .free->(names.map λ(n,k)=>if(k==uO && env.scope.kind== .function && env.kindOf n==Gc .cell)then(n,wB)else(n,k)).lookup x=Gc .cell\/(names.map λ(n,k)=>if(k==uO && env.scope.kind== .function && env.kindOf n==Gc .cell)then(n,wB)else(n,k)).lookup x=Gc .free
 | [],h=>by simp at h
 |(n,k)::r,h=>by
  have ih:= @KJ env x r
  show uu x ((if(k==uO && env.scope.kind== .function && env.kindOf n==Gc .cell)=true then(n,wB)else(n,k))::_)=_\/uu x ((if(k==uO && env.scope.kind== .function && env.kindOf n==Gc .cell)=true then(n,wB)else(n,k))::_)=_
  cases hx:x==n with
  |true=>
   simp only[tY,hx]at h
   cases h
   by_cases hc:(uO==uO && env.scope.kind== .function && env.kindOf n==Gc .cell)=true
   .rw[sZ hc];simp only[tY,hx];exact .inl trivial
   .rw[sg hc];simp only[tY,hx];exact .inr trivial
  |false=>
   simp only[tY,hx]at h
   by_cases hc:(k==uO && env.scope.kind== .function && env.kindOf n==Gc .cell)=true
   .rw[sZ hc];simp only[tY,hx];exact ih h
   .rw[sg hc];simp only[tY,hx];exact ih h
theorem LZ{env:Env}{scope:uT}{x:Str}{k':vq}(hk:k'=.cell\/k'=.free)(h:(relabel scope env).names.lookup x=Gc k'):(x,uO)∈scope.names\/(x,wB)∈scope.names:=by
 have hm:=tZ h
 obtain⟨⟨n,k⟩,hy,e⟩:=uA.mp (show(x,k')∈scope.names.map _ from hm)
 by_cases hc:(k==uO && env.scope.kind== .function && env.kindOf n==Gc .cell)=true
 .simp only[hc,xZ]at e
  cases e
  have:k=.free:=by
   have:=((sA _ _).mp hc).1
   exact vC.mp ((sA _ _).mp this).1
  subst this
  exact .inl hy
 .simp only[hc,yL]at e
  cases e
  rcases hk with rfl|rfl
  .exact .inr hy
  .exact .inl hy
theorem Bu:∀(names:Wp (Str×vq)) (n:Nat) (cs:Wp (Str×rY)),cellsFrom n names cs=cellsFrom n names []++cs
 | [],_,_=>rfl
 |(x,k)::r,n,cs=>by
  unfold cellsFrom
  split
  .rw[Bu r _ ((x,n)::cs),Bu r _ [(x,n)]];simp
  .exact Bu r n cs
theorem GO{x:Str}{c:rY}:∀{names:Wp (Str×vq)} {n:Nat},(x,c)∈cellsFrom n names []->(x,wB)∈names
 | [],_,h=>nomatch h
 |(y,k)::r,n,h=>by
  unfold cellsFrom at h
  split at h
  .rename_i hk
   rw[Bu]at h
   rcases sX.mp h with z|z
   .exact rg _ (GO z)
   .have e:=sj.mp z
    cases e
    rw[vC.mp hk]
    exact sN
  .exact rg _ (GO h)
theorem Jz{M:Model}{A:tN}{E:rS->rX->Prop}{s:rX}{scope:uT}{globals:rY}{cl:Wp (Str×rY)}{qual:Str}{env:Env}{Q:Env->rX->Prop}(hQ:∀h':tT,h'.Ns s.heap.objs.size (λ_=>none)->(∀b o,s.heap.get? b=Gc o->h'.get? b=Gc o)->CellsOk h' (s.heap.objs.size+1) (cellsFrom (s.heap.objs.size+1) scope.names [])->Q (newEnv scope s.heap.objs.size globals (cellsFrom (s.heap.objs.size+1) scope.names cl) qual none .none (Gc env) builtinsNs) {s with heap:=h'}):wpAny M A (newFunctionEnv scope globals cl [] qual none .none (Gc env)) Q E s:=by
 simp only[newFunctionEnv,Option.isSome_some,xZ]
 refine rT (wpAny_alloc ?_)
 refine rT (wpAny_layCells _ (λname kind cells=>by cases hkc:kind==wB<;>simp[hkc]) _ _ _ _ ?_)
 have ok:=cellsFrom_ok scope.names (s.heap.push {cls:=.type "dict",data:=.dict #[]}) (s.heap.objs.size+1) [] ⟨λ_ _ hm=>(nomatch hm),List.Pairwise.nil⟩ (by rw[uU];exact sD _)
 rw[uU]at ok
 rw[show({s with heap:=s.heap.push {cls:=.type "dict",data:=.dict #[]}}:rX).heap.objs.size=s.heap.objs.size+1 from uU ..]
 rw[zc]
 refine rT (sG (sG ?_))
 exact hQ _ ((Heap.Ns.new s.heap (.type "dict")).keeps (pushCells_keeps _ _)) (λb o e=>pushCells_keeps _ _ b o (rV _ e)) ok
end L2
end
noncomputable section
namespace L2
open PySem PySem.Spec PyProof.Rows
noncomputable def Qx(N:Wp Str)(osc scope:uT):Wp Str->Wp (rW Nat)->sx
 | [],[]=>true
 |_::r,none::q=>Qx N osc scope r q
 |x::r,Gc i::q=>decide (N[i]?=Gc x) && (decide (osc.names.lookup x=Gc .cell)||decide (osc.names.lookup x=Gc .free)) && decide (scope.names.lookup x=Gc .free) && Qx N osc scope r q
 |_,_=>false
theorem Sw{N:Wp Str}{osc scope:uT}:∀{N':Wp Str} {ix:Wp (rW Nat)},Qx N osc scope N' ix=true->ix.length=N'.length
 | [],[],_=>rfl
 |_::r,none::q,h=>by
  unfold Qx at h
  simp[Sw h]
 |x::r,Gc i::q,h=>by
  unfold Qx at h
  have:=((sA _ _).mp h).2
  simp[Sw this]
 | [],_::_,h=>by simp[Qx]at h
 |_::_,[],h=>by simp[Qx]at h
theorem ZY{N:Wp Str}{osc scope:uT}:∀{N':Wp Str} {ix:Wp (rW Nat)},Qx N osc scope N' ix=true->∀{j i:Nat} {x:Str},N'[j]?=Gc x->ix[j]?=Gc (Gc i)->N[i]?=Gc x/\(osc.names.lookup x=Gc .cell\/osc.names.lookup x=Gc .free)/\scope.names.lookup x=Gc .free
 | [],[],_,j,_,_,h,_=>by simp at h
 |_::r,none::q,h,j,i,x,h1,h2=>by
  unfold Qx at h
  cases j with
  |zero=>simp at h2
  |succ j=>exact ZY h (by simpa using h1) (by simpa using h2)
 |y::r,Gc k::q,h,j,i,x,h1,h2=>by
  unfold Qx at h
  obtain⟨ha,hr⟩:=(sA _ _).mp h
  obtain⟨ha,h3⟩:=(sA _ _).mp ha
  obtain⟨h4,h5⟩:=(sA _ _).mp ha
  cases j with
  |zero=>
   simp at h1 h2
   subst h1 h2
   refine⟨sM h4,?_,sM h3⟩
   rcases(uK _ _).mp h5 with z|z
   .exact .inl (sM z)
   .exact .inr (sM z)
  |succ j=>exact ZY hr (by simpa using h1) (by simpa using h2)
 | [],_::_,h,_,_,_,_,_=>by simp[Qx]at h
 |_::_,[],h,_,_,_,_,_=>by simp[Qx]at h
structure Ab(N:Wp Str)(osc:uT)(N':Wp Str)(ix:Wp (rW Nat))(scope:uT):Prop where
 kind:scope.kind=.function
 cells:∀y∈scope.names,y.2=.cell->scope.names.lookup y.1=Gc .cell
 names:∀y∈scope.names,y.2=.local->scope.names.lookup y.1=Gc .local
 free:∀y∈scope.names,y.2=.free->(osc.names.lookup y.1=Gc .cell\/osc.names.lookup y.1=Gc .free)
 ok:Qx N osc scope N' ix=true
noncomputable def sig(ix:Wp (rW Nat))(σ:St):St:=ix.map λo=>o.bind λi=>(σ[i]?).join
noncomputable def Hh(X:Cx)(N':Wp Str)(scope:uT)(s:rX)(H:Hp)(fp:Wp rY):Cx where
 prog:=X.prog
 w:=X.w
 K:=X.K
 mg:=X.mg
 base:=X.base
 A:=X.A
 N:=N'
 s₀:=s
 H₀:=H
 env:=compEnvC scope (cellsFrom (s.heap.objs.size+1) scope.names (FD X.env.cells scope.names [])) s.heap.objs.size X.env
 outer:=X.stack
 stack:=X.stack
 ex:=fp
 fn:=λx=>decide (scope.names.lookup x=Gc .cell)
 calm:=true
 pn:=[]
 xe:=λ_ _=>ur
section
variable{X:Cx}{pins:Wp (rY×Obj)}{σ:St}{H:Hp}{s:rX}{N':Wp Str}{ix:Wp (rW Nat)}{scope:uT}{fp:Wp rY}
theorem Inv.cellsOf(I:Inv X pins σ H s)(S:Ab X.N X.env.scope N' ix scope):∀y∈scope.names,y.2=.free->∃a,X.env.cells.lookup y.1=Gc a:=λy hy hk=>I.ok.has y.1 (S.free y hy hk)
theorem V5(S:Ab X.N X.env.scope N' ix scope)(hc:X.calm=true)(I:Inv X pins σ H s)(hf:∀b∈fp,QE X pins H b)(hlt:∀b∈fp,b<s.heap.objs.size){h1:tT}{m1:Str->rW rS}{tk:Nat}(hn:h1.Ns s.heap.objs.size m1)(hk:∀b o,s.heap.get? b=Gc o->h1.get? b=Gc o)(hC:CellsOk h1 (s.heap.objs.size+1) (cellsFrom (s.heap.objs.size+1) scope.names [])):Inv (Hh X N' scope s H fp) [] (sig ix σ) H {s with heap:=h1,toks:=tk}:=by
 have hcl:=I.cellsOf S
 have sub:∀{x:Str} {c:rY},(FD X.env.cells scope.names []).lookup x=Gc c->X.env.cells.lookup x=Gc c:=λ{x c} h=>by
  rcases JO hcl h with z|z
  .simp at z
  .exact z
 have old:∀{x:Str} {c:rY},X.env.cells.lookup x=Gc c->c<s.heap.objs.size:=λ{x c} h=>by
  obtain⟨v,oc,ho,_⟩:=I.cell x c h
  exact sO ho
 have look:∀{x:Str} {c:rY},(cellsFrom (s.heap.objs.size+1) scope.names (FD X.env.cells scope.names [])).lookup x=Gc c->(x,c)∈cellsFrom (s.heap.objs.size+1) scope.names []\/X.env.cells.lookup x=Gc c:=λ{x c} h=>by
  rw[Bu,wk]at h
  cases e:(cellsFrom (s.heap.objs.size+1) scope.names []).lookup x with
  |some a=>rw[e]at h;cases h;exact .inl (tZ e)
  |none=>rw[e]at h;exact .inr (sub h)
 refine⟨⟨I.ok.mod,S.kind,I.ok.glob,I.ok.blt,sD _,λx y c h1 h2=>?_,λx hx=>?_,λx c hx h=>?_,λ_=>I.ok.hd hc,I.ok.frames,.inl rfl,λb hb=>?_,I.bs,sI I.ok.bsz I.sz,λb o e hb=>?_,λb hb hs=>?_,I.stack,I.Ph⟩,
  rfl,I.bare,Un.kept hk,⟨m1,hn,λj x v h1 h2 h3=>?_⟩,λx c h=>?_,I.hok.fresh (sD _),λx c h=>?_,λp hp=>absurd (show p∈([]:Wp (rY×Obj))from hp) (by simp),I.hok.kept hk,?_⟩
 . -- inj
   rcases look h1 with a|a<;>rcases look h2 with b|b
   .exact name_of_addr hC.apart a b
   .exact absurd (rz (old b) (wD (hC.empty _ _ a).2)) (uY _)
   .exact absurd (rz (old a) (wD (hC.empty _ _ b).2)) (uY _)
   .exact I.ok.inj x y c a b
 . -- has
   have hx':(relabel scope X.env).names.lookup x=Gc .cell\/(relabel scope X.env).names.lookup x=Gc .free:=hx
   show∃c,(cellsFrom (s.heap.objs.size+1) scope.names (FD X.env.cells scope.names [])).lookup x=Gc c
   rw[Bu,wk]
   cases e:(cellsFrom (s.heap.objs.size+1) scope.names []).lookup x with
   |some a=>exact⟨a,rfl⟩
   |none=>
    rcases(hx'.elim (LZ (.inl rfl)) (LZ (.inr rfl)))with z|z
    .exact GC (.inl z)
    .obtain⟨c,hc⟩:=Kp (n:=s.heap.objs.size+1) (S.cells _ z rfl)
     rw[e]at hc;cases hc
 . -- cab
   obtain⟨c',hc'⟩:=Kp (n:=s.heap.objs.size+1) (sM hx)
   have h:(cellsFrom (s.heap.objs.size+1) scope.names (FD X.env.cells scope.names [])).lookup x=Gc c:=h
   rw[Bu,wk,hc']at h
   cases h
   exact wD (hC.empty _ _ (tZ hc')).2
 . -- exf
   refine⟨tJ (hlt b hb),λx c h=>?_⟩
   rcases look h with a|a
   .exact λe=>absurd (rz (e▸hlt b hb) (wD (hC.empty _ _ a).2)) (uY _)
   .exact(hf b hb).2.2.2.2.1 x c a
 . -- ZF
   rcases(hf b hb).2.2.2.1 with z|z
   .exact I.ok.ZF b o e z
   .exact absurd (rz (sO (I.ok.bs b o e).1) z) (uY _)
 . -- aV
   rcases rZ.mp (I.VT b hs)with z|z
   .exact(hf b hb).2.1 z
   .exact(hf b hb).2.2.1 z
 . -- loc
   unfold sig at h2
   rw[sY]at h2
   cases e:ix[j]? with
   |none=>rw[e]at h2;cases h2
   |some o=>
    rw[e]at h2
    cases o with
    |none=>cases h2
    |some i=>
     have h2':(σ[i]?).join=Gc v:=by simpa using h2
     have h4:σ[i]?=Gc (Gc v):=by
      cases e4:σ[i]? with
      |none=>rw[e4]at h2';cases h2'
      |some q=>rw[e4]at h2';exact congrArg Gc h2'
     obtain⟨q1,q2,q3⟩:=ZY S.ok h1 e
     obtain⟨m,_,hl⟩:=I.loc
     obtain⟨u,r,l⟩:=hl i x v q1 h4 (q2.elim (λz=>.inr (.inl z)) λz=>.inr (.inr z))
     refine⟨u,r,?_⟩
     rcases l with⟨l,_⟩|⟨_,c,lc,z⟩
     .have l':X.env.scope.names.lookup x=Gc .local:=l
      rcases q2 with z|z<;>(rw[z]at l';cases l')
     .refine .inr ⟨KJ q3,?_⟩
      obtain⟨c',hc'⟩:=GC (cells:=X.env.cells) (cs:=[]) (.inl (tZ q3))
      have ec:=sub hc'
      rw[lc]at ec
      cases ec
      have no:(cellsFrom (s.heap.objs.size+1) scope.names []).lookup x=none:=by
       cases e:(cellsFrom (s.heap.objs.size+1) scope.names []).lookup x with
       |none=>rfl
       |some a=>
        have q:=S.cells _ (GO (tZ e)) rfl
        rw[q3]at q;cases q
      refine⟨c,(by show(cellsFrom (s.heap.objs.size+1) scope.names (FD X.env.cells scope.names [])).lookup x=Gc c;rw[Bu,wk,no];exact hc'),?_⟩
      obtain⟨oc,ho,hd⟩:=z
      exact⟨oc,hk _ _ ho,hd⟩
 .rcases look h with a|a
  .exact⟨_,(hC.empty _ _ a).1⟩
  .obtain⟨v,oc,ho,hd⟩:=I.cell x c a
   exact⟨v,oc,hk _ _ ho,hd⟩
 .rcases look h with a|a
  .exact I.hok.fresh (wD (hC.empty _ _ a).2)
  .exact I.JD x c a
 .show(sig ix σ).length=N'.length
  unfold sig
  rw[uJ]
  exact Sw S.ok
end
end L2
end
noncomputable section
namespace L2
open PySem PySem.Spec PyProof.Rows
def PTs(X:Cx)(ifs:Wp sW)(t:TT):Prop:=
 ∀(pins:Wp (rY×Obj)) (s:rX) (σ:St) (H:Hp) (Q:sx->Hp->Prop),Inv X pins σ H s->t σ H Q->
  wpAny (model X.prog X.w) X.A (forIn ifs true λc r=>if r=true then do let ok<-isTrue c X.env (eval c X.env);pure (xk ok)else pure (xk r)) (TP X pins σ Q) X.xe s
noncomputable def mD:TT:=λ_ H Q=>Q true H
theorem Zh{X:Cx}:PTs X [] mD:=λ_ _ _ H _ I h=>wpAny_tests_nil ⟨H,I,h⟩
theorem ao{X:Cx}{c:sW}{t:TT}(h:PT X c t):PTs X [c] t:=λpins s σ H Q I q=>wpAny_tests_one (h pins s σ H Q I q)
theorem XR{α:Type}{M:Model}{A:tN}{t:Sem α}{Q:α->rX->Prop}{E:rS->rX->Prop}{s:rX}(h:wpAny M A t Q (λ_ _=>ur) s):wpAny M A t Q E s:=ub h (λ_ _ q=>q) λ_ _ f=>f.elim
def iZ(ix:Wp (rW Nat))(g:TG)(tc:TT)(te:TE)(J:It)(σ:St)(H:Hp)(Q:VK):Prop:=
 ∀D,H D=none->∃W:Nat->Nat->St->Hp->Wp V->Prop,(∃m,W 0 m (sig ix σ) (upd H D (.lst [])) [])/\∀i m σ H ys,W i m σ H ys->H D=Gc (.lst ys)/\
  ((J.stop i H/\Q (.ref D) H)\/(J.go i H/\ys.length<sizeLine/\∀x H',J.yld i H x H'->g x σ H' λσ2 H2=>tc σ2 H2 λb H3=>
    if b=true then te σ2 H3 λy H4=>H4 D=Gc (.lst ys)/\∃m',m'<m/\W (i+1) m' σ2 (upd H4 D (.lst (ys++[y]))) (ys++[y])else∃m',m'<m/\W (i+1) m' σ2 H3 ys))
noncomputable def cW(ix:Wp (rW Nat))(wi:TI)(g:TG)(tc:TT)(te:TE):TE:=λσ H Q=>wi σ H λJ H1=>iZ ix g tc te J σ H1 Q
section
variable{X:Cx}{pins:Wp (rY×Obj)}{σ:St}{s₂:rX}{N':Wp Str}{ix:Wp (rW Nat)}{scope:uT}{elt tg iter:sW}{ifs:Wp sW}{pos:Pos}{g:TG}{tc:TT}{te:TE}
def Block(X:Cx)(N':Wp Str)(scope:uT)(tg:sW)(ifs:Wp sW)(elt:sW)(g:TG)(tc:TT)(te:TE):Prop:=
 ∀(s:rX) (H:Hp) (fp:Wp rY),PG (Hh X N' scope s H fp) tg g/\PTs (Hh X N' scope s H fp) ifs tc/\PE (Hh X N' scope s H fp) elt te
theorem TX {X' : Cx} {it : rY} {fp : Wp rY} {tn : Nat -> tT -> Prop} {J : It} {D : rY} {Q : VK} {R : Result -> rX -> Prop} {W : Nat -> Nat -> St -> Hp -> Wp V -> Prop} {s : rX} {e : Env} {n : Nat} (he : X'.env = e) (hx : X'.xe = fun _ _ => ur) (hcm : X'.calm = true) (T : Turn X'.prog X'.w X'.K tg J fp it tn) (hfp : ∀ H : Hp, (∀ b ∈ fp, H b = none) -> ∀ b ∈ fp, QE X' [] H b) (hg : PG X' tg g) (ht : PTs X' ifs tc) (hb : PE X' elt te) (turn : ∀ i m σ H ys, W i m σ H ys -> H D = Gc (.lst ys) /\ ((J.stop i H /\ Q (.ref D) H) ∨ (J.go i H /\ ys.length < sizeLine /\ ∀ x H', J.yld i H x H' -> g x σ H' fun σ2 H2 => tc σ2 H2 fun b H3 =>
        if b = true then te σ2 H3 fun y H4 => H4 D = Gc (.lst ys) /\ ∃ m', m' < m /\ W (i + 1) m' σ2 (upd H4 D (.lst (ys ++ [y]))) (ys ++ [y]) else ∃ m', m' < m /\ W (i + 1) m' σ2 H3 ys)))
    (hR : ∀ s' σ' H', Inv X' [] σ' H' s' -> Q (.ref D) H' -> R (.ok .next) s')
    (h0 : ∃ i σ' H' ys, Inv X' [] σ' H' s /\ tn i s.heap /\ (∀ b ∈ fp, H' b = none) /\ W i n σ' H' ys) :
    codeAny (model X'.prog X'.w) X'.A (.compLoop (.ListComp elt [⟨tg, iter, ifs, 0⟩] scope pos) 0 (.ref it) (.ref D) e) R s := by
  subst he
  refine codeAny_loop rfl (fun n s => ∃ i σ' H' ys, Inv X' [] σ' H' s /\ tn i s.heap /\ (∀ b ∈ fp, H' b = none) /\ W i n σ' H' ys) (fun n s3 hI => ?_) n h0
  show wpAny _ X'.A ((compTurn (.ListComp elt [⟨tg, iter, ifs, 0⟩] scope pos) 0 (.ref it) (.ref D) X'.env).onRaise (fun x => do noteFrame x X'.env; theTreesLotGoes x)) _ _ s3
  refine wpAny_noted (XR ?_)
  rw [compTurn_list]
  obtain ⟨i, σ3, H3, ys, I3, st3, fr3, w3⟩ := hI
  obtain ⟨hD, alt⟩ := turn i n σ3 H3 ys w3
  rcases alt with ⟨stop, q⟩ | ⟨go, hlen, step⟩
  · refine rT (wY (rT (thn (T.done X' rfl rfl rfl hcm i [] s3 σ3 H3 _ I3 (hfp H3 fr3) st3 stop) fun r s4 ⟨hr, I4⟩ => ?_)))
    subst hr
    exact sG (hR s4 σ3 H3 I4 q)
  · refine rT (wY (rT (thn (T.item X' rfl rfl rfl hcm i [] s3 σ3 H3 _ I3 (hfp H3 fr3) st3 go) fun r s4 ⟨u, hr, h4⟩ => ?_)))
    subst hr
    refine rT (thn h4 fun _ s5 ⟨x, H5, I5, r5, y5, st5, fr5⟩ => ?_)
    have I5' := I5.pinned (hfp H5 fr5) (T.obj _ _ st5)
    have hg' := hg _ s5 σ3 H5 x u _ I5' r5 (step x H5 y5)
    rw [hx] at hg'
    refine rT (thn hg' fun _ s6 ⟨σ6, H6, I6, q6⟩ => ?_)
    have ht' := ht _ s6 σ6 H6 _ I6 q6
    rw [hx] at ht'
    refine rT (thn ht' fun ok s7 ⟨H7, I7, q7⟩ => ?_)
    have again : ∀ {s8 : rX} {H8 : Hp} {zs : Wp V} {m' : Nat}, Inv X' ([] ++ OA fp s5.heap) σ6 H8 s8 -> m' < n -> W (i + 1) m' σ6 H8 zs -> ∃ m, m < n /\ ∃ i σ' H' ys, Inv X' [] σ' H' s8 /\ tn i s8.heap /\ (∀ b ∈ fp, H' b = none) /\ W i m σ' H' ys := fun {s8 H8 zs m'} I8 hm w8 => by
      refine ⟨m', hm, i + 1, σ6, H8, zs, I8.Kj, T.keep _ _ _ st5 fun b hb o e => (I8.pin (b, o) (tm _ (tm _ (Ht hb e)))).1, fun b hb => ?_, w8⟩
      obtain ⟨o, e, d⟩ := T.obj _ _ st5 b hb
      exact (I8.pin (b, o) (tm _ (tm _ (Ht hb e)))).2.1
    cases ok with
    | false =>
      rw [sg (by decide)] at q7
      obtain ⟨m', hm, w7⟩ := q7
      exact sG ⟨rfl, again I7 hm w7⟩
    | true =>
      rw [sZ rfl] at q7
      have hb' := hb _ s7 σ6 H7 _ I7 q7
      rw [hx] at hb'
      refine rT (rT (thn hb' fun v s8 ⟨y, H8, I8, r8, hD8, m', hm, w8⟩ => ?_))
      have ha := OH (X := X') _ s8 σ6 H8 (.ref D) [y] (.ref D) [v] (fun _ H9 => H9 = upd H8 D (.lst (ys ++ [y]))) I8 rfl (.cons r8 .nil) ⟨D, ys, y, rfl, rfl, hD8, hlen, rfl⟩
      rw [hx] at ha
      refine rT (thn ha fun _ s9 ⟨_, H9, I9, _, e9⟩ => ?_)
      subst e9
      exact sG (sG ⟨rfl, again I9 hm w8⟩)
theorem Qv(hc:X.calm=true)(S:Ab X.N X.env.scope N' ix scope)(hb:Block X N' scope tg ifs elt g tc te){it:rY}{fp:Wp rY}{tn:Nat->tT->Prop}{J:It}{H₂:Hp}{Q:VK}{E:rS->rX->Prop}{RR:rS->rY->Result->rX->Prop}(I2:Inv X pins σ H₂ s₂)(T:Turn X.prog X.w X.K tg J fp it tn)(st2:tn 0 s₂.heap)(f2:∀b∈fp,QE X pins H₂ b)(hW:iZ ix g tc te J σ H₂ Q)(hRR:∀D C H' s',Inv X pins σ H' s'->(∃m,s'.heap.Ns C m)->QE X pins H' C->Q (.ref D) H'->RR (.ref D) C (.ok .next) s'):wpAny (model X.prog X.w) X.A (newList []) (λacc s₃=>wpAny (model X.prog X.w) X.A (newFunctionEnv scope X.env.globals (FD X.env.cells scope.names []) [] X.env.qual none .none (Gc X.env)) (λcenv s₄=>
  codeAny (model X.prog X.w) X.A (.compStart (.ListComp elt [⟨tg,iter,ifs,0⟩] scope pos) 0 (.ref it) acc {cenv with scope:=relabel scope X.env}) (RR acc cenv.locals) s₄) E s₃) E s₂:=by
 have hD0:H₂ s₂.heap.objs.size=none:=I2.hok.fresh (sD _)
 have hlt2:∀b∈fp,b<s₂.heap.objs.size:=λb hb=>by
  obtain⟨o,e,_⟩:=T.obj _ _ st2 b hb
  exact sO e
 refine uN (Jz (λh₁ hns₁ hsb₁ hcl₁=>?_))
 have I3:Inv X pins σ (upd H₂ s₂.heap.objs.size (.lst [])) {s₂ with heap:=s₂.heap.push {cls:=.type "list",dict:=none,data:=.seq ([]:Wp rS).toArray}}:=
  I2.laid (t':=s₂.toks) (λb u e=>rV _ e) (sD _) ⟨vv _,[],0,.nil,sS _ rfl⟩
 have f3:∀b∈fp,QE X pins (upd H₂ s₂.heap.objs.size (.lst [])) b:=λb hb=>⟨by rw[AU (tJ (hlt2 b hb))];exact(f2 b hb).1,(f2 b hb).2⟩
 have k3:∀b o,s₂.heap.get? b=Gc o->(s₂.heap.push {cls:=.type "list",dict:=none,data:=.seq ([]:Wp rS).toArray}).get? b=Gc o:=λb o e=>rV _ e
 dsimp only at hns₁ hsb₁ hcl₁⊢
 generalize hs3:({s₂ with heap:=s₂.heap.push {cls:=.type "list",dict:=none,data:=.seq ([]:Wp rS).toArray}}:rX)=s₃ at I3
 have eh:s₂.heap.push {cls:=.type "list",dict:=none,data:=.seq ([]:Wp rS).toArray}=s₃.heap:=by rw[<-hs3]
 have et:s₂.toks=s₃.toks:=by rw[<-hs3]
 have es:∀(h:tT) (t:Nat),({s₂ with heap:=h,toks:=t}:rX)={s₃ with heap:=h,toks:=t}:=λh t=>by rw[<-hs3]
 rw[eh]at hns₁ hsb₁ hcl₁ k3⊢
 have hlt3:∀b∈fp,b<s₃.heap.objs.size:=λb hb=>by
  obtain⟨o,e,_⟩:=T.obj _ _ st2 b hb
  exact sO (k3 b o e)
 have k4:∀b o,s₃.heap.get? b=Gc o->h₁.get? b=Gc o:=hsb₁
 obtain⟨W,⟨m0,w0⟩,turn⟩:=hW _ hD0
 have I4:∀tk,Inv (Hh X N' scope s₃ (upd H₂ s₂.heap.objs.size (.lst [])) fp) [] (sig ix σ) (upd H₂ s₂.heap.objs.size (.lst [])) {s₃ with heap:=h₁,toks:=tk}:=λtk=>V5 S hc I3 f3 hlt3 hns₁ k4 hcl₁
 have st4:tn 0 h₁:=T.keep _ _ _ st2 λb hb o e=>k4 b o (k3 b o e)
 obtain⟨bg,bt,be⟩:=hb s₃ (upd H₂ s₂.heap.objs.size (.lst [])) fp
 have noX:∀(H:Hp),(∀b∈fp,H b=none)->∀b∈fp,QE (Hh X N' scope s₃ (upd H₂ s₂.heap.objs.size (.lst [])) fp) [] H b:=λH hn b hb=>by
  obtain⟨_,h2,h3⟩:=f3 b hb
  refine⟨hn b hb,tJ (hlt3 b hb),λhs=>(I4 0).ok.aV b hb hs,.inl hb,λx c h=>?_,λp hp=>absurd (show p∈([]:Wp (rY×Obj))from hp) (by simp)⟩
  exact((I4 0).ok.exf b hb).2 x c h
 have fin:∀(s':rX) (σ':St) (H':Hp),Inv (Hh X N' scope s₃ (upd H₂ s₂.heap.objs.size (.lst [])) fp) [] σ' H' s'->Q (.ref s₂.heap.objs.size) H'->RR (.ref s₂.heap.objs.size) s₃.heap.objs.size (.ok .next) s':=λs' σ' H' I' q=>by
  refine hRR _ _ H' s' ?_ (let⟨m,hn,_⟩:=I'.loc;⟨m,hn⟩) (I3.bz (sD _) I'.free) q
  exact I3.SV I'.os I'.base I'.hok I'.bare λb hb=>⟨(f3 b hb).2.2.2.1,(f3 b hb).2.1,(f3 b hb).2.2.2.2.1,(f3 b hb).2.2.2.2.2⟩
 have loop:∀tk,codeAny (model X.prog X.w) X.A (.compLoop (.ListComp elt [⟨tg,iter,ifs,0⟩] scope pos) 0 (.ref it) (.ref s₂.heap.objs.size) (compEnvC scope (cellsFrom (s₃.heap.objs.size+1) scope.names (FD X.env.cells scope.names [])) s₃.heap.objs.size X.env)) (RR (.ref s₂.heap.objs.size) s₃.heap.objs.size) {s₃ with heap:=h₁,toks:=tk}:=λtk=>
  TX (X':=Hh X N' scope s₃ (upd H₂ s₂.heap.objs.size (.lst [])) fp) (D:=s₂.heap.objs.size) (Q:=Q) (W:=W) rfl rfl rfl T noX bg bt be turn fin ⟨0,_,_,_,I4 tk,st4,λb hb=>(f3 b hb).1,w0⟩
 rw[es]
 exact codeAny_compStart_list (loop _) (T.self _ 0 _ _ _ st4 (loop _))
theorem aP{wi:TI}(hc:X.calm=true)(S:Ab X.N X.env.scope N' ix scope)(hi:PI X tg iter wi)(hb:Block X N' scope tg ifs elt g tc te)(hs:∀x,foldedSetIterable iter X.env x=pure x:=by intro _;rfl):PE X (.ListComp elt [⟨tg,iter,ifs,0⟩] scope pos) (cW ix wi g tc te):=by
 intro pins s σ H Q I h
 rw[eval_ListComp]
 refine yl (use:=none) rfl hs (NO (I.cellsOf S)) S.kind S.names (thn (hi pins s σ H _ I h) λv s1 h1=>thn h1 λitv s2 h2=>?_)
 obtain⟨it,fp,tn,J,H2,e,I2,T,st2,f2,hW⟩:=h2
 subst e
 refine Qv (RR:=λacc C=>compPost (model X.prog X.w) X.A X.xe none (EP X pins σ Q) acc C) hc S hb I2 T st2 f2 hW ?_
 intro D C H' s' I' hm hC q
 obtain⟨m,hm⟩:=hm
 refine⟨m,hm,λh' hs'=>⟨.ref D,H',I'.turned (it:=C) (t':=s'.toks) (λb o hb e=>hs'.extBut b o hb e) hC.1 hC.2.1 hC.2.2.2.1 hC.2.2.2.2.1 hC.2.2.2.2.2,rfl,q⟩⟩
end
end L2
end
noncomputable section
namespace L2
open PySem PySem.Spec PyProof.Rows
section
variable{X:Cx}{N':Wp Str}{ix:Wp (rW Nat)}{scope:uT}{elt tg iter:sW}{ifs:Wp sW}{pos spos py:Pos}{g:TG}{tc:TT}{te:TE}{wi:TI}{i:Nat}{y:Str}
theorem SD(hc:X.calm=true)(hN:X.N.Nodup)(hi':X.N[i]?=Gc y)(hx:X.env.scope.names.lookup y=Gc .local)(S:Ab X.N X.env.scope N' ix scope)(hi:PI X tg iter wi)(hb:Block X N' scope tg ifs elt g tc te)(hsw:swapsWith (.ListComp elt [⟨tg,iter,ifs,0⟩] scope pos) (Gc (.Name y py)) spos.line X.env=pure true:=by rfl)(hs:∀x,foldedSetIterable iter X.env x=pure x:=by intro _;rfl):PS X (.Assign [.Name y py] (.ListComp elt [⟨tg,iter,ifs,0⟩] scope pos) spos) (mR (cW ix wi g tc te) (Zb i)):=by
 intro pins s σ H D I h
 rw[exec_Assign_Name_used _ _ _ _ hsw]
 refine rT (wY (rT ?_))
 show wpAny _ X.A (do let _<-comprehension (.ListComp elt [⟨tg,iter,ifs,0⟩] scope pos) scope X.env _ (newList []) false (eval iter X.env) (Gc (assign (.Name y py) X.env))) _ _ s
 refine rT (ub (yl (use:=Gc (assign (.Name y py) X.env)) (Q:=λ_ s'=>SP X pins D .next s') rfl hs (NO (I.cellsOf S)) S.kind S.names
  (thn (hi pins s σ H _ I h) λv s1 h1=>thn h1 λitv s2 h2=>?_)) (λ_ s' hq=>sG (sG hq)) λ_ _ e=>e)
 obtain⟨it,fp,tn,J,H2,e,I2,T,st2,f2,hW⟩:=h2
 subst e
 refine Qv (RR:=λacc C=>compPost (model X.prog X.w) X.A X.xe (Gc (assign (.Name y py) X.env)) (λ_ s'=>SP X pins D .next s') acc C) hc S hb I2 T st2 f2 hW ?_
 intro L C H' s' I' hm hC q
 obtain⟨m,hm⟩:=hm
 show wpAny _ X.A (assign (.Name y py) X.env (.ref L)) _ _ _
 refine wpAny_assign_Name (O2 I' hN hi' (.inl hx) (v:=.ref L) rfl (λs'' I'' ⟨a,sb,ha⟩=>?_) (.inr hx))
 have hCa:C≠a:=by
  rcases ha with rfl|ha
  .exact hC.2.1
  .exact uX (hC.2.2.2.2.1 y a ha)
 refine⟨m,hm.sameBut sb hCa,λh' hs'=>?_⟩
 exact⟨_,H',I''.turned (it:=C) (t':=s''.toks) (λb o hb e=>hs'.extBut b o hb e) hC.1 hC.2.1 hC.2.2.2.1 hC.2.2.2.2.1 hC.2.2.2.2.2,q⟩
end
end L2
end
noncomputable section
namespace L2
open PySem PySem.Spec PyProof.Rows
section
variable{κ:Type} [DecidableEq κ]
noncomputable def putK(kvs:Wp (κ×V))(k:κ)(v:V):Wp (κ×V):=
 if(kvs.any λkv=>decide (kv.1=k))=true then kvs.map (λkv=>if kv.1=k then(kv.1,v)else kv)else kvs++[(k,v)]
theorem Pf(kvs:Wp (κ×V))(k:κ)(v:V):(putK kvs k v).length<=kvs.length+1:=by
 unfold putK
 split
 .rw[uJ];lia
 .rw[tV,sk,v7];lia
theorem P2.Sv{o:rW V}{u:rW rS}(r:P2 o u):o.isSome=u.isSome:=by
 cases o with
 |none=>cases u with
  |none=>rfl
  |some _=>exact(show ur from r).elim
 |some _=>cases u with
  |none=>exact(show ur from r).elim
  |some _=>rfl
theorem KV.any{kvs:Wp (κ×V)}{vs:Wp (κ×rS)}(r:KV kvs vs)(k:κ):(kvs.any λkv=>decide (kv.1=k))=vs.any λkv=>decide (kv.1=k):=by
 unfold KV at r
 induction r with
 |nil=>rfl
 |cons h t ih=>rw[vR,vR,ih,h.1]
theorem KV.dz{kvs:Wp (κ×V)}{vs:Wp (κ×rS)}(r:KV kvs vs)(k:κ){y:V}{u:rS}(ry:RelV y u):KV (kvs.map λkv=>if kv.1=k then(kv.1,y)else kv) (vs.map λkv=>if kv.1=k then(kv.1,u)else kv):=by
 unfold KV at r⊢
 induction r with
 |nil=>exact .nil
 | @cons p q ps qs h t ih=>
   rw[sV,sV]
   refine .cons ?_ ih
   obtain⟨h1,h2⟩:=h
   by_cases e:p.1=k
   .rw[sZ e,sZ (h1.symm.trans e)];exact⟨h1,ry⟩
   .rw[sg e,sg (λz=>e (h1.trans z))];exact⟨h1,h2⟩
theorem KV.put{kvs:Wp (κ×V)}{vs:Wp (κ×rS)}(r:KV kvs vs)(k:κ){y:V}{u:rS}(ry:RelV y u):KV (putK kvs k y) (stored vs k u):=by
 unfold putK stored
 rw[r.any k]
 by_cases e:(vs.any λkv=>decide (kv.1=k))=true
 .rw[sZ e,sZ e];exact r.dz k ry
 .rw[sg e,sg e];exact Paired.snoc r ⟨rfl,ry⟩
end
theorem dm{P:sf}{w:tU}{k:Key}{u:rS}(r:RelV (kV k) u):(C8 P w).is k u=true:=by
 cases k with
 |inl i=>obtain⟨t,e⟩:=(show∃t,u=yB i t from r);subst e;exact QL P w i t
 |inr x=>obtain⟨t,e⟩:=(show∃t,u=yC x t from r);subst e;exact PZ P w x t
theorem OR{P:sf}{w:tU}:∀{ks:Wp Key} {us:Wp rS},Vals (ks.map kV) us->ItemsAre (C8 P w) ks us
 | [],_,r=>by rw[vQ]at r;cases r;exact .nil
 |k::ks,_,r=>by
  rw[sV]at r
  cases r with
  |cons h t=>exact .cons (dm h) (OR t)
abbrev KT(H:Hp):Wp (Wp Key×V)->Wp (Wp Key×rY×rS)->Prop:=Paired λp q=>p.1=q.1/\H q.2.1=Gc (.tup (p.1.map kV))/\RelV p.2 q.2.2
section
variable{P:sf}{w:tU}{H:Hp}{h:tT}{a:rY}
theorem gg{u:HO}(ok:HOk P w H h)(e:Rd H a u):C0 P w H h a u:=e.ok ok
theorem l9{kvs:Wp (Key×V)}(ok:HOk P w H h)(e:Rd H a (.dK kvs)):kvs.length<=sizeLine/\(a==sysModules)=false/\∃vs,KV kvs vs/\h.DictOf (C8 P w) a vs:=
 show C0 P w H h a (.dK kvs)from gg ok e
theorem mW{kvs:Wp (Key×V)}(ok:HOk P w H h)(e:H a=Gc (.dK kvs)):kvs.length<=sizeLine/\(a==sysModules)=false/\∃vs,KV kvs vs/\h.DictOf (C8 P w) a vs:=l9 ok (.inl e)
theorem eH{ks:Wp Key}(ok:HOk P w H h)(e:H a=Gc (.tup (ks.map kV))):(tupleKind (C8 P w)).is h ks a:=by
 obtain⟨_,its,r,o,h1,h2,n,h3⟩:=(show C0 P w H h a (.tup (ks.map kV))from ok a _ e)
 exact⟨o,its.toArray,n,h1,h2,h3,by simpa using OR r⟩
theorem kx{kvs:Wp (Wp Key×V)}(ok:HOk P w H h)(e:Rd H a (.dT kvs)):kvs.length<=sizeLine/\(a==sysModules)=false/\∃xs,KT H kvs xs/\h.DictOfH (tupleKind (C8 P w)) a xs:=by
 obtain⟨z,y,xs,r,o,es,ep,h1,h2,h3,h4,h5⟩:=(show C0 P w H h a (.dT kvs)from gg ok e)
 refine⟨z,y,xs,r,o,es,ep,h1,h2,h3,h4,λx hx=>?_,h5⟩
 have all:∀{l:Wp (Wp Key×V)} {m:Wp (Wp Key×rY×rS)},KT H l m->∀x∈m,(tupleKind (C8 P w)).is h x.1 x.2.1:=by
  intro l m q
  induction q with
  |nil=>intro x hx;exact nomatch hx
  | @cons p q ps qs hq t ih=>
    intro x hx
    rcases rZ.mp hx with e|hx
    .subst e
     exact eH ok (by rw[<-hq.1];exact hq.2.1)
    .exact ih x hx
 exact all r x hx
theorem WI{kvs:Wp (Wp Key×V)}(ok:HOk P w H h)(e:H a=Gc (.dT kvs)):kvs.length<=sizeLine/\(a==sysModules)=false/\∃xs,KT H kvs xs/\h.DictOfH (tupleKind (C8 P w)) a xs:=kx ok (.inl e)
end
section
variable{X:Cx}{pins:Wp (rY×Obj)}{σ:St}{H:Hp}{s:rX}{a:rY}{y v:V}{u r:rS}{o:rW V}{A:tN}{E:rS->rX->Prop}
theorem Inv.big(I:Inv X pins σ H s):sysModules<s.heap.objs.size:=by
 have h:mainGlobals<s.heap.objs.size:=(I.mod.glob.keeps I.bk).lt
 exact xy (by decide) h
theorem ba{h':tT}{t':Nat}{ob:HO}(I:Inv X pins σ H s)(mu:Mut (H a))(hs:wM a s.heap h')(he:∃q,h'.get? a=Gc q)(new:C0 X.prog X.w (upd H a ob) h' a ob):Inv X pins σ (upd H a ob) {s with heap:=h',toks:=t'}:=
 I.write (x:=a) (e:=a) mu (.inl rfl) (λb q hb z=>(hs.2 b hb).trans z) he new
theorem eJ{P:sf}{w:tU}{H':Hp}{h':tT}{kvs:Wp (Key×V)}{vs:Wp (Key×rS)}(z:kvs.length<=sizeLine)(hd:(a==sysModules)=false)(rel:KV kvs vs)(dd:h'.DictOf (C8 P w) a vs):C0 P w H' h' a (.dK kvs):=⟨z,hd,vs,rel,dd⟩
end
section
variable{X:Cx}{pins:Wp (rY×Obj)}{σ:St}{H:Hp}{s:rX}{a:rY}{kvs:Wp (Key×V)}{k:Key}{u:rS}{A:tN}{E:rS->rX->Prop}
end
section
variable{X:Cx}{o i e value:sW}{pos pos' tpos:Pos}{td ty tv:TE}
end
theorem Wy{P:sf}{w:tU}{H:Hp}(h:tT)(hb:sysModules<h.objs.size):C0 P w H (h.push {cls:=.type "dict",data:=.dict #[]}) h.objs.size (.dK []):=
 ⟨vv _,tO.mpr (uX (tJ hb)),[],.nil,Heap.DictOf.new h⟩
section
variable{X:Cx}{pos:Pos}
end
def Qn:Wp (TE×TE)->St->Hp->(Wp (V×V)->Hp->Prop)->Prop
 | [],_,H,Q=>Q [] H
 |(tk,tv)::r,σ,H,Q=>tk σ H λx H1=>tv σ H1 λy H2=>Qn r σ H2 λps H3=>Q ((x,y)::ps) H3
abbrev VV:Wp (V×V)->Wp (rS×rS)->Prop:=Paired λp q=>RelV p.1 q.1/\RelV p.2 q.2
def PPs(X:Cx)(pos:Pos)(keys:Wp (rW sW))(values:Wp sW)(trs:Wp (TE×TE)):Prop:=
 ∀(pins:Wp (rY×Obj)) (s:rX) (σ:St) (H:Hp) (Q:Wp (V×V)->Hp->Prop),Inv X pins σ H s->Qn trs σ H Q->
  wpAny (model X.prog X.w) X.A (evalPairs (pairTrees keys values X.env pos)) (λvs s'=>∃ps H',Inv X pins σ H' s'/\VV ps vs/\Q ps H') X.xe s
theorem aB{X:Cx}{pos:Pos}:PPs X pos [] [] []:=λpins s σ H Q I h=>pairTrees_nil_walk ⟨[],H,I,.nil,h⟩
theorem W6{X:Cx}{pos:Pos}{k v:sW}{ks:Wp (rW sW)}{vs:Wp sW}{tk tv:TE}{trs:Wp (TE×TE)}(hk:PE X k tk)(hv:PE X v tv)(hr:PPs X pos ks vs trs):PPs X pos (Gc k::ks) (v::vs) ((tk,tv)::trs):=λpins s σ H Q I h=>
 pairTrees_cons_walk (thn (hk pins s σ H _ I h) λu s1 ⟨x,H1,I1,rx,q1⟩=>thn (hv pins s1 σ H1 _ I1 q1) λw2 s2 ⟨y,H2,I2,ry,q2⟩=>
  thn (hr pins s2 σ H2 _ I2 q2) λws s3 ⟨ps,H3,I3,rel,q3⟩=>⟨(x,y)::ps,H3,I3,.cons ⟨rx,ry⟩ rel,q3⟩)
noncomputable def K8(kvs more:Wp (Key×V)):Wp (Key×V):=more.foldl (λacc kv=>putK acc kv.1 kv.2) kvs
theorem KV.merge:∀{more:Wp (Key×V)} {rs:Wp (Key×rS)} {kvs:Wp (Key×V)} {vs:Wp (Key×rS)},KV more rs->KV kvs vs->KV (K8 kvs more) (merged vs rs):=by
 intro more rs kvs vs r
 unfold KV at r
 induction r generalizing kvs vs with
 |nil=>intro q;exact q
 | @cons p q ps qs h t ih=>
   intro r0
   have e:KV (putK kvs p.1 p.2) (stored vs q.1 q.2):=by
    have:=r0.put p.1 h.2
    rw[<-h.1];exact this
   exact ih e
theorem JQ:∀(more kvs:Wp (Key×V)),(K8 kvs more).length<=kvs.length+more.length
 | [],kvs=>by show kvs.length<=kvs.length+0;lia
 |p::r,kvs=>by
  have h1:=JQ r (putK kvs p.1 p.2)
  have h2:=Pf kvs p.1 p.2
  show(K8 (putK kvs p.1 p.2) r).length<=_
  rw[sk];lia
theorem MY{P:sf}{w:tU}:∀{kvs:Wp (Key×V)} {ws:Wp (rS×rS)},VV (kvs.map λkv=>(kV kv.1,kv.2)) ws->∃rs,Carries (C8 P w) ws rs/\KV kvs rs
 | [],_,r=>by rw[vQ]at r;cases r;exact⟨[],vw,.nil⟩
 |p::kvs,_,r=>by
  rw[sV]at r
  cases r with
  | @cons a b as bs h t=>
    obtain⟨rs,c,q⟩:=MY (P:=P) (w:=w) t
    obtain⟨b1,b2⟩:=b
    exact⟨(p.1,b2)::rs,⟨dm h.1,rfl,c⟩,.cons ⟨rfl,h.2⟩ q⟩
noncomputable def lN(trs:Wp (TE×TE)):TE:=λσ H Q=>∀p,H p=none->Qn trs σ (upd H p (.dK [])) λps H2=>H2 p=Gc (.dK [])/\∃kvs:Wp (Key×V),ps=kvs.map (λkv=>(kV kv.1,kv.2))/\kvs.length<=15/\Q (.ref p) (upd H2 p (.dK (K8 [] kvs)))
theorem cC{X:Cx}{pos:Pos}{keys:Wp (rW sW)}{values:Wp sW}{trs:Wp (TE×TE)}(h:PPs X pos keys values trs)(hall:keys.all (·.isSome)=true)(hl:keys.length=values.length)(h0:keys≠[])(h15:keys.length<=15):PE X (.Dict keys values pos) (lN trs):=by
 intro pins s σ H Q I q
 have hn:=I.hok.fresh (sD s.heap.objs.size)
 have I1:=I.laid (a:=s.heap.objs.size) (o:=.dK []) (h':=s.heap.push {cls:=.type "dict",data:=.dict #[]}) (t':=s.toks) (λ_ _ q=>rV _ q) (sD _) (Wy s.heap I.big)
 refine wpAny_Dict_walk (knd:=C8 X.prog X.w) hall hl h0 h15 (thn (h pins _ σ _ _ I1 (q _ hn)) λws s2 ⟨ps,H2,I2,rel,e,kvs,ep,lk,q2⟩=>?_)
 subst ep
 obtain⟨rs,c,rk⟩:=MY (P:=X.prog) (w:=X.w) rel
 obtain⟨z,hd,vs0,r0,dd⟩:=mW I2.hok e
 cases r0
 refine⟨rs,c,dd,λh' dd' hs=>⟨.ref s.heap.objs.size,_,?_,rfl,q2⟩⟩
 have hz:(K8 [] kvs).length<=sizeLine:=by
  have h1:=JQ kvs []
  rw[v7]at h1
  rw[zW];lia
 have he:∃q,h'.get? s.heap.objs.size=Gc q:=let⟨q,_,_,hq,_⟩:=dd';⟨q,hq⟩
 exact ba I2 (by rw[e];exact vw) hs he (eJ hz hd (rk.merge .nil) dd')
structure M1(X:Cx)(o:sW)(m:Str)(apos:Pos)(e:sW)(cpos:Pos):Prop where
 base:attributeBase o m X.env (eval o X.env)=eval o X.env
 few:((backTo cpos (sE [e] X.env)).all (λx=> !x.1) && (backToKw cpos (keywordEach [] X.env)).all (λx=>x.1.isSome)
  && decide (([e]:Wp sW).length+([]:Wp yb).length+(if([]:Wp yb).isEmpty then 0 else 1)<30))=true
 line:(apos.endLine==cpos.line)=true
 trees:backTo cpos (sE [e] X.env)=[(false,eval e X.env)]
structure M2(X:Cx)(o:sW)(m:Str)(apos:Pos)(e f:sW)(cpos:Pos):Prop where
 base:attributeBase o m X.env (eval o X.env)=eval o X.env
 few:((backTo cpos (sE [e,f] X.env)).all (λx=> !x.1) && (backToKw cpos (keywordEach [] X.env)).all (λx=>x.1.isSome)
  && decide (([e,f]:Wp sW).length+([]:Wp yb).length+(if([]:Wp yb).isEmpty then 0 else 1)<30))=true
 line:(apos.endLine==cpos.line)=true
 trees:backTo cpos (sE [e,f] X.env)=[(false,eval e X.env),(false,eval f X.env)]
def IsD(H:Hp)(a:rY):Prop:=(∃kvs,Rd H a (.dK kvs))\/∃kvs,Rd H a (.dT kvs)
section
variable{X:Cx}{pins:Wp (rY×Obj)}{σ:St}{H:Hp}{s:rX}{a:rY}{y d:V}{u r:rS}{o:rW V}{A:tN}{E:rS->rX->Prop}
end
section
variable{X:Cx}{o e f:sW}{apos cpos:Pos}{td ty tx:TE}
end
section
variable{X:Cx}{pins:Wp (rY×Obj)}{σ:St}{H:Hp}{s:rX}{a:rY}{kvs:Wp (Key×V)}{A:tN}{E:rS->rX->Prop}
end
section
variable{X:Cx}{pins:Wp (rY×Obj)}{σ:St}{H:Hp}{s:rX}{a:rY}{y:V}{u:rS}{A:tN}{E:rS->rX->Prop}
end
end L2
end
noncomputable section
namespace L2
open PySem PySem.Spec PyProof.Rows
section
variable{prog:sf}{w:tU}{A:tN}{E:rS->rX->Prop}{s:rX}
theorem R9{h:tT}{it t:rY}{i:Nat}{o:Obj}(ho:h.get? it=Gc o)(hc:o.cls=.type "tuple_iterator")(hd:o.data=.fields #[.ref t,.int i 0]){h':tT}(e:h'=h.update it (λo=>o.mapFields λa=>a.setIfInBounds 1 (rawInt ((i:Int)+1)))):h'.IsTupleIter it t (i+1):=by
 subst e
 have d:=vV hd λa=>a.setIfInBounds 1 (rawInt ((i:Int)+1))
 refine⟨_,u9 _ ho (vA d),?_,?_⟩
 .rw[Obj.cls_mapFields];exact hc
 .rw[d];simp[rawInt]
theorem Xe{it t:rY}{i:Nat}{items:uE rS}{x:rS}{Q:rS->rX->Prop}(hit:s.heap.IsTupleIter it t i)(ht:s.heap.IsTuple t items)(hx:items[i]?=Gc x)(hQ:∀h',h'.IsTupleIter it t (i+1)->wM it s.heap h'->Q x {s with heap:=h'}):wpAny (model prog w) A (tW (.ref it)) Q E s:=by
 obtain⟨⟨c,dd,dt,sl⟩,ho,hc,hd⟩:=id hit
 obtain⟨⟨c2,dd2,dt2,sl2⟩,ho2,hc2,n2,hd2⟩:=id ht
 simp only at hc hd hc2 hd2
 subst hc hd hc2 hd2
 unfold tW
 refine rT (uc (name:=rh "__next__") hit.typeIs vW (uv vW hit.typeIs x5 ?_ (xl _)))
 unfold x8.«tuple_iterator.__next__»
 wp_walk using se ho,se ho2
 have e:items[(i:Int).toNat]?=Gc x:=by rw[xF];exact hx
 rw[e]
 refine rT (wJ ho rfl (by simp) ?_)
 exact sG ⟨x,rfl,sG (hQ _ (R9 ho rfl rfl rfl) (zv ..))⟩
theorem Wi{it t:rY}{i:Nat}{items:uE rS}{Q:rS->rX->Prop}(hh:A.handled=none)(hit:s.heap.IsTupleIter it t i)(ht:s.heap.IsTuple t items)(hx:items[i]?=none)(hE:∀h' e,ye it s.heap h'->(∃o,h'.get? e=Gc o/\o.cls=.type "StopIteration")->E (.ref e) {s with heap:=h'}):wpAny (model prog w) A (tW (.ref it)) Q E s:=by
 obtain⟨⟨c,dd,dt,sl⟩,ho,hc,hd⟩:=id hit
 obtain⟨⟨c2,dd2,dt2,sl2⟩,ho2,hc2,n2,hd2⟩:=id ht
 simp only at hc hd hc2 hd2
 subst hc hd hc2 hd2
 unfold tW
 refine rT (uc (name:=rh "__next__") hit.typeIs vW (uv vW hit.typeIs x5 ?_ (xl _)))
 unfold x8.«tuple_iterator.__next__»
 wp_walk using se ho,se ho2
 have e:items[(i:Int).toNat]?=none:=by rw[xF];exact hx
 rw[e]
 refine rT (yz (rT (wJ ho rfl (by simp) ?_)))
 have hh1:A.in1.handled=none:=hh
 unfold Builtin.SmallTypes.stopIteration
 simp only[newExc,newTuple,raiseNew]
 wp_walk
 refine hE _ _ ?_ ⟨_,sS _ rfl,rfl⟩
 have a:=(zv (a:=it) (h:=s.heap) (f:=uZ λx=>x.setIfInBounds 0 tP)).extBut
 exact(a.push _).push _
theorem VY(l:rY)(items:uE rS)(n:Nat)(dct:rW rY)(sl:uE (rW rS)):Meets (x8.«enumerate.__new__» ⟨[.type "enumerate",.ref l],[]⟩) (λ_ R s=>s.heap.get? l=Gc {cls:=.type "tuple",dict:=dct,data:=.seq items n,slots:=sl}/\R (.ok (.ret (.ref (s.heap.objs.size+1)))) {s with heap:=(s.heap.push {cls:=.type "tuple_iterator",data:=.fields #[.ref l,.int 0 0]}).push {cls:=.type "enumerate",data:=.fields #[.none,.bool false,.ref s.heap.objs.size,rawInt 0,.none,.none]}}):=
 .of_wp λprog w A R s h=>by
  obtain⟨hp,g,d,tk,os⟩:=s
  obtain⟨hl,h⟩:=h
  have hsub:=sub_enumerate
  have hT:x9 (vh ⟨hp,g,d,tk,os⟩) l items:=⟨_,hl,rfl,n,rfl⟩
  wp_walk using se hl
  refine wpAny_stack_any λst=>sG ?_
  split
  .rename_i c _ _ _ _ _
   cases (c==yF "enumerate")<;>(wp_walk using se hl,vD hT)<;>(refine⟨_,rfl,?_⟩;rw[uU];exact h)
  .wp_walk using se hl,vD hT
   refine⟨_,rfl,?_⟩
   rw[uU]
   exact h
theorem Rt{l:rY}{items:uE rS}{Q:rS->rX->Prop}(hT:s.heap.IsTuple l items)(h:∀h',IsEnum h' (s.heap.objs.size+1) s.heap.objs.size 0 .none->h'.IsTupleIter s.heap.objs.size l 0->(∀b o,s.heap.get? b=Gc o->h'.get? b=Gc o)->Q (.ref (s.heap.objs.size+1)) {s with heap:=h'}):wpAny (model prog w) A (call (.type "enumerate") [.ref l]) Q E s:=by
 obtain⟨⟨c,dct,dt,sl⟩,hl,hc,n,hd⟩:=hT
 simp only at hc hd
 subst hc hd
 refine callType_new F.called_enumerate (by decide) (F.typeCall_enumerate_1 _) (F.newCall_enumerate_1 _) (λobj=>F.args_object_init_2 obj _) F.entry_enumerate_new (VY l items n dct sl) ⟨hl,?_⟩
 have z:=sS (s.heap.push {cls:=.type "tuple_iterator",data:=.fields #[.ref l,.int 0 0]}) (o:={cls:=.type "enumerate",data:=.fields #[.none,.bool false,.ref s.heap.objs.size,rawInt 0,.none,.none]}) rfl
 rw[uU]at z
 exact⟨⟨_,z,rfl⟩,h _ z ⟨_,rV _ (sS _ rfl),rfl,rfl⟩ λb o x=>rV _ (rV _ x)⟩
end
section
variable{X:Cx}
end
end L2
end
noncomputable section
namespace L2
open PySem PySem.Spec PyProof.Rows
section
variable{X:Cx}
def FnAt(X:Cx)(k:Nat)(f:rY)(sp:Sp):Prop:=∃fd ps,KR X.prog X.w X.K X.mg X.base CX0 k f fd ps sp/\uL X.K (.ref f)=true/\Binds X.K fd ps []
noncomputable def eN(X:Cx)(k i:Nat)(t:TA):TE:=λσ H Q=>∃f sp,σ[i]?=Gc (Gc (.ref f))/\FnAt X k f sp/\t σ H λvs H1=>sp (vs++[]) H1 Q E0
theorem WZ{k i:Nat}{x:Str}{e:sW}{es:Wp sW}{t:TA}{p pos:Pos}(hN:X.N[i]?=Gc x)(hv:Vis X.env.scope x)(hr:CZ k X.A)(ha:PA X (e::es) t)(hd:(x==("__debug__":Str))=false:=by decide)(hcd:(x==("__classdict__":Str))=false:=by decide)(he:sE (e::es) X.env=(false,eval e X.env)::sE es X.env:=by rfl)(hpl:(backTo pos (sE es X.env)).any (·.1)=false:=by rfl):PE X (.Call (.Name x p) (e::es) [] pos) (eN X k i t):=by
 intro pins s σ H Q I h
 obtain⟨f,sp,el,⟨fd,ps,F,hk,hb⟩,h⟩:=h
 refine uR (thn (PF hN hv hd hcd pins s σ H (λv H1=>v=.ref f/\H1=H) I ⟨_,el,rfl,rfl⟩) λu s1 ⟨v,H1,I1,r,ev,eh⟩=>?_)
 subst ev eh
 obtain rfl:u=si f:=r
 refine uq (h₀:=X.base) I.ok.mod.kin hk (thn (ha pos pins s1 σ H1 _ I1 h) λus s2 ⟨vs,H2,I2,r2,q⟩=>⟨I2.kIn,?_⟩) he hpl
 exact Ql F hr hb .nil TU I2 r2 q
end
end L2
end
noncomputable section
namespace L2
open PySem PySem.Spec PyProof.Rows
structure TopD(K:W1)(w:tU)(a:rY)(kvs:Wp (Str×V)):Prop where
 ex:∃(es:uE vM) (n:Nat),K.lookup a=Gc ⟨.type "dict",none,.dict es n, #[]⟩/\xn w.params es.toList/\(a==sysModules)=false/\∀x,P2 (kvs.lookup x) (findBy vj es x)
section
variable{X:Cx}
noncomputable def gZ(K:W1)(w:tU):R2:=λx y H Q=>∃a kvs k v,x=.ref a/\y=.str k/\TopD K w a kvs/\kvs.lookup k=Gc v/\Q v H
theorem Yf:IxR X (gZ X.K X.w):=by
 intro value slice pins s σ H x y v u Q I rx ry h hs
 obtain⟨a,kvs,k,z,rfl,rfl,⟨es,n,hl,hk,hne,hr⟩,e,q⟩:=h
 cases rx
 obtain⟨t,rfl⟩:=ry
 have hm:=PySem.W.mapOf_K (prog:=X.prog) I.kIn hl hk
 have r:=hr k
 rw[e]at r
 cases f:findBy vj es k with
 |none=>rw[f]at r;exact r.elim
 |some u=>
  rw[f]at r
  exact AAO hm.typeIs slot_dict_getitem.lookup (wpAny_getItem_of (strKind_is X.prog X.w k t) hm f ⟨z,H,I.tok _,r,q⟩) hs
noncomputable def ZD(K:W1)(w:tU)(neg:sx):R2:=λx y H Q=>∃a kvs k,y=.ref a/\x=.str k/\TopD K w a kvs/\Q (.bl (if neg then !(kvs.lookup k).isSome else(kvs.lookup k).isSome)) H
theorem OW:OpR X (compareOp .NotIn) (ZD X.K X.w true):=by
 intro pins s σ H x y v u Q I rx ry h
 obtain⟨a,kvs,k,rfl,rfl,⟨es,n,hl,hk,hne,hr⟩,q⟩:=h
 cases ry
 obtain⟨t,rfl⟩:=rx
 refine wpAny_notIn_of (strKind_is X.prog X.w k t) hne (PySem.W.mapOf_K (prog:=X.prog) I.kIn hl hk) ⟨.bl _,H,I.tok _,?_,q⟩
 show _=_
 have r:(kvs.lookup k).isSome=(findBy vj es k).isSome:=(hr k).Sv
 rw[<-r]
 rfl
end
theorem P1{kvs:Wp (Str×V)}{es:Wp vM}(p:Paired (λ(p:Str×V) (e:vM)=>(∃t,e.key=.str p.1 t)/\RelV p.2 e.val) kvs es)(x:Str):P2 (kvs.lookup x) (findBy vj es.toArray x):=by
 unfold findBy
 rw[List.find?_toArray]
 induction p with
 |nil=>trivial
 | @cons q e r t h _ ih=>
   obtain⟨⟨tk,hk⟩,hv⟩:=h
   obtain⟨k,v⟩:=q
   rw[List.find?_cons,hk]
   show P2 (match x==k with|true=>Gc v|false=>uu x r) _
   by_cases z:x=k
   .subst z
    have e1:(x==x)=true:=yw x
    have e2:vj x (.str x tk)=true:=yw x
    rw[e1,e2]
    exact hv
   .have e1:(x==k)=false:=tO.mpr z
    have e2:vj x (.str k tk)=false:=tO.mpr (uX z)
    rw[e1,e2]
    exact ih
theorem Ym{K:W1}{w:tU}{a:rY}{n:Nat}{es:Wp vM}{kvs:Wp (Str×V)}(l:K.lookup a=Gc ⟨.type "dict",none,.dict es.toArray n, #[]⟩)(hk:xn w.params es)(hne:(a==sysModules)=false)(hp:Paired (λ(p:Str×V) (e:vM)=>(∃t,e.key=.str p.1 t)/\RelV p.2 e.val) kvs es):TopD K w a kvs:=⟨_,n,l,hk,hne,P1 hp⟩
end L2
end
noncomputable section
namespace L2
open PySem PySem.Spec PyProof.Rows
def SIt(h:tT)(j l:rY)(i:Nat)(its:uE rS):Prop:=(h.IsListIter j l i/\h.IsList l its)\/(h.IsTupleIter j l i/\h.IsTuple l its)
section
variable{prog:sf}{w:tU}{A:tN}{E:rS->rX->Prop}{s:rX}{h h':tT}{j l:rY}{i:Nat}{its:uE rS}
theorem SIt.at(q:SIt h j l i its)(k1:∀o,h.get? j=Gc o->h'.get? j=Gc o)(k2:∀o,h.get? l=Gc o->h'.get? l=Gc o):SIt h' j l i its:=by
 rcases q with⟨a,b⟩|⟨a,b⟩
 .exact .inl ⟨a.at k1,b.at k2⟩
 .exact .inr ⟨a.at k1,let⟨o,e,r⟩:=b;⟨o,k2 o e,r⟩⟩
theorem SIt.but{c:rY}(q:SIt h j l i its)(sb:ye c h h')(n1:j≠c)(n2:l≠c):SIt h' j l i its:=q.at (λo e=>sb _ o n1 e) λo e=>sb _ o n2 e
theorem SIt.live(q:SIt h j l i its):∃o,h.get? j=Gc o/\∀v,o.data≠.cell v:=by
 rcases q with⟨⟨o,a,b,c⟩,_⟩|⟨⟨o,a,b,c⟩,_⟩
 .exact⟨o,a,λv z=>by rw[c]at z;cases z⟩
 .exact⟨o,a,λv z=>by rw[c]at z;cases z⟩
theorem SIt.ne(q:SIt h j l i its):l≠j:=by
 rcases q with⟨⟨o,a,b,_⟩,⟨o2,a2,b2,_⟩⟩|⟨⟨o,a,b,_⟩,⟨o2,a2,b2,_⟩⟩
 .intro z;subst z;rw[a]at a2;cases a2;rw[b]at b2;injection b2 with q;exact absurd q (by decide)
 .intro z;subst z;rw[a]at a2;cases a2;rw[b]at b2;injection b2 with q;exact absurd q (by decide)
theorem Ks{x:rS}{Q:rS->rX->Prop}(q:SIt s.heap j l i its)(hx:its[i]?=Gc x)(k:∀h',SIt h' j l (i+1) its->wM j s.heap h'->Q x {s with heap:=h'}):wpAny (model prog w) A (tW (.ref j)) Q E s:=by
 have n:=q.ne
 rcases q with⟨a,b⟩|⟨a,b⟩
 .exact wpAny_nextOf_list_item a b hx λh' a' sb=>k h' (.inl ⟨a',b.extBut sb.extBut n⟩) sb
 .exact Xe a b hx λh' a' sb=>k h' (.inr ⟨a',let⟨o,e,r⟩:=b;⟨o,sb.extBut _ o n e,r⟩⟩) sb
theorem Km{Q:rS->rX->Prop}(hh:A.handled=none)(q:SIt s.heap j l i its)(hx:its[i]?=none)(k:∀h' e,ye j s.heap h'->(∃o,h'.get? e=Gc o/\o.cls=.type "StopIteration")->E (.ref e) {s with heap:=h'}):wpAny (model prog w) A (tW (.ref j)) Q E s:=by
 rcases q with⟨a,b⟩|⟨a,b⟩
 .exact wpAny_nextOf_list_end hh a b hx k
 .exact Wi hh a b hx k
theorem VJ{z ti tt j1 j2 l1 l2:rY}{m:Nat}{xs ys:uE rS}{x y u1 u2:rS}{Q:rS->rX->Prop}(D:ZipApart z ti tt j1 j2 l1 l2)(oz:yR s.heap z ti tt .none)(oi:vn s.heap ti (.ref j1) (.ref j2))(ot:vn s.heap tt u1 u2)(q1:SIt s.heap j1 l1 m xs)(q2:SIt s.heap j2 l2 m ys)(ex:xs[m]?=Gc x)(ey:ys[m]?=Gc y)(k:∀h',yR h' z ti tt (rawInt s.heap.objs.size)->vn h' tt x y->SIt h' j1 l1 (m+1) xs->SIt h' j2 l2 (m+1) ys->vn h' s.heap.objs.size x y->(∀c o,c≠z->c≠tt->c≠j1->c≠j2->s.heap.get? c=Gc o->h'.get? c=Gc o)->Q (.ref s.heap.objs.size) {s with heap:=h'}):wpAny (model prog w) A (x8.«zip.__next__» ⟨[.ref z],[]⟩) (λfin s'=>∃v,fin=.done (.ret v)/\Q v s') E s:=by
 show wpAny _ _ (field (.ref z) 2 >>= _) _ _ _
 refine rT (uP oz rfl (x:=.bool false) rfl ?_)
 show wpAny _ _ (field (.ref z) 3 >>= _) _ _ _
 refine rT (uP oz rfl (x:=.ref ti) rfl (rT (wK oi rfl ?_)))
 show wpAny _ _ (um (.ref z) >>= _) _ _ _
 refine rT ?_
 unfold um
 refine rT (uP oz rfl (x:=.none) rfl (sG ?_))
 simp only[xZ]
 refine rT (yz (rT (uP oz rfl (x:=.ref tt) rfl (rT (vX oz (by simp) λg1 oz1 b1=>?_)))))
 have oz1:yR g1 z ti tt .ellipsis:=oz1
 refine rT ?_
 simp only[List.zipIdx_cons,List.zipIdx_nil,zI,zc]
 refine rT (rT (ym ?_))
 show wpAny _ _ (tW (.ref j1) >>= _) _ _ _
 refine rT (Ks (q1.but b1.extBut D.i1z D.l1z) ex λg2 q12 b2=>sG ?_)
 have ot2:vn g2 tt u1 u2:=b2.extBut _ _ D.TOi1 (b1.extBut _ _ D.TOz ot)
 refine rT (wK ot2 rfl (rT (xh ot2 λg3 ot3 b3=>?_)))
 have ot3:vn g3 tt x u2:=ot3
 refine rT (wpAny_letGo (sG (rT (rT (ym ?_)))))
 show wpAny _ _ (tW (.ref j2) >>= _) _ _ _
 refine rT (Ks (((q2.but b1.extBut D.i2z D.l2z).but b2.extBut D.i12.symm D.l2i1).but b3.extBut D.TOi2.symm D.l2TO) ey λg4 q24 b4=>sG ?_)
 have ot4:vn g4 tt x u2:=b4.extBut _ _ D.TOi2 ot3
 refine rT (wK ot4 rfl (rT (xh ot4 λg5 ot5 b5=>?_)))
 have ot5:vn g5 tt x y:=ot5
 refine rT (wpAny_letGo (sG (sG (rT (wK ot5 rfl (rT (wpAny_newTuple ?_)))))))
 have sz:g5.objs.size=s.heap.objs.size:=by rw[b5.1,b4.1,b3.1,b2.1,b1.1]
 have oz5:yR g5 z ti tt .ellipsis:=b5.extBut _ _ D.TOz.symm (b4.extBut _ _ D.i2z.symm (b3.extBut _ _ D.TOz.symm (b2.extBut _ _ D.i1z.symm oz1)))
 have k5:∀c o,c≠z->c≠tt->c≠j1->c≠j2->s.heap.get? c=Gc o->g5.get? c=Gc o:=λc o c1 c2 c3 c4 e=>b5.extBut _ _ c2 (b4.extBut _ _ c4 (b3.extBut _ _ c2 (b2.extBut _ _ c3 (b1.extBut _ _ c1 e))))
 have q15:SIt g5 j1 l1 (m+1) xs:=((q12.but b3.extBut D.TOi1.symm D.l1TO).but b4.extBut D.i12 D.l1i2).but b5.extBut D.TOi1.symm D.l1TO
 have q25:SIt g5 j2 l2 (m+1) ys:=q24.but b5.extBut D.TOi2.symm D.l2TO
 have zlt:z<g5.objs.size:=sO oz5
 show wpAny _ _ (wX (.ref z) (.ref g5.objs.size) >>= _) _ _ _
 refine rT ?_
 unfold wX
 have oz6:yR (g5.push {cls:=.type "tuple",data:=.seq #[x,y]}) z ti tt .ellipsis:=rV _ oz5
 refine rT (vX oz6 (by simp) λg7 oz7 b7=>?_)
 have oz7:yR g7 z ti tt (rawInt g5.objs.size):=oz7
 refine vX oz7 (by simp) λg8 oz8 b8=>?_
 have oz8:yR g8 z ti tt (rawInt g5.objs.size):=oz8
 have up:∀c o,c≠z->g5.get? c=Gc o->g8.get? c=Gc o:=λc o c1 e=>b8.extBut _ _ c1 (b7.extBut _ _ c1 (rV _ e))
 have op8:vn g8 g5.objs.size x y:=b8.extBut _ _ (xv zlt) (b7.extBut _ _ (xv zlt) (sS _ rfl))
 rw[sz]at oz8 op8
 refine sG ⟨_,rfl,?_⟩
 show Q (.ref g5.objs.size) _
 rw[sz]
 exact k g8 oz8 (up _ _ D.TOz ot5) (q15.at (λo e=>up _ o D.i1z e) λo e=>up _ o D.l1z e) (q25.at (λo e=>up _ o D.i2z e) λo e=>up _ o D.l2z e) op8 λc o c1 c2 c3 c4 e=>up c o c1 (k5 c o c1 c2 c3 c4 e)
theorem WX{z ti tt j1 j2 l1 l2:rY}{m:Nat}{xs ys:uE rS}{u1 u2:rS}{Q:Fin->rX->Prop}(hh:A.handled=none)(D:ZipApart z ti tt j1 j2 l1 l2)(oz:yR s.heap z ti tt .none)(oi:vn s.heap ti (.ref j1) (.ref j2))(ot:vn s.heap tt u1 u2)(q1:SIt s.heap j1 l1 m xs)(q2:SIt s.heap j2 l2 m ys)(en:xs[m]?=none\/ys[m]?=none)(k:∀h' e,(∀c o,c≠z->c≠tt->c≠j1->c≠j2->s.heap.get? c=Gc o->h'.get? c=Gc o)->(∃o,h'.get? e=Gc o/\o.cls=.type "StopIteration")->E (.ref e) {s with heap:=h'}):wpAny (model prog w) A (x8.«zip.__next__» ⟨[.ref z],[]⟩) Q E s:=by
 show wpAny _ _ (field (.ref z) 2 >>= _) _ _ _
 refine rT (uP oz rfl (x:=.bool false) rfl ?_)
 show wpAny _ _ (field (.ref z) 3 >>= _) _ _ _
 refine rT (uP oz rfl (x:=.ref ti) rfl (rT (wK oi rfl ?_)))
 show wpAny _ _ (um (.ref z) >>= _) _ _ _
 refine rT ?_
 unfold um
 refine rT (uP oz rfl (x:=.none) rfl (sG ?_))
 simp only[xZ]
 refine rT (yz (rT (uP oz rfl (x:=.ref tt) rfl (rT (vX oz (by simp) λg1 oz1 b1=>?_)))))
 have oz1:yR g1 z ti tt .ellipsis:=oz1
 refine rT ?_
 simp only[List.zipIdx_cons,List.zipIdx_nil,zI,zc]
 refine rT (rT (ym ?_))
 show wpAny _ _ (tW (.ref j1) >>= _) _ _ _
 cases ex:xs[m]? with
 |none=>
  refine rT (Km hh (q1.but b1.extBut D.i1z D.l1z) ex λg2 e b2 he=>?_)
  obtain⟨oe,e1,e2⟩:=he
  have oz2:yR g2 z ti tt .ellipsis:=b2 _ _ D.i1z.symm oz1
  have nez:e≠z:=λx=>by subst x;rw[oz2]at e1;cases e1;simp at e2
  exact vX oz2 (by simp) λg3 _ b3=>k g3 e (λc o c1 _ c3 _ x=>b3.extBut _ _ c1 (b2 _ _ c3 (b1.extBut _ _ c1 x))) ⟨oe,b3.extBut _ _ nez e1,e2⟩
 |some x=>
  have ey:ys[m]?=none:=by
   rcases en with z|z
   .rw[ex]at z;cases z
   .exact z
  refine rT (Ks (q1.but b1.extBut D.i1z D.l1z) ex λg2 q12 b2=>sG ?_)
  have ot2:vn g2 tt u1 u2:=b2.extBut _ _ D.TOi1 (b1.extBut _ _ D.TOz ot)
  refine rT (wK ot2 rfl (rT (xh ot2 λg3 ot3 b3=>?_)))
  refine rT (wpAny_letGo (sG (rT (rT (ym ?_)))))
  show wpAny _ _ (tW (.ref j2) >>= _) _ _ _
  refine rT (Km hh (((q2.but b1.extBut D.i2z D.l2z).but b2.extBut D.i12.symm D.l2i1).but b3.extBut D.TOi2.symm D.l2TO) ey λg4 e b4 he=>?_)
  obtain⟨oe,e1,e2⟩:=he
  have oz4:yR g4 z ti tt .ellipsis:=b4 _ _ D.i2z.symm (b3.extBut _ _ D.TOz.symm (b2.extBut _ _ D.i1z.symm oz1))
  have nez:e≠z:=λx=>by subst x;rw[oz4]at e1;cases e1;simp at e2
  exact vX oz4 (by simp) λg5 _ b5=>k g5 e (λc o c1 c2 c3 c4 x=>b5.extBut _ _ c1 (b4 _ _ c4 (b3.extBut _ _ c2 (b2.extBut _ _ c3 (b1.extBut _ _ c1 x))))) ⟨oe,b5.extBut _ _ nez e1,e2⟩
theorem Rn{z ti tt j1 j2 l1 l2:rY}{m:Nat}{xs ys:uE rS}{x y u1 u2:rS}{Q:rW rS->rX->Prop}(D:ZipApart z ti tt j1 j2 l1 l2)(oz:yR s.heap z ti tt .none)(oi:vn s.heap ti (.ref j1) (.ref j2))(ot:vn s.heap tt u1 u2)(q1:SIt s.heap j1 l1 m xs)(q2:SIt s.heap j2 l2 m ys)(ex:xs[m]?=Gc x)(ey:ys[m]?=Gc y)(k:∀h',yR h' z ti tt (rawInt s.heap.objs.size)->vn h' tt x y->SIt h' j1 l1 (m+1) xs->SIt h' j2 l2 (m+1) ys->vn h' s.heap.objs.size x y->(∀c o,c≠z->c≠tt->c≠j1->c≠j2->s.heap.get? c=Gc o->h'.get? c=Gc o)->Q (Gc (.ref s.heap.objs.size)) {s with heap:=h'}):wpAny (model prog w) A (pyNext (.ref z)) Q E s:=by
 have ht:s.TypeIs (.ref z) "zip":=⟨_,oz,rfl⟩
 unfold pyNext
 exact rT (wpAny_attempt (uc (name:=rh "__next__") ht xo (uv xo ht F.entry_zip_next
  (VJ D oz oi ot q1 q2 ex ey λh' a1 a2 a3 a4 a5 a6=>sG (k h' a1 a2 a3 a4 a5 a6)) (F.args_zip_next_1 _))))
theorem TJ{z ti tt j1 j2 l1 l2:rY}{m:Nat}{xs ys:uE rS}{u1 u2:rS}{Q:rW rS->rX->Prop}(hh:A.handled=none)(D:ZipApart z ti tt j1 j2 l1 l2)(oz:yR s.heap z ti tt .none)(oi:vn s.heap ti (.ref j1) (.ref j2))(ot:vn s.heap tt u1 u2)(q1:SIt s.heap j1 l1 m xs)(q2:SIt s.heap j2 l2 m ys)(en:xs[m]?=none\/ys[m]?=none)(k:∀h',(∀c o,c≠z->c≠tt->c≠j1->c≠j2->s.heap.get? c=Gc o->h'.get? c=Gc o)->Q none {s with heap:=h'}):wpAny (model prog w) A (pyNext (.ref z)) Q E s:=by
 have ht:s.TypeIs (.ref z) "zip":=⟨_,oz,rfl⟩
 unfold pyNext
 refine rT (wpAny_attempt (uc (name:=rh "__next__") ht xo (uv xo ht F.entry_zip_next
  (WX hh D oz oi ot q1 q2 en λh' e kp he=>?_) (F.args_zip_next_1 _))))
 obtain⟨o,e1,e2⟩:=he
 exact rT (wpAny_isInstance (T:="StopIteration") (b:=true) ⟨o,e1,e2⟩ isSubtype_stop (sG (k _ kp)))
end
end L2
end
noncomputable section
namespace L2
open PySem PySem.Spec PyProof.Rows
def L3(h:tT)(b:sx)(l:rY)(its:uE rS):Prop:=match b with|true=>h.IsTuple l its|false=>h.IsList l its
noncomputable def eM:sx->vB|true=>"tuple_iterator" |false=>"list_iterator"
noncomputable def zh1(h:tT)(b:sx)(l:rY):tT:=h.push {cls:=.type (eM b),data:=.fields #[.ref l,.int 0 0]}
noncomputable def zh2(h:tT)(b c:sx)(l m:rY):tT:=zh1 (zh1 h b l) c m
noncomputable def zh3(h:tT)(b c:sx)(l m:rY):tT:=(zh2 h b c l m).push {cls:=.type "tuple",data:=.seq #[.ref h.objs.size,.ref (zh1 h b l).objs.size]}
noncomputable def zh4(h:tT)(b c:sx)(l m:rY):tT:=(zh3 h b c l m).push {cls:=.type "tuple",data:=.seq #[.none,.none]}
noncomputable def zh5(h:tT)(b c:sx)(l m:rY):tT:=(zh4 h b c l m).push {cls:=.type "zip",data:=.fields #[.none,.bool false,.bool false,.ref (zh2 h b c l m).objs.size,.ref (zh3 h b c l m).objs.size]}
theorem L3.push{h:tT}{b:sx}{l:rY}{its:uE rS}(q:L3 h b l its)(o:Obj):L3 (h.push o) b l its:=by
 cases b
 .exact Heap.IsList.push q _
 .obtain⟨u,e,r⟩:=(show h.IsTuple l its from q)
  exact⟨u,rV _ e,r⟩
theorem WB(b c:sx)(l m:rY)(xs ys:uE rS):Meets (x8.«zip.__new__» ⟨[.type "zip",.ref l,.ref m],[]⟩) (λ_ R s=>L3 s.heap b l xs/\L3 s.heap c m ys/\R (.ok (.ret (.ref (zh4 s.heap b c l m).objs.size))) {s with heap:=zh5 s.heap b c l m}):=
 .of_wp λprog w A R s hyp=>by
  obtain⟨hp,gs,dr,tk,os⟩:=s
  obtain⟨i1,i2,hyp⟩:=hyp
  have hsub:=sub_zip
  have i3:L3 (vh ⟨zh1 hp b l,gs,dr,tk,os⟩) c m ys:=L3.push i2 _
  cases b<;>cases c
  .have a1:zd (vh ⟨hp,gs,dr,tk,os⟩) l xs:=i1
   have a2:zd (vh ⟨hp.push {cls:=.type "list_iterator",data:=.fields #[.ref l,.int 0 0]},gs,dr,tk,os⟩) m ys:=i3
   wp_walk using u4 a1,u4 a2
   exact⟨_,rfl,hyp⟩
  .have a1:zd (vh ⟨hp,gs,dr,tk,os⟩) l xs:=i1
   have a2:x9 (vh ⟨hp.push {cls:=.type "list_iterator",data:=.fields #[.ref l,.int 0 0]},gs,dr,tk,os⟩) m ys:=i3
   wp_walk using u4 a1,vD a2
   exact⟨_,rfl,hyp⟩
  .have a1:x9 (vh ⟨hp,gs,dr,tk,os⟩) l xs:=i1
   have a2:zd (vh ⟨hp.push {cls:=.type "tuple_iterator",data:=.fields #[.ref l,.int 0 0]},gs,dr,tk,os⟩) m ys:=i3
   wp_walk using vD a1,u4 a2
   exact⟨_,rfl,hyp⟩
  .have a1:x9 (vh ⟨hp,gs,dr,tk,os⟩) l xs:=i1
   have a2:x9 (vh ⟨hp.push {cls:=.type "tuple_iterator",data:=.fields #[.ref l,.int 0 0]},gs,dr,tk,os⟩) m ys:=i3
   wp_walk using vD a1,vD a2
   exact⟨_,rfl,hyp⟩
section
variable{prog:sf}{w:tU}{A:tN}{E:rS->rX->Prop}{s:rX}
theorem Yj{h h':tT}{b:sx}{l j:rY}{its:uE rS}(q:L3 h b l its)(k:∀c o,h.get? c=Gc o->h'.get? c=Gc o)(e:h'.get? j=Gc {cls:=.type (eM b),data:=.fields #[.ref l,.int 0 0]}):SIt h' j l 0 its:=by
 cases b
 .exact .inl ⟨⟨_,e,rfl,rfl⟩,(show h.IsList l its from q).at λo z=>k _ o z⟩
 .exact .inr ⟨⟨_,e,rfl,rfl⟩,let⟨o,z,r⟩:=(show h.IsTuple l its from q);⟨o,k _ o z,r⟩⟩
theorem T7{b c:sx}{l m:rY}{xs ys:uE rS}{Q:rS->rX->Prop}(i1:L3 s.heap b l xs)(i2:L3 s.heap c m ys)(k:∀h',yR h' (s.heap.objs.size+4) (s.heap.objs.size+2) (s.heap.objs.size+3) .none->vn h' (s.heap.objs.size+2) (.ref s.heap.objs.size) (.ref (s.heap.objs.size+1))->vn h' (s.heap.objs.size+3) .none .none->SIt h' s.heap.objs.size l 0 xs->SIt h' (s.heap.objs.size+1) m 0 ys->(∀c o,s.heap.get? c=Gc o->h'.get? c=Gc o)->Q (.ref (s.heap.objs.size+4)) {s with heap:=h'}):wpAny (model prog w) A (call (.type "zip") [.ref l,.ref m]) Q E s:=by
 refine callType_new F.called_zip (by decide) (F.typeCall_zip_2 _ _) (F.newCall_zip_2 _ _) (λobj=>F.args_object_init_3 obj _ _) F.entry_zip_new (WB b c l m xs ys) ⟨i1,i2,?_⟩
 have z1:(zh1 s.heap b l).objs.size=s.heap.objs.size+1:=uU ..
 have z2:(zh2 s.heap b c l m).objs.size=s.heap.objs.size+2:=by unfold zh2 zh1;rw[uU];exact congrArg (· +1) z1
 have z3:(zh3 s.heap b c l m).objs.size=s.heap.objs.size+3:=by unfold zh3;rw[uU,z2]
 have z4:(zh4 s.heap b c l m).objs.size=s.heap.objs.size+4:=by unfold zh4;rw[uU,z3]
 have kp:∀d o,s.heap.get? d=Gc o->(zh5 s.heap b c l m).get? d=Gc o:=λd o e=>by
  unfold zh5 zh4 zh3 zh2 zh1
  exact rV _ (rV _ (rV _ (rV _ (rV _ e))))
 have g5:(zh5 s.heap b c l m).get? (zh4 s.heap b c l m).objs.size=Gc _:=sS _ rfl
 have g4:(zh5 s.heap b c l m).get? (zh3 s.heap b c l m).objs.size=Gc _:=rV _ (sS _ rfl)
 have g3:(zh5 s.heap b c l m).get? (zh2 s.heap b c l m).objs.size=Gc _:=rV _ (rV _ (sS _ rfl))
 have g2:(zh5 s.heap b c l m).get? (zh1 s.heap b l).objs.size=Gc _:=rV _ (rV _ (rV _ (sS _ rfl)))
 have g1:(zh5 s.heap b c l m).get? s.heap.objs.size=Gc _:=rV _ (rV _ (rV _ (rV _ (sS _ rfl))))
 show _/\_
 rw[z2,z3,z4]at g5
 rw[z1,z2]at g3
 rw[z3]at g4
 rw[z1]at g2
 rw[z4]
 exact⟨⟨_,g5,rfl⟩,k _ g5 g3 g4 (Yj i1 kp g1) (Yj i2 kp g2) kp⟩
end
end L2
end
noncomputable section
namespace L2
open PySem PySem.Spec PyProof.Rows
def SqB(K:W1)(H:Hp)(k:sx)(a:rY)(xs:Wp V):Prop:=match k with|true=>SqT K H a xs|false=>SqL K H a xs
def JIt(h:tT)(k:sx)(j l:rY)(i:Nat):Prop:=match k with|true=>h.IsTupleIter j l i|false=>h.IsListIter j l i
theorem JIt.at{h h':tT}{k:sx}{j l:rY}{i:Nat}(q:JIt h k j l i)(e:∀o,h.get? j=Gc o->h'.get? j=Gc o):JIt h' k j l i:=by
 cases k
 .exact Heap.IsListIter.at q e
 .exact Heap.IsTupleIter.at q e
theorem JIt.sit{h:tT}{k:sx}{j l:rY}{i:Nat}{its:uE rS}(q:JIt h k j l i)(p:L3 h k l its):SIt h j l i its:=by
 cases k
 .exact .inl ⟨q,p⟩
 .exact .inr ⟨q,p⟩
theorem SIt.jit{h:tT}{k:sx}{j l:rY}{i:Nat}{its:uE rS}(q:SIt h j l i its)(p:L3 h k l its):JIt h k j l i:=by
 rcases q with⟨q,r⟩|⟨q,r⟩
 .cases k
  .exact q
  .obtain⟨o,e,c,_⟩:=r;obtain⟨o',e',c',_⟩:=(show h.IsTuple l its from p)
   rw[e]at e';cases e';rw[c]at c';injection c' with z;exact absurd z (by decide)
 .cases k
  .obtain⟨o,e,c,_⟩:=r;obtain⟨o',e',c',_⟩:=(show h.IsList l its from p)
   rw[e]at e';cases e';rw[c]at c';injection c' with z;exact absurd z (by decide)
  .exact q
theorem Inv.sqB{X:Cx}{pins:Wp (rY×Obj)}{σ:St}{H:Hp}{s:rX}{k:sx}{a:rY}{xs:Wp V}(I:Inv X pins σ H s)(h:SqB X.K H k a xs):∃its:Wp rS,Vals xs its/\L3 s.heap k a its.toArray:=by
 cases k
 .obtain⟨its,h1,⟨o,n,q1,q2,_,q3⟩,h3⟩:=I.list h
  exact⟨its,h1,o,q1,q2,n,q3⟩
 .obtain⟨its,h1,h2,h3⟩:=I.tuple h
  exact⟨its,h1,h2⟩
theorem Inv.Pj{X:Cx}{pins:Wp (rY×Obj)}{σ:St}{H:Hp}{s:rX}{k:sx}{a:rY}{xs ys:Wp V}(I:Inv X pins σ H s)(h:SqB X.K H k a xs)(g:SqB X.K H k a ys):xs=ys:=by
 cases k
 .exact I.Q8 h g
 .exact I.ON h g
noncomputable def Itz(K:W1)(k:sx)(a:rY)(m:sx)(b:rY):It:=
 ⟨λi H=>∃(xs ys:Wp V) (x y:V),SqB K H k a xs/\SqB K H m b ys/\xs[i]?=Gc x/\ys[i]?=Gc y,
  λi H v H'=>∃(p:rY) (x y:V),H p=none/\v=.ref p/\(∀xs,SqB K H k a xs->xs[i]?=Gc x)/\(∀ys,SqB K H m b ys->ys[i]?=Gc y)/\H'=upd H p (.tup [x,y]),
  λi H=>∃(xs ys:Wp V),SqB K H k a xs/\SqB K H m b ys/\(xs.length<=i\/ys.length<=i)⟩
structure ZSt(h:tT)(z ti tt j1 j2:rY)(k:sx)(a:rY)(m:sx)(b:rY)(i:Nat):Prop where
 oz:yR h z ti tt .none
 oi:vn h ti (.ref j1) (.ref j2)
 ot:∃u v,vn h tt u v
 q1:JIt h k j1 a i
 q2:JIt h m j2 b i
structure ZNe(z ti tt j1 j2:rY):Prop where
 n1:ti≠z
 n2:tt≠z
 n3:j1≠z
 n4:j2≠z
 n5:ti≠tt
 n6:ti≠j1
 n7:ti≠j2
 n8:tt≠j1
 n9:tt≠j2
 n10:j1≠j2
theorem ZNe.apart{z ti tt j1 j2 a b:rY}(N:ZNe z ti tt j1 j2)(ha:a∉ [z,tt,j1,j2])(hb:b∉ [z,tt,j1,j2]):ZipApart z ti tt j1 j2 a b:=by
 simp only[rZ,sC,tF,ze]at ha hb
 exact⟨N.n1,N.n2,N.n3,N.n4,N.n5,N.n6,N.n7,N.n8,N.n9,N.n10,ha.1,ha.2.1,ha.2.2.1,ha.2.2.2,hb.1,hb.2.1,hb.2.2.1,hb.2.2.2⟩
theorem BQ{X:Cx}{pins:Wp (rY×Obj)}{σ:St}{H:Hp}{s:rX}{k:sx}{a c:rY}{xs:Wp V}(I:Inv X pins σ H s)(q:SqB X.K H k a xs)(f:QE X pins H c):a≠c:=by
 intro e
 subst e
 have rd:∀o,Rd H a o->ur:=λo r=>by
  rcases r with r|⟨_,r⟩<;>(rw[f.1]at r;cases r)
 have kk:∀o,X.K.lookup a=Gc o->ur:=λo hk=>by
  have b:=I.ok.mod.kin a o hk
  rcases f.2.2.2.1 with z|z
  .exact I.ok.ZF a o b z
  .exact absurd (rz (sO (I.ok.bs a o b).1) z) (uY _)
 cases k
 .rcases(show SqL X.K H a xs from q)with q|⟨o,_,_,hk,_⟩
  .exact rd _ q
  .exact kk o hk
 .rcases(show SqT X.K H a xs from q)with q|⟨o,_,_,hk,_⟩
  .exact rd _ q
  .exact kk o hk
theorem Ww{P:sf}{w:tU}{K:W1}{elts:Wp sW}{n:Nat}{pos:Pos}(k:sx)(a:rY)(m:sx)(b:rY)(z ti tt j1 j2:rY)(N:ZNe z ti tt j1 j2):Turn P w K (.Tuple elts n pos) (Itz K k a m b) [z,ti,tt,j1,j2] z (λi h=>ZSt h z ti tt j1 j2 k a m b i) where
 mem:=by simp
 obj:=λi h st c hc=>by
  have jl:∀{q:sx} {j l:rY},JIt h q j l i->∃o,h.get? j=Gc o/\∀v,o.data≠.cell v:=λ{q j l} x=>by
   cases q
   .obtain⟨o,e,_,d⟩:=(show h.IsListIter j l i from x)
    exact⟨o,e,λv z=>by rw[d]at z;cases z⟩
   .obtain⟨o,e,_,d⟩:=(show h.IsTupleIter j l i from x)
    exact⟨o,e,λv z=>by rw[d]at z;cases z⟩
  simp only[rZ,sC,tF]at hc
  rcases hc with rfl|rfl|rfl|rfl|rfl
  .exact⟨_,st.oz,λv z=>nomatch z⟩
  .exact⟨_,st.oi,λv z=>nomatch z⟩
  .obtain⟨u,v,e⟩:=st.ot
   exact⟨_,e,λv z=>nomatch z⟩
  .exact jl st.q1
  .exact jl st.q2
 keep:=λi h h' st kp=>⟨kp z (by simp) _ st.oz,kp ti (by simp) _ st.oi,let⟨u,v,e⟩:=st.ot;⟨u,v,kp tt (by simp) _ e⟩,st.q1.at λo e=>kp j1 (by simp) o e,st.q2.at λo e=>kp j2 (by simp) o e⟩
 item:=by
  intro X hP hw hK hc i pins s σ H E I hf st hg
  subst hP hw hK
  obtain⟨xs,ys,x,y,s1,s2,e1,e2⟩:=hg
  obtain⟨i1,r1,p1⟩:=I.sqB s1
  obtain⟨i2,r2,p2⟩:=I.sqB s2
  obtain⟨u1,h1,ru1⟩:=r1.get e1
  obtain⟨u2,h2,ru2⟩:=r2.get e2
  have fz:=hf z (by simp);have fi:=hf ti (by simp);have ft:=hf tt (by simp);have f1:=hf j1 (by simp);have f2:=hf j2 (by simp)
  have ap:=N.apart (a:=a) (b:=b) (by simp[BQ I s1 fz,BQ I s1 ft,BQ I s1 f1,BQ I s1 f2]) (by simp[BQ I s2 fz,BQ I s2 ft,BQ I s2 f1,BQ I s2 f2])
  obtain⟨v1,v2,ot⟩:=st.ot
  refine Rn ap st.oz st.oi ot (st.q1.sit p1) (st.q2.sit p2) (x:=u1) (y:=u2) (by simpa using h1) (by simpa using h2) λh' oz ot' q1 q2 op kp=>⟨_,rfl,wpAny_letOwnedTupleGo_zip oz λg oz' sb=>?_⟩
  have lt:∀c o,s.heap.get? c=Gc o->c≠s.heap.objs.size:=λc o q=>tJ (sO q)
  have nz:z≠s.heap.objs.size:=lt _ _ st.oz
  have nt:tt≠s.heap.objs.size:=lt _ _ ot
  have n1:j1≠s.heap.objs.size:=by obtain⟨o,e,_⟩:=(st.q1.sit p1).live;exact lt _ _ e
  have n2:j2≠s.heap.objs.size:=by obtain⟨o,e,_⟩:=(st.q2.sit p2).live;exact lt _ _ e
  have kp2:∀c o,c≠z->c≠tt->c≠j1->c≠j2->s.heap.get? c=Gc o->g.get? c=Gc o:=λc o c1 c2 c3 c4 q=>(sb.2 c c1).trans (kp c o c1 c2 c3 c4 q)
  have fr:H s.heap.objs.size=none:=I.hok.fresh (sD _)
  have op2:g.get? s.heap.objs.size=Gc {cls:=.type "tuple",data:=.seq #[u1,u2]}:=(sb.2 _ (uX nz)).trans op
  have ne:∀c u,c∈ [z,ti,tt,j1,j2]->∀d,H d=Gc u->d≠c:=λc u hc d q e=>by rw[e,(hf c hc).1]at q;cases q
  have kpH:∀c u,H c=Gc u->∀o,s.heap.get? c=Gc o->g.get? c=Gc o:=λc u q o e=>kp2 c o (ne z u (by simp) c q) (ne tt u (by simp) c q) (ne j1 u (by simp) c q) (ne j2 u (by simp) c q) e
  have ka:∀o,s.heap.get? a=Gc o->g.get? a=Gc o:=λo e=>kp2 a o (BQ I s1 fz) (BQ I s1 ft) (BQ I s1 f1) (BQ I s1 f2) e
  have kb:∀o,s.heap.get? b=Gc o->g.get? b=Gc o:=λo e=>kp2 b o (BQ I s2 fz) (BQ I s2 ft) (BQ I s2 f1) (BQ I s2 f2) e
  have sq:∀{q:sx} {d:rY} {is:uE rS},L3 s.heap q d is->(∀o,s.heap.get? d=Gc o->h'.get? d=Gc o)->L3 h' q d is:=λ{q d is} x kd=>by
   cases q
   .exact(show s.heap.IsList d is from x).at kd
   .obtain⟨o,e,r⟩:=(show s.heap.IsTuple d is from x)
    exact⟨o,kd o e,r⟩
  have ka1:∀o,s.heap.get? a=Gc o->h'.get? a=Gc o:=λo e=>kp a o (BQ I s1 fz) (BQ I s1 ft) (BQ I s1 f1) (BQ I s1 f2) e
  have kb1:∀o,s.heap.get? b=Gc o->h'.get? b=Gc o:=λo e=>kp b o (BQ I s2 fz) (BQ I s2 ft) (BQ I s2 f1) (BQ I s2 f2) e
  refine⟨.ref s.heap.objs.size,upd H s.heap.objs.size (.tup [x,y]),?_,rfl,⟨_,x,y,fr,rfl,λzs hz=>by rw[I.Pj hz s1];exact e1,λzs hz=>by rw[I.Pj hz s2];exact e2,rfl⟩,⟨oz',(sb.2 _ N.n1).trans (kp ti _ N.n1 N.n5 N.n6 N.n7 st.oi),⟨_,_,(sb.2 _ N.n2).trans ot'⟩,(q1.jit (sq p1 ka1)).at λo e=>(sb.2 _ N.n3).trans e,(q2.jit (sq p2 kb1)).at λo e=>(sb.2 _ N.n4).trans e⟩,?_⟩
  .show Inv X pins σ _ {s with heap:=g,gens:=s.gens,drawn:=s.drawn,toks:=s.toks}
   refine I.step (g':=s.gens) (d':=s.drawn) (ch:=[z,tt,j1,j2]) ?_ ?_ ?_ ?_ ?_ ?_ ?_ ?_ ?_ ?_ I.bare
   .intro c hc
    have q:QE X pins H c:=hf c (by simp only[rZ,sC,tF]at hc ⊢; rcases hc with z|z|z|z<;>simp[z])
    exact⟨q.2.2.2.1,q.2.1,q.2.2.2.2.1,q.2.2.2.2.2⟩
   .exact λc o _ _ hc q _=>by
     simp only[rZ,sC,tF,ze]at hc
     exact kp2 c o hc.1 hc.2.1 hc.2.2.1 hc.2.2.2 q
   .exact λc o _ _ hc q _=>by
     simp only[rZ,sC,tF,ze]at hc
     exact⟨o.slots,kp2 c o hc.1 hc.2.1 hc.2.2.1 hc.2.2.2 q⟩
   .exact λc o _ q n=>by rw[AU (lt c o q)];exact n
   .exact λc o hc q=>by
     simp only[rZ,sC,tF,ze]at hc
     exact⟨o,kp2 c o hc.1 hc.2.1 hc.2.2.1 hc.2.2.2 q⟩
   .exact λc ys q=>by rw[AU (BG q fr)];exact q
   .exact λc o u q=>by rw[AU (BG q fr)];exact q
   .exact λc ps q=>⟨#[],by rw[AU (BG q fr),q];simp⟩
   .rintro mm ⟨o,es,ep,ho,r⟩
    exact⟨o,es,ep,kp2 _ o (uX fz.2.1) (uX ft.2.1) (uX f1.2.1) (uX f2.2.1) ho,r⟩
   .intro c v q
    by_cases hb:c=s.heap.objs.size
    .subst hb
     rw[Ac]at q
     cases q
     exact⟨by show 2<=sizeLine;decide,[u1,u2],.cons ru1 (.cons ru2 .nil),⟨_,op2,rfl,0,rfl⟩⟩
    .rw[AU hb]at q
     refine(I.hok c v q).Vt (λd o hd r=>?_) (λd r=>by rw[AU (BG r fr)];exact r) (λd ys r=>by rw[AU (BG r fr)];exact r)
     rcases hd with e|e
     .rw[e]at r ⊢; exact kpH c v q o r
     .exact kpH d _ e o r
  .intro c hc
   have q:=hf c hc
   have:c≠s.heap.objs.size:=by
    simp only[rZ,sC,tF]at hc
    rcases hc with e|e|e|e|e
    .rw[e];exact nz
    .rw[e];exact lt _ _ st.oi
    .rw[e];exact nt
    .rw[e];exact n1
    .rw[e];exact n2
   rw[AU this];exact q.1
 done:=by
  intro X hP hw hK hc i pins s σ H E I hf st hg
  subst hP hw hK
  obtain⟨xs,ys,s1,s2,e⟩:=hg
  obtain⟨i1,r1,p1⟩:=I.sqB s1
  obtain⟨i2,r2,p2⟩:=I.sqB s2
  have l1:=r1.length
  have l2:=r2.length
  have hh:X.A.in1.handled=none:=I.ok.hd hc
  have hh0:X.A.handled=none:=I.ok.hd hc
  have fz:=hf z (by simp);have fi:=hf ti (by simp);have ft:=hf tt (by simp);have f1:=hf j1 (by simp);have f2:=hf j2 (by simp)
  have ap:=N.apart (a:=a) (b:=b) (by simp[BQ I s1 fz,BQ I s1 ft,BQ I s1 f1,BQ I s1 f2]) (by simp[BQ I s2 fz,BQ I s2 ft,BQ I s2 f1,BQ I s2 f2])
  obtain⟨v1,v2,ot⟩:=st.ot
  refine TJ hh0 ap st.oz st.oi ot (st.q1.sit p1) (st.q2.sit p2) (by rcases e with e|e;exact .inl (by simp;lia);exact .inr (by simp;lia)) λh' kp=>⟨rfl,?_⟩
  have ne:∀c u,c∈ [z,ti,tt,j1,j2]->∀d,H d=Gc u->d≠c:=λc u hc d q e=>by rw[e,(hf c hc).1]at q;cases q
  show Inv X pins σ _ {s with heap:=h',gens:=s.gens,drawn:=s.drawn,toks:=s.toks}
  refine I.step (g':=s.gens) (d':=s.drawn) (ch:=[z,tt,j1,j2]) ?_ ?_ ?_ ?_ ?_ ?_ ?_ ?_ ?_ ?_ I.bare
  .intro c hc
   have q:QE X pins H c:=hf c (by simp only[rZ,sC,tF]at hc ⊢; rcases hc with z|z|z|z<;>simp[z])
   exact⟨q.2.2.2.1,q.2.1,q.2.2.2.2.1,q.2.2.2.2.2⟩
  .exact λc o _ _ hc q _=>by
    simp only[rZ,sC,tF,ze]at hc
    exact kp c o hc.1 hc.2.1 hc.2.2.1 hc.2.2.2 q
  .exact λc o _ _ hc q _=>by
    simp only[rZ,sC,tF,ze]at hc
    exact⟨o.slots,kp c o hc.1 hc.2.1 hc.2.2.1 hc.2.2.2 q⟩
  .exact λc o _ q n=>n
  .exact λc o hc q=>by
    simp only[rZ,sC,tF,ze]at hc
    exact⟨o,kp c o hc.1 hc.2.1 hc.2.2.1 hc.2.2.2 q⟩
  .exact λc ys q=>q
  .exact λc o u q=>q
  .exact λc ps q=>⟨#[],by rw[q];simp⟩
  .rintro mm ⟨o,es,ep,ho,r⟩
   exact⟨o,es,ep,kp _ o (uX fz.2.1) (uX ft.2.1) (uX f1.2.1) (uX f2.2.1) ho,r⟩
  .intro c v q
   refine(I.hok c v q).Vt (λd o hd r=>?_) (λd r=>r) (λd ys r=>r)
   rcases hd with e|e
   .rw[e]at r ⊢; exact kp c o (ne z v (by simp) c q) (ne tt v (by simp) c q) (ne j1 v (by simp) c q) (ne j2 v (by simp) c q) r
   .exact kp d o (ne z _ (by simp) d e) (ne tt _ (by simp) d e) (ne j1 _ (by simp) d e) (ne j2 _ (by simp) d e) r
 self:=λ_ _ _ _ _ st h=>wpAny_pyIter_zip st.oz h
end L2
end
noncomputable section
namespace L2
open PySem PySem.Spec PyProof.Rows
theorem zne(n:Nat):ZNe (n+4) (n+2) (n+3) n (n+1):=⟨λe=>by have:n+2=n+4:=e;lia,λe=>by have:n+3=n+4:=e;lia,λe=>by have:n=n+4:=e;lia,λe=>by have:n+1=n+4:=e;lia,λe=>by have:n+2=n+3:=e;lia,λe=>by have:n+2=n:=e;lia,λe=>by have:n+2=n+1:=e;lia,λe=>by have:n+3=n:=e;lia,λe=>by have:n+3=n+1:=e;lia,λe=>by have:n=n+1:=e;lia⟩
section
variable{X:Cx}
noncomputable def pO(K:W1)(ta:TA):TI:=λσ H R=>ta σ H λvs H1=>∃k a m b,vs=[.ref a,.ref b]/\(∃xs,SqB K H1 k a xs)/\(∃ys,SqB K H1 m b ys)/\R (Itz K k a m b) H1
theorem dU{a b:sW}{ta:TA}{p pos tp:Pos}{elts:Wp sW}{n:Nat}(hg:Gl X "zip")(hm:X.mg "zip"=none)(ha:PA X [a,b] ta)(hs:sE [a,b] X.env=[(false,eval a X.env),(false,eval b X.env)]:=by rfl)(hs2:sE [b] X.env=[(false,eval b X.env)]:=by rfl):PI X (.Tuple elts n tp) (.Call (.Name "zip" p) [a,b] [] pos) (pO X.K ta):=by
 intro pins s σ H R I h
 refine Call_ (MQ I hg hm boot_zip (wC (thn (ha pos pins s σ H _ I h) λus s1 ⟨vs,H1,I1,r1,q1⟩=>?_) (by rw[hs,hs2]) (by rw[hs2];rfl)))
 obtain⟨k,a',m,b',e,⟨xs,hq⟩,⟨ys,hr⟩,q⟩:=q1
 subst e
 obtain⟨u,v,rfl,ru,rv⟩:=r1.two
 cases (show u=si a' from ru)
 cases (show v=si b' from rv)
 obtain⟨i1,v1,p1⟩:=I1.sqB hq
 obtain⟨i2,v2,p2⟩:=I1.sqB hr
 refine T7 p1 p2 λh' oz oi ot q1 q2 kp=>wpAny_pyIter_zip (s:={s1 with heap:=h'}) oz ?_
 have sq:∀{q:sx} {d:rY} {is:uE rS},L3 s1.heap q d is->L3 h' q d is:=λ{q d is} x=>by
  cases q
  .exact(show s1.heap.IsList d is from x).at λo e=>kp _ o e
  .obtain⟨o,e,r⟩:=(show s1.heap.IsTuple d is from x)
   exact⟨o,kp _ o e,r⟩
 refine⟨s1.heap.objs.size+4,[s1.heap.objs.size+4,s1.heap.objs.size+2,s1.heap.objs.size+3,s1.heap.objs.size,s1.heap.objs.size+1],_,_,H1,rfl,I1.kept (t':=s1.toks) kp,
  Ww k a' m b' _ _ _ _ _ (zne s1.heap.objs.size),⟨oz,oi,⟨_,_,ot⟩,q1.jit (sq p1),q2.jit (sq p2)⟩,λc hc=>?_,q⟩
 simp only[rZ,sC,tF]at hc
 have:s1.heap.objs.size<=c:=by rcases hc with rfl|rfl|rfl|rfl|rfl<;>first|exact sD _|exact Nat.le_add_right _ _
 exact I1.bz this (I1.hok.fresh this)
end
end L2
end
noncomputable section
namespace L2
open PySem PySem.Spec PyProof.Rows
section
variable{prog:sf}{w:tU}{A:tN}{E:rS->rX->Prop}{s:rX}
theorem IsList.Q2{h h':tT}{a:rY}{items:uE rS}(p:h.IsList a items)(k:∀o,h.get? a=Gc o->h'.get? a=Gc o):h'.IsList a items:=by
 obtain⟨o,ho,r⟩:=p
 exact⟨o,k o ho,r⟩
theorem PC{it t:rY}{items:uE rS}(hne:t≠it):∀(n i:Nat) (s:rX) (Q:Wp rS->rX->Prop),s.heap.IsListIter it t i->s.heap.IsList t items->i+n<=items.size->(∀h',h'.IsListIter it t (i+n)->wM it s.heap h'->Q ((items.toList.drop i).take n) {s with heap:=h'})->wpAny (model prog w) A (draw (.ref it) n) Q E s
 |0,i,s,Q,hit,_,_,hQ=>by
  show wpAny _ _ (pure []) Q E s
  exact sG (by simpa using hQ s.heap hit (Heap.SameBut.refl ..))
 |n+1,i,s,Q,hit,ht,hle,hQ=>by
  have hlt:i<items.size:=by lia
  show wpAny _ _ (pyNext (.ref it) >>= _) Q E s
  refine rT (xB hit ht (x:=items[i]) (by simp[hlt]) λh1 hit1 hs1=>?_)
  refine rT (uy (PC hne n (i+1) _ _ hit1 (IsList.Q2 ht λo e=>hs1.extBut t o hne e) (by lia) λh2 hit2 hs2=>sG ?_))
  have hd:items.toList.drop i=items[i]::items.toList.drop (i+1):=by simp[u7,hlt]
  have:=hQ h2 (by rw[show i+(n+1)=i+1+n by lia];exact hit2) (hs1.trans hs2)
  rw[hd,List.take_succ_cons]at this
  exact this
theorem KU{t:rY}{items:uE rS}{Q:Wp rS->rX->Prop}(hh:A.handled=none)(ht:s.heap.IsList t items)(hty:s.TypeIs (.ref t) "list")(hQ:∀h',ye s.heap.objs.size s.heap h'->Q items.toList {s with heap:=h'}):wpAny (model prog w) A (unpackItems (.ref t) items.size none) Q E s:=by
 have hlt:t≠s.heap.objs.size:=by obtain⟨o,ho,_⟩:=ht;exact tJ (sO ho)
 unfold unpackItems
 refine rT ?_
 .unfold notIterableAtAll
  refine rT (wpAny_specialOf hty F.slot_list_iter.lookup ?_)
  refine sG ?_
  simp only[AAJ,yL]
  refine rT (uy (u4 ht ?_))
  refine rT (uy (PC hlt items.size 0 _ _ ⟨_,sS _ rfl,rfl,rfl⟩ (IsList.Q2 ht λo e=>rV _ e) (by lia) λh1 hit1 hs1=>?_))
  have hall:List.take items.size (List.drop 0 items.toList)=items.toList:=by
   rw[List.drop_zero];exact xH (by simp)
  rw[hall]
  rw[sg (by simp)]
  have ht1:h1.IsList t items:=IsList.Q2 (IsList.Q2 ht λo e=>rV _ e) λo e=>hs1.extBut t o hlt e
  refine rT (uy (xP hh hit1 ht1 (by simp) λh2 he2=>?_))
  simp only[Option.isSome_none,AAJ,yL]
  refine sG (hQ h2 λb o hb e=>he2 b o hb (hs1.extBut b o hb (rV _ e)))
theorem Jt{env:Env}{elts:Wp sW}{x1}{pos:Pos}{t:rY}{items:uE rS}{Q:Unit->rX->Prop}(hh:A.handled=none)(ht:s.heap.IsList t items)(hty:s.TypeIs (.ref t) "list")(hn:(assignEach elts env).length=items.size)(hstar:(assignEach elts env).findIdx? (·.1)=none)(h:∀h',ye s.heap.objs.size s.heap h'->wpAny (model prog w) A (assignInOrder ((assignEach elts env).map (·.2)) items.toList) Q E {s with heap:=h'}):wpAny (model prog w) A (assign (.Tuple elts x1 pos) env (.ref t)) Q E s:=by
 rw[PyProof.Rows.assign_Tuple]
 refine rT (wY ?_)
 unfold unpack
 rw[hn,hstar]
 exact rT (uy (KU hh ht hty h))
end
section
variable{X:Cx}{pos:Pos}
noncomputable def qD(K:W1)(n:Nat)(t:TGs):TG:=λv σ H Q=>∃a xs,v=.ref a/\(SqT K H a xs\/H a=Gc (.lst xs))/\xs.length=n/\t xs σ H Q
theorem iO{es:Wp sW}{k:Nat}{t:TGs}{n:Nat}(hc:X.calm=true)(h:PGs X es t)(hn:(assignEach es X.env).length=n:=by rfl)(hst:(assignEach es X.env).findIdx? (·.1)=none:=by rfl):PG X (.Tuple es k pos) (qD X.K n t):=by
 intro pins s σ H v u Q I r hw
 obtain⟨a,xs,e1,hq,hl,hw⟩:=hw
 rcases hq with hq|hq
 .exact iX hc h hn hst pins s σ H v u Q I r ⟨a,xs,e1,hq,hl,hw⟩
 .subst e1
  cases r
  obtain⟨its,rv,p,hz⟩:=I.list (SqL.of hq)
  obtain⟨z,its2,m,rv2,_,e⟩:=I.YU hq
  refine Jt (I.ok.hd hc) p.isList ⟨_,e,rfl⟩ (by simp[hn,<-hl,rv.length]) hst λh' hx=>?_
  have I1:Inv X pins σ H {s with heap:=h'}:=I.kept (t':=s.toks) λb o e=>hx b o (tJ (sO e)) e
  exact h pins _ σ H xs _ Q I1 (by simpa using rv) hw
end
end L2
end
noncomputable section
namespace L2
open PySem PySem.Spec PyProof.Rows
theorem JIt.live{h:tT}{k:sx}{j l:rY}{i:Nat}(q:JIt h k j l i):∃o,h.get? j=Gc o/\∀v,o.data≠.cell v:=by
 cases k with
 |true=>obtain⟨o,e,c,d⟩:=q;exact⟨o,e,λv z=>by rw[d]at z;cases z⟩
 |false=>obtain⟨o,e,c,d⟩:=q;exact⟨o,e,λv z=>by rw[d]at z;cases z⟩
theorem L3.mono{h h':tT}{k:sx}{l:rY}{its:uE rS}(q:L3 h k l its)(e:∀o,h.get? l=Gc o->h'.get? l=Gc o):L3 h' k l its:=by
 cases k with
 |true=>obtain⟨o,ho,r⟩:=q;exact⟨o,e o ho,r⟩
 |false=>obtain⟨o,ho,r⟩:=q;exact⟨o,e o ho,r⟩
theorem Tz{prog:sf}{w:tU}{A:tN}(hh:A.handled=none)(it t:rY)(hne:t≠it)(items:uE rS):Draws prog w A it [it,t] items.size (λi v=>items[i]?=Gc v) (λi h=>SIt h it t i items) where
 live:=λ_ _ st=>let⟨o,ho,_⟩:=st.live;⟨o,ho⟩
 frame:=λ_ _ _ st hk=>st.at (λo e=>hk it (by simp) o e) λo e=>hk t (by simp) o e
 item:=λi s Q E hi st hQ=>Ks st (x:=items[i]) (by simp[hi]) λh' a b=>hQ _ h' s.toks (by simp[hi]) a b
 done:=λs Q E st hE=>Km hh st (by simp) hE
noncomputable def ItE(K:W1)(kk:sx)(a:rY):It:=
 ⟨λi H=>∃xs x,SqB K H kk a xs/\xs[i]?=Gc x,λi H x H'=>∃p y,H p=none/\x=.ref p/\(∀xs,SqB K H kk a xs->xs[i]?=Gc y)/\H'=upd H p (.tup [.int i,y]),λi H=>∃xs,SqB K H kk a xs/\xs.length<=i⟩
theorem Rj{P:sf}{w:tU}{K:W1}{elts:Wp sW}{k:Nat}{pos:Pos}(kk:sx)(a e it:rY)(hei:e≠it):Turn P w K (.Tuple elts k pos) (ItE K kk a) [e,it] e (λi h=>(∃old,IsEnum h e it i old)/\JIt h kk it a i) where
 mem:=by simp
 obj:=λi h st b hb=>by
  obtain⟨⟨old,h1⟩,st2⟩:=st
  obtain⟨o,h2,h4⟩:=st2.live
  simp only[rZ,sC,tF]at hb
  rcases hb with rfl|rfl
  .exact⟨_,h1,λv z=>nomatch z⟩
  .exact⟨o,h2,h4⟩
 keep:=λi h h' st k=>by
  obtain⟨⟨old,h1⟩,h2⟩:=st
  exact⟨⟨old,k e (by simp) _ h1⟩,h2.at λo q=>k it (by simp) o q⟩
 item:=by
  intro X hP hw hK hc i pins s σ H E I hf st hg
  subst hP hw hK
  obtain⟨xs,x,hq,hx⟩:=hg
  obtain⟨its,rv,p⟩:=I.sqB hq
  obtain⟨u,hu,ru⟩:=rv.get hx
  obtain⟨⟨old,h1⟩,h2⟩:=st
  obtain⟨oi,hi1,hi2⟩:=h2.live
  have hea:a≠e:=BQ I hq (hf e (by simp))
  have hia:a≠it:=BQ I hq (hf it (by simp))
  have hil:i<its.toArray.size:=by
   have:=(r9.mp hu).1
   simpa using this
  have hh:X.A.in1.handled=none:=I.ok.hd hc
  have D:=Tz (prog:=X.prog) (w:=X.w) hh it a hia its.toArray
  refine wpAny_pyNext_enum_itemD D h1 (h2.sit p) hil hei (by simp[hei,uX hea]) ?_
  intro y h' tk hy out st' tup size kept
  have ey:y=u:=by
   have:its[i]?=Gc y:=by simpa using hy
   rw[hu]at this
   exact(uo this).symm
  subst ey
  refine⟨_,rfl,wpAny_letOwnedTupleGo_enum out λh'' en sb=>?_⟩
  have hfe:=hf e (by simp)
  have hfi:=hf it (by simp)
  have lt:∀b o,s.heap.get? b=Gc o->b≠s.heap.objs.size:=λb o q=>tJ (sO q)
  have kept2:∀b o,b≠e->b≠it->s.heap.get? b=Gc o->h''.get? b=Gc o:=λb o b1 b2 q=>(sb.2 b b1).trans (kept b o b1 b2 q)
  have fr:H s.heap.objs.size=none:=I.hok.fresh (sD _)
  have tup2:h''.get? s.heap.objs.size=Gc {cls:=.type "tuple",data:=.seq #[.int i tk,y]}:=(sb.2 _ (uX (lt e _ h1))).trans tup
  have ne1:∀b u,H b=Gc u->b≠e:=λb u q z=>by rw[z,hfe.1]at q;cases q
  have ne2:∀b u,H b=Gc u->b≠it:=λb u q z=>by rw[z,hfi.1]at q;cases q
  refine⟨.ref s.heap.objs.size,upd H s.heap.objs.size (.tup [.int i,x]),?_,rfl,⟨_,x,fr,rfl,λys hys=>by rw[I.Pj hys hq];exact hx,rfl⟩,⟨⟨y,en⟩,?_⟩,?_⟩
  .show Inv X pins σ _ {s with heap:=h'',gens:=s.gens,drawn:=s.drawn,toks:=tk+1}
   refine I.step (g':=s.gens) (d':=s.drawn) (ch:=[e,it]) ?_ ?_ ?_ ?_ ?_ ?_ ?_ ?_ ?_ ?_ I.bare
   .intro b hb
    simp only[rZ,sC,tF]at hb
    rcases hb with rfl|rfl
    .exact⟨hfe.2.2.2.1,hfe.2.1,hfe.2.2.2.2.1,hfe.2.2.2.2.2⟩
    .exact⟨hfi.2.2.2.1,hfi.2.1,hfi.2.2.2.2.1,hfi.2.2.2.2.2⟩
   .exact λb o _ _ hc q _=>kept2 b o (λz=>hc (by simp[z])) (λz=>hc (by simp[z])) q
   .exact λb o _ _ hc q _=>⟨o.slots,kept2 b o (λz=>hc (by simp[z])) (λz=>hc (by simp[z])) q⟩
   .exact λb o _ q n=>by rw[AU (lt b o q)];exact n
   .exact λb o hc q=>⟨o,kept2 b o (λz=>hc (by simp[z])) (λz=>hc (by simp[z])) q⟩
   .exact λb ys q=>by rw[AU (BG q fr)];exact q
   .exact λb o u q=>by rw[AU (BG q fr)];exact q
   .exact λb ps q=>⟨#[],by rw[AU (BG q fr),q];simp⟩
   .rintro m ⟨o,es,ep,ho,r⟩
    exact⟨o,es,ep,kept2 _ o (uX hfe.2.1) (uX hfi.2.1) ho,r⟩
   .intro b v q
    by_cases hb:b=s.heap.objs.size
    .subst hb
     rw[Ac]at q
     cases q
     exact⟨by show 2<=sizeLine;decide,[.int i tk,y],.cons ⟨tk,rfl⟩ (.cons ru .nil),⟨_,tup2,rfl,0,rfl⟩⟩
    .rw[AU hb]at q
     refine(I.hok b v q).Vt (λc z hc r=>kept2 c z ?_ ?_ r) (λc r=>by rw[AU (BG r fr)];exact r) (λc ys r=>by rw[AU (BG r fr)];exact r)
     .rcases hc with z|z
      .rw[z];exact ne1 b v q
      .exact ne1 c _ z
     .rcases hc with z|z
      .rw[z];exact ne2 b v q
      .exact ne2 c _ z
  .have pa:L3 h'' kk a its.toArray:=p.mono λo q=>kept2 a o hea hia q
   exact(st'.at (λo q=>(sb.2 it (uX hei)).trans q) λo q=>(sb.2 a hea).trans q).jit pa
  .intro b hb
   simp only[rZ,sC,tF]at hb
   rcases hb with rfl|rfl
   .rw[AU (lt b _ h1)];exact hfe.1
   .rw[AU (lt b _ hi1)];exact hfi.1
 done:=by
  intro X hP hw hK hc i pins s σ H E I hf st hg
  subst hP hw hK
  obtain⟨xs,hq,hx⟩:=hg
  obtain⟨its,rv,p⟩:=I.sqB hq
  obtain⟨⟨old,h1⟩,h2⟩:=st
  have hl:=rv.length
  have hh:X.A.in1.handled=none:=I.ok.hd hc
  obtain⟨f0,f1,f2,f3,f4,f5⟩:=hf it (by simp)
  have D:Draws X.prog X.w X.A.in1 it [it,a] i (λ_ _=>yk) (λj h=>j=i/\SIt h it a i its.toArray):=
   {live:=λ_ _ st=>let⟨o,ho,_⟩:=st.2.live;⟨o,ho⟩
    frame:=λ_ _ _ st hk=>⟨st.1,st.2.at (λo e=>hk it (by simp) o e) λo e=>hk a (by simp) o e⟩
    item:=λj s Q E hj st _=>absurd st.1 (tJ hj)
    done:=λs Q E st hE=>Km hh st.2 (by simp;lia) hE}
  exact wpAny_pyNext_enum_endD D h1 ⟨rfl,h2.sit p⟩ λh' eb=>⟨rfl,I.turned (t':=s.toks) (λb o hb q=>eb b o hb q) f0 f1 f3 f4 f5⟩
 self:=λ_ _ _ _ _ st h=>by
  obtain⟨⟨old,h1⟩,_⟩:=st
  exact wpAny_pyIter_enum h1 h
section
variable{X:Cx}
noncomputable def eK(K:W1)(ta:TA):TI:=λσ H R=>ta σ H λvs H1=>∃kk a,vs=[.ref a]/\(∃xs,SqB K H1 kk a xs)/\R (ItE K kk a) H1
theorem V2{a:sW}{ta:TA}{p pos tp:Pos}{elts:Wp sW}{k:Nat}(hg:Gl X "enumerate")(hm:X.mg "enumerate"=none)(ha:PA X [a] ta)(hs:sE [a] X.env=[(false,eval a X.env)]:=by rfl):PI X (.Tuple elts k tp) (.Call (.Name "enumerate" p) [a] [] pos) (eK X.K ta):=by
 intro pins s σ H R I h
 refine Call_ (MQ I hg hm boot_enumerate (callWith_type1 (thn (ha pos pins s σ H _ I h) λus s1 ⟨vs,H1,I1,r1,q1⟩=>?_) hs rfl))
 obtain⟨kk,b,e,⟨xs,hq⟩,q⟩:=q1
 subst e
 obtain⟨u,rfl,ru⟩:=r1.one
 cases (show u=si b from ru)
 obtain⟨its,rv,pt⟩:=I1.sqB hq
 have fin:∀h':tT,IsEnum h' (s1.heap.objs.size+1) s1.heap.objs.size 0 .none->JIt h' kk s1.heap.objs.size b 0->(∀b o,s1.heap.get? b=Gc o->h'.get? b=Gc o)->wpAny (model X.prog X.w) X.A (pyIter (.ref (s1.heap.objs.size+1))) (PIE X pins σ (.Tuple elts k tp) R) X.xe {s1 with heap:=h'}:=λh' en it kp=>by
  refine wpAny_pyIter_enum (s:={s1 with heap:=h'}) en ?_
  refine⟨s1.heap.objs.size+1,[s1.heap.objs.size+1,s1.heap.objs.size],_,_,H1,rfl,I1.kept (t':=s1.toks) kp,Rj kk b (s1.heap.objs.size+1) s1.heap.objs.size (Nat.succ_ne_self _),⟨⟨_,en⟩,it⟩,λc hc=>?_,q⟩
  simp only[rZ,sC,tF]at hc
  rcases hc with rfl|rfl
  .exact I1.bz (by lia) (I1.hok.fresh (by lia))
  .exact I1.bz (sD _) (I1.hok.fresh (sD _))
 cases kk with
 |true=>exact Rt (show s1.heap.IsTuple b its.toArray from pt) λh' en it kp=>fin h' en it kp
 |false=>exact call_enumerate_list (show s1.heap.IsList b its.toArray from pt) λh' en it _ kp=>fin h' en it kp
end
end L2
end
noncomputable section
namespace St
open PySem PySem.Spec L2 PyProof.Rows
inductive Kd where
 |non|bl|int|str|tup|lst|dct
 deriving DecidableEq
noncomputable def Kd.ty:Kd->vB
 | .non=>"NoneType" | .bl=>"bool" | .int=>"int" | .str=>"str" | .tup=>"tuple" | .lst=>"list" | .dct=>"dict"
noncomputable def Kd.isA:Kd->vB->sx
 | .bl,"bool"=>true| .bl,"int"=>true| .int,"int"=>true| .str,"str"=>true| .tup,"tuple"=>true| .lst,"list"=>true| .dct,"dict"=>true
 |_,_=>false
section
variable{K:W1}
theorem bx(k:Kd):vT K (.type k.ty) (.type "int")=Gc (k.isA "int"):=by
 cases k<;>first|rfl|(unfold vT;rfl)
theorem WU(k:Kd):vT K (.type k.ty) (.type "bool")=Gc (k.isA "bool"):=by
 cases k<;>rfl
theorem kit_tuple(k:Kd):vT K (.type k.ty) (.type "tuple")=Gc (k.isA "tuple"):=by
 cases k<;>rfl
theorem Zy(k:Kd):vT K (.type k.ty) (.type "str")=Gc (k.isA "str"):=by
 cases k<;>rfl
end
structure Dfn(P:sf)(w:tU)(K:W1)(mg:Str->rW rS)(base:tT)(x:Str)(k:Nat)(ps:Wp Str)(sp:Sp):Prop where
 ex:∃f fd,mg x=Gc (.ref f)/\uL K (.ref f)=true/\Binds K fd ps []/\KR P w K mg base CX0 k f fd ps sp
structure Src(K:W1)(mg:Str->rW rS)(x:Str)(st:tE):Prop where
 ex:∃f fd,Fun K x x st f fd/\mg x=Gc (.ref f)
theorem lM{X:Cx}{k:Nat}{x:Str}{ps:Wp Str}{sp:Sp}{e:sW}{es:Wp sW}{t:TA}{p pos:Pos}(d:Dfn X.prog X.w X.K X.mg X.base x k ps sp)(hr:CZ k X.A)(hg:Gl X x)(ha:PA X (e::es) t)(hdb:(x==("__debug__":Str))=false:=by decide)(he:sE (e::es) X.env=(false,eval e X.env)::sE es X.env:=by rfl)(hpl:(backTo pos (sE es X.env)).any (·.1)=false:=by rfl):PE X (.Call (.Name x p) (e::es) [] pos) (bX sp [] E0 t):=by
 obtain⟨f,fd,a,b,c,F⟩:=d.ex
 exact cA F hr hg a b c .nil TU ha hdb he hpl
section
variable{X:Cx}
theorem aU{n:Nat}(h:n<2^8000):n.log2<9000:=by
 by_cases h0:n=0
 .subst h0;decide
 .exact xy ((Nat.log2_lt h0).mpr h) (by decide)
theorem XI:OpR X (binaryOp .FloorDiv) (rI (λ_ j=>0<j/\j.natAbs<2^8000) λi j=>.int (i / j)):=opI λi j _ _ _ _ _ hc q=>by
 have h1:(0:Int)<j:=hc.1
 exact floordiv_int (by lia) (by rw[Int.fdiv_eq_ediv_of_nonneg i (by lia)];exact q) (.inl (PyProof.noPylong_of_log2 (aU hc.2)))
theorem MP{prog:sf}{w:tU}{A:tN}(hh:A.handled=none){a it:rY}(hne:a≠it){vs:Wp rS}:Walks prog w A it [it,a] [it] vs.length (λi v=>vs[i]?=Gc v) (λi h=>h.IsListIter it a i/\h.IsList a vs.toArray) where
 sub:=λb hb=>by simp at hb;simp[hb]
 frame:=λi h h' st k=>⟨st.1.at λo e=>k it (by simp) o e,by
  obtain⟨o,ho,r⟩:=st.2
  exact⟨o,k a (by simp) o ho,r⟩⟩
 item:=λi s Q E hi st hQ=>by
  refine xB st.1 st.2 (x:=vs[i]) (by simp[hi]) λh' st' sb=>?_
  refine hQ _ h' s.toks (by simp[hi]) ⟨st',?_⟩ λb o hb e=>(sb.2 b (by simpa using hb)).trans e
  obtain⟨o,ho,r⟩:=st.2
  exact⟨o,(sb.2 a hne).trans ho,r⟩
 done:=λs Q E st hQ=>xP hh st.1 st.2 (by simp) λh' eb=>hQ h' s.toks λb o hb e=>eb b o (by simpa using hb) e
 self:=λi s Q E st hQ=>zO st.1 hQ
theorem UW(hc:X.calm=true):EH X (.builtin "all") (λxs H Q=>∃(p:rY) (bs:Wp sx),xs=[.ref p]/\SqL X.K H p (bs.map V.bl)/\Q (.bl (bs.all id)) H):=by
 intro pins s σ H xs us Q I r h
 obtain⟨p,bs,rfl,hp,q⟩:=h
 obtain⟨u,rfl,ru⟩:=r.one
 cases (show u=si p from ru)
 obtain⟨its,rv,pl,hz⟩:=I.list hp
 have hd:X.A.in1.handled=none:=I.ok.hd hc
 refine call_all_walk (u4 pl.isList ?_)
 have hlen:bs.length=its.length:=by have:=rv.length;simpa using this
 have hpl:=pl.isList
 have hne:p≠s.heap.objs.size:=by
  obtain⟨o,ho,_⟩:=hpl
  exact tJ (sO ho)
 refine⟨s.heap.objs.size,_,_,its.length,_,_,λi=>bs.getD i true,rfl,MP (vs:=its) hd hne,⟨⟨_,sS _ rfl,rfl,rfl⟩,?_⟩,?_,?_⟩
 .obtain⟨o,ho,r⟩:=hpl
  exact⟨o,rV _ ho,r⟩
 .intro i v s' Q' E' hv hq
  have hi:i<its.length:=(r9.mp hv).1
  have hb:(bs.map V.bl)[i]?=Gc (.bl (bs.getD i true)):=by
   rw[sY,sF (by lia)]
   simp[sv,sF (show i<bs.length by lia)]
  obtain⟨u,hu,ru⟩:=rv.get hb
  rw[hv]at hu
  cases hu
  cases (show v=yE _ from ru)
  exact vL hq
 .intro h' tk hk
  have e:(tj its.length).all (λi=>bs.getD i true)=bs.all id:=by
   rw[<-hlen]
   clear q hp rv hlen
   have:∀(l:Wp sx),(tj l.length).all (λi=>l.getD i true)=l.all id:=by
    intro l
    induction l with
    |nil=>rfl
    |cons b l ih=>
     rw[sk,List.range_succ_eq_map,vm,List.all_map,vm,<-ih]
     rfl
   exact this bs
  rw[e]
  exact⟨.bl _,H,I.kept (t':=tk) λb o eb=>hk b o (by simp;exact tJ (sO eb)) (rV _ eb),rfl,q⟩
theorem WJ{ns:Wp Int}{j:Nat}(h:j<ns.length):(ns.take (j+1)).sum=(ns.take j).sum+ns.getD j 0:=by
 have e:ns.getD j 0=ns[j]:=by simp[sv,sF h]
 rw[List.take_succ,sF h,List.sum_append,e]
 show _+(ns[j]+0)=_
 lia
theorem Lj{ns:Wp Int}:∀{j:Nat},j<=ns.length->preSum (λi=>ns.getD i 0) j=(ns.take j).sum
 |0,_=>by simp[preSum]
 |j+1,h=>by
  rw[preSum,Lj (by lia),WJ (by lia)]
theorem VH{ns:Wp Int}(h:∀n∈ns,0<=n/\n<=1000000):0<=ns.sum/\ns.sum<=1000000*ns.length:=by
 induction ns with
 |nil=>simp
 |cons a l ih=>
  have h1:=h a (by simp)
  have h2:=ih λn hn=>h n (by simp[hn])
  rw[vH,sk]
  have:((l.length+1:Nat):Int)=(l.length:Int)+1:=by lia
  lia
end
section
variable{prog:sf}{w:tU}{A:tN}{E:rS->rX->Prop}{s:rX}
theorem Jh{t sl:rY}{items:uE rS}{vl vu:rS}{lo hi:rW Int}{Q:rS->rX->Prop}(ht:IsTup s.heap t items)(hs:s.heap.IsSliceOf sl vl vu .none)(pl:y0 vl lo)(pu:y0 vu hi)(hw:HT.sIx items.size 0 lo=0/\HT.sIx items.size items.size hi=items.size)(h:Q (.ref t) s):wpAny (model prog w) A (getItem (.ref t) (.ref sl)) Q E s:=by
 obtain⟨os,hos,hcs,hds⟩:=id hs
 have hTs:s.TypeIs (.ref sl) "slice":=⟨os,hos,hcs⟩
 unfold getItem
 try with_reducible refine uy ?_
 first|refine rT (sG ?_)|skip
 refine rT (yc ht.typeIs (by decide) ?_)
 refine rT (uc (name:=rh "__getitem__") ht.typeIs tM
  (uv tM ht.typeIs xt ?_ (yN _ _)))
 show wpAny _ _ (wI (.ref t) >>= _) _ _ s
 refine rT (z9 ht ?_)
 refine rT (y2 hTs ?_)
 rw[sZ (by decide)]
 refine rT (HT.Gx hs pl pu ?_)
 show wpAny _ _ (if(((HT.sIx items.size 0 lo:Nat):Int)==0 && (1:Int)==1 && (HT.sIx items.size items.size hi-HT.sIx items.size 0 lo)==items.size)=true then _ else _) _ _ s
 rw[sZ (by rw[hw.1,hw.2];simp)]
 unfold Builtin.Tuple.tupleIsExact
 refine rT (rT (y2 ht.typeIs (sG ?_)))
 rw[sZ (by decide)]
 exact rT (yz (sG ⟨_,rfl,sG h⟩))
theorem KY{sl:rY}{u:Tok}{n:Nat}{Q:Int×Int×Nat->rX->Prop}(hs:s.heap.IsSliceOf sl .none .none (.int (-1) u))(h:Q ((n:Int)-1,-1,n) s):wpAny (model prog w) A (vU (.ref sl) (pure (n:Int))) Q E s:=by
 obtain⟨os,hos,hcs,hds⟩:=id hs
 unfold vU yW
 refine rT (rT (uP hos hds (x:=.none) rfl (rT (uP hos hds (x:=.none) rfl (rT (uP hos hds (x:=.int (-1) u) rfl (sG ?_)))))))
 refine rT (slicePart_int ?_)
 show wpAny _ _ (if((-1:Int)==0)=true then _ else _) _ _ s
 rw[sg (by decide)]
 refine rT (yM (rT (yM (rT (sG ?_)))))
 show wpAny _ _ (match ug none none (-1) (n:Int)with|(lo,hi)=>pure (lo,(-1:Int),uF lo hi (-1))) _ _ s
 have e:ug none none (-1) (n:Int)=((n:Int)-1,-1):=by
  unfold ug
  have h1:((-1:Int)<0):=by decide
  simp only[h1,xZ]
 rw[e]
 have e2:uF ((n:Int)-1) (-1) (-1)=n:=by
  unfold uF
  have h1:¬((-1:Int)>0):=by decide
  simp only[h1,yL]
  by_cases h0:n=0
  .subst h0;rfl
  .rw[sZ (by lia)]
   have:(-(-1):Int)=1:=rfl
   rw[this,Int.ediv_one]
   lia
 show wpAny _ _ (pure ((n:Int)-1,(-1:Int),uF ((n:Int)-1) (-1) (-1))) _ _ s
 rw[e2]
 exact sG h
noncomputable def NI(n:Nat)(k:Nat):Nat:=((n:Int)-1+(k:Int)*(-1)).toNat
theorem Jc{t sl:rY}{items:uE rS}{u:Tok}{Q:rS->rX->Prop}(ht:IsTup s.heap t items)(hs:s.heap.IsSliceOf sl .none .none (.int (-1) u))(hz:items.size<=sizeLine)(h:Q (.ref s.heap.objs.size) {s with heap:=s.heap.push {cls:=.type "tuple",data:=.seq ((tj items.size).filterMap λk=>items[NI items.size k]?).toArray}}):wpAny (model prog w) A (getItem (.ref t) (.ref sl)) Q E s:=by
 obtain⟨os,hos,hcs,hds⟩:=id hs
 have hTs:s.TypeIs (.ref sl) "slice":=⟨os,hos,hcs⟩
 have htake:sizeOk (.seq ((tj items.size).filterMap λk=>items[NI items.size k]?).toArray):=by
  show((tj items.size).filterMap λk=>items[NI items.size k]?).toArray.size<=sizeLine
  rw[sJ]
  refine sI (wc _ _) ?_
  rw[yf]
  exact hz
 unfold getItem
 try with_reducible refine uy ?_
 first|refine rT (sG ?_)|skip
 refine rT (yc ht.typeIs (by decide) ?_)
 refine rT (uc (name:=rh "__getitem__") ht.typeIs tM
  (uv tM ht.typeIs xt ?_ (yN _ _)))
 show wpAny _ _ (wI (.ref t) >>= _) _ _ s
 refine rT (z9 ht ?_)
 refine rT (y2 hTs ?_)
 rw[sZ (by decide)]
 refine rT (KY hs ?_)
 show wpAny _ _ (if(((items.size:Int)-1)==0 && (-1:Int)==1 && items.size==items.size)=true then _ else _) _ _ s
 rw[sg (by rw[show((-1:Int)==1)=false from rfl,yQ,Bool.false_and];decide)]
 first
  |exact rT (m:=uI _) (uN (sG ⟨_,rfl,sG h⟩) htake)
  |exact rT (m:=uI _) (uN (rT (sG (sG ⟨_,rfl,sG h⟩))) htake)
  |exact rT (rT (m:=uI _) (uN (sG (sG ⟨_,rfl,sG h⟩)) htake))
  |exact rT (rT (m:=uI _) (uN (sG ⟨_,rfl,sG h⟩) htake))
end
section
variable{X:Cx}
def pz(K:W1):V->rW Int->rW Int->Hp->VK->Prop:=λx lo hi H Q=>∃a xs,x=.ref a/\SqT K H a xs/\HT.sIx xs.length 0 lo=0/\HT.sIx xs.length xs.length hi=xs.length/\Q x H
theorem fq:SlR X (pz X.K):=by
 intro pins s σ H x v vl vu lo hi sl Q I rx hs pl pu h
 obtain⟨a,xs,rfl,hx,h1,h2,q⟩:=h
 cases rx
 obtain⟨its,r,ht,hz⟩:=I.tuple hx
 have hlen:its.toArray.size=xs.length:=by rw[sJ];exact r.length.symm
 refine⟨"tuple",_,tM.lookup,ht.typeIs,?_⟩
 exact Jh ht hs pl pu (by rw[hlen];exact⟨h1,h2⟩) ⟨.ref a,H,I,rfl,q⟩
noncomputable def lU(K:W1):R2:=λx y H Q=>∃a b ys,x=.ref a/\y=.ref b/\SqT K H a []/\SqT K H b ys/\Q (.ref b) H
theorem Zl:OpR X (binaryOp .Add) (lU X.K):=by
 intro pins s σ H x y v u Q I rx ry h
 obtain⟨a,b,ys,rfl,rfl,ha,hb,q⟩:=h
 cases rx
 cases ry
 obtain⟨its,r1,p1,_⟩:=I.tuple ha
 obtain⟨its2,r2,p2,_⟩:=I.tuple hb
 have e0:its=[]:=r1.M8.mpr rfl
 subst e0
 obtain⟨⟨cls,dd,data,sl⟩,ho,hc,n,hd⟩:=id p1
 obtain⟨⟨cls2,dd2,data2,sl2⟩,ho2,hc2,n2,hd2⟩:=id p2
 simp only at hc hd hc2 hd2
 subst hc hd hc2 hd2
 exact concat_meets ⟨_,ho,rfl⟩ ⟨_,ho2,rfl⟩ yr z8 xE wx (wZ _ _)
  (tuple_addW0 a b #[] its2.toArray n n2 dd dd2 sl sl2 rfl) ⟨ho,ho2,⟨.ref b,H,I,rfl,q⟩⟩
theorem Vals.pick{xs:Wp V}{us:Wp rS}(r:Vals xs us)(f:Nat->Nat):∀ks:Wp Nat,Vals (ks.filterMap λk=>xs[f k]?) (ks.filterMap λk=>us[f k]?)
 | []=>.nil
 |k::ks=>by
  have ih:=Vals.pick r f ks
  rw[tQ,tQ]
  cases e:xs[f k]? with
  |none=>rw[r.none_of e];exact ih
  |some x=>
   obtain⟨u,hu,ru⟩:=r.get e
   rw[hu]
   exact .cons ru ih
end
end St
end
noncomputable section
namespace Mi
open PySem PySem.Spec L2
inductive D where
 |non|bl (b:sx)|int (i:Int)|str (x:Str)|ty (n:vB)|tup (ds:Wp D)|lst (ds:Wp D)|dct (kvs:Wp (Key×D))|scr (ns:Wp Int)|ref (n:Nat)
inductive Wv where
 |val (d:D)|own (ds:Wp D)
inductive Cl where
 |lst (ds:Wp D)|dct (kvs:Wp (Key×D))|tab (x:Str)|ins (C:Str) (fs:Wp (Str×D))
abbrev Sto:=Wp Cl
structure Ms where
 cel:Wp rY
 tmp:Wp rY
def Ms.mem(M:Ms)(a:rY):Prop:=a∈M.cel\/a∈M.tmp
noncomputable def Ms.no:Ms:=⟨[],[]⟩
def KL(K:W1)(a:rY)(xs:Wp V):Prop:=∃(o:Obj) (its:uE rS) (n:Nat),K.lookup a=Gc o/\o.cls=.type "list" /\o.dict=none/\o.data=.seq its n/\its.size<=sizeLine/\Vals xs its.toList
mutual
inductive BX(K:W1)(M:Ms)(H:Hp):V->D->Prop
 |non:BX K M H .non .non
 |bl (b:sx):BX K M H (.bl b) (.bl b)
 |int (i:Int):BX K M H (.int i) (.int i)
 |str (x:Str):BX K M H (.str x) (.str x)
 |ty (n:vB):BX K M H (.ty n) (.ty n)
 |tup {a:rY} {xs:Wp V} {ds:Wp D} (h:SqT K H a xs) (r:Ae K M H xs ds):BX K M H (.ref a) (.tup ds)
 |lst {a:rY} {xs:Wp V} {ds:Wp D} (h:H a=Gc (.lst xs)) (n:¬M.mem a) (r:Ae K M H xs ds):BX K M H (.ref a) (.lst ds)
 |scr {a:rY} {ns:Wp Int} (h:(Rd H a (.lst (ns.map V.int))/\¬M.mem a)\/KL K a (ns.map V.int)):BX K M H (.ref a) (.scr ns)
 |dct {a:rY} {kvs:Wp (Key×V)} {es:Wp (Key×D)} (h:H a=Gc (.dK kvs)) (n:¬M.mem a) (r:CY K M H kvs es):BX K M H (.ref a) (.dct es)
 |ref {a:rY} {n:Nat} (h:M.cel[n]?=Gc a):BX K M H (.ref a) (.ref n)
inductive Ae(K:W1)(M:Ms)(H:Hp):Wp V->Wp D->Prop
 |nil:Ae K M H [] []
 |cons {v:V} {d:D} {vs:Wp V} {ds:Wp D} (h:BX K M H v d) (t:Ae K M H vs ds):Ae K M H (v::vs) (d::ds)
inductive CY(K:W1)(M:Ms)(H:Hp):Wp (Key×V)->Wp (Key×D)->Prop
 |nil:CY K M H [] []
 |cons {k:Key} {v:V} {d:D} {vs:Wp (Key×V)} {ds:Wp (Key×D)} (h:BX K M H v d) (t:CY K M H vs ds):CY K M H ((k,v)::vs) ((k,d)::ds)
end
def Mob:HO->Prop
 | .lst _=>yk
 | .dK _=>yk
 | .tbl _=>yk
 | .ins _ _ _=>yk
 |_=>ur
def MOk(M:Ms)(H:Hp):Prop:=∀a,M.mem a->∃o,H a=Gc o/\Mob o
structure Sp1(M:Ms)(H:Hp)(M':Ms)(H':Hp):Prop where
 mo:MOk M H
 pre:M.cel <+: M'.cel
 fresh:∀a,M'.mem a->M.mem a\/H a=none
 keep:∀a o,H a=Gc o->¬M.mem a->H' a=Gc o
structure Gr(M:Ms)(H:Hp)(M':Ms)(H':Hp):Prop where
 mo:MOk M H
 pre:M.cel <+: M'.cel
 tmp:M'.tmp=M.tmp
 fresh:∀a,a∈M'.cel->a∈M.cel\/H a=none
 keep:∀a o,H a=Gc o->a∉M.cel->H' a=Gc o
 some:∀a,H a≠none->H' a≠none
section
variable{K:W1}{M M' M2:Ms}{H H' H2:Hp}
theorem MOk.some(mo:MOk M H){a:rY}(h:M.mem a):H a≠none:=λz=>by
 obtain⟨o,e,_⟩:=mo a h
 rw[e]at z;cases z
theorem MOk.at(mo:MOk M H){a:rY}(k:∀b o,H b=Gc o->H' b=Gc o)(h:M.mem a):∃o,H' a=Gc o/\Mob o:=(mo a h).imp λo z=>⟨k a o z.1,z.2⟩
theorem Gr.st(g:Gr M H M' H'):Sp1 M H M' H':=⟨g.mo,g.pre,λa z=>z.elim (λz=>(g.fresh a z).imp .inl id) λz=>.inl (.inr (by rw[<-g.tmp];exact z)),λa o e n=>g.keep a o e λz=>n (.inl z)⟩
theorem Gr.refl(mo:MOk M H):Gr M H M H:=⟨mo,uG,rfl,λ_ z=>.inl z,λ_ _ e _=>e,λ_ e=>e⟩
theorem Gr.none(g:Gr M H M' H'){a:rY}(h:H' a=none):H a=none:=by
 cases e:H a with
 |none=>rfl
 |some o=>exact absurd h (g.some a (by rw[e];intro z;cases z))
theorem Gr.trans(h:Gr M H M' H')(g:Gr M' H' M2 H2):Gr M H M2 H2:=
 ⟨h.mo,h.pre.trans g.pre,g.tmp.trans h.tmp,λa z=>(g.fresh a z).elim (h.fresh a) λz=>.inr (h.none z),λa o e n=>g.keep a o (h.keep a o e n) (λz=>by
   rcases h.fresh a z with z|z
   .exact n z
   .rw[e]at z;cases z),λa e=>g.some a (h.some a e)⟩
theorem Gr.grow(mo:MOk M H)(k:∀a o,H a=Gc o->H' a=Gc o):Gr M H M H':=
 ⟨mo,uG,rfl,λ_ z=>.inl z,λb u eb _=>k b u eb,λb eb z=>by
   cases h:H b with
   |none=>exact eb h
   |some o=>rw[k b o h]at z;cases z⟩
theorem La{α:Type}{xs ys:Wp α}(h:xs <+: ys){n:Nat}{a:α}(e:xs[n]?=Gc a):ys[n]?=Gc a:=by
 obtain⟨zs,rfl⟩:=h
 rw[rf (r9.mp e).1]
 exact e
theorem Sp1.Sn(g:Sp1 M H M' H'){a:rY}{o:HO}(e:H a=Gc o)(n:¬Mob o):H' a=Gc o:=g.keep a o e λz=>by
 obtain⟨u,q,m⟩:=g.mo a z
 rw[e]at q;cases q;exact n m
theorem Sp1.sqT(g:Sp1 M H M' H'){a:rY}{xs:Wp V}(h:SqT K H a xs):SqT K H' a xs:=by
 rcases h with h|h
 .rcases h with h|⟨o,h⟩
  .exact .inl (.inl (g.Sn h id))
  .exact .inl (.inr ⟨o,g.Sn h id⟩)
 .exact .inr h
theorem Sp1.nm(g:Sp1 M H M' H'){a:rY}{o:HO}(e:H a=Gc o)(n:¬M.mem a):¬M'.mem a:=λz=>by
 rcases g.fresh _ z with z|z
 .exact n z
 .rw[z]at e;cases e
theorem BX.step(g:Sp1 M H M' H'){v:V}{d:D}(h:BX K M H v d):BX K M' H' v d:=
 BX.rec (motive_1:=λv d _=>BX K M' H' v d) (motive_2:=λv d _=>Ae K M' H' v d) (motive_3:=λv d _=>CY K M' H' v d) .non .bl .int .str .ty (λh _ r=>.tup (g.sqT h) r) (λh n _ r=>.lst (g.keep _ _ h n) (g.nm h n) r) (λh=>by
  rcases h with⟨h,n⟩|h
  .rcases h with h|⟨o,h⟩
   .exact .scr (.inl ⟨.inl (g.keep _ _ h n),g.nm h n⟩)
   .exact .scr (.inl ⟨.inr ⟨o,g.keep _ _ h n⟩,g.nm h n⟩)
  .exact .scr (.inr h)) (λh n _ r=>.dct (g.keep _ _ h n) (g.nm h n) r) (λh=>.ref (La g.pre h)) .nil (λ_ _ h t=>.cons h t) .nil (λ_ _ h t=>.cons h t) h
theorem Ae.ind{P:Wp V->Wp D->Prop}(n:P [] [])(c:∀{v:V} {d:D} {vs:Wp V} {ds:Wp D},BX K M H v d->P vs ds->P (v::vs) (d::ds)){vs:Wp V}{ds:Wp D}(h:Ae K M H vs ds):P vs ds:=
 Ae.rec (motive_1:=λ_ _ _=>yk) (motive_2:=λv d _=>P v d) (motive_3:=λ_ _ _=>yk) trivial (λ_=>trivial) (λ_=>trivial) (λ_=>trivial) (λ_=>trivial) (λ_ _ _=>trivial) (λ_ _ _ _=>trivial) (λ_=>trivial) (λ_ _ _ _=>trivial) (λ_=>trivial) n (λh _ _ t=>c h t) trivial (λ_ _ _ _=>trivial) h
theorem CY.ind{P:Wp (Key×V)->Wp (Key×D)->Prop}(n:P [] [])(c:∀{k:Key} {v:V} {d:D} {vs:Wp (Key×V)} {ds:Wp (Key×D)},BX K M H v d->P vs ds->P ((k,v)::vs) ((k,d)::ds)){vs:Wp (Key×V)}{ds:Wp (Key×D)}(h:CY K M H vs ds):P vs ds:=
 CY.rec (motive_1:=λ_ _ _=>yk) (motive_2:=λ_ _ _=>yk) (motive_3:=λv d _=>P v d) trivial (λ_=>trivial) (λ_=>trivial) (λ_=>trivial) (λ_=>trivial) (λ_ _ _=>trivial) (λ_ _ _ _=>trivial) (λ_=>trivial) (λ_ _ _ _=>trivial) (λ_=>trivial) trivial (λ_ _ _ _=>trivial) n (λh _ _ t=>c h t) h
theorem Ae.step(g:Sp1 M H M' H'){v:Wp V}{d:Wp D}(h:Ae K M H v d):Ae K M' H' v d:=h.ind .nil λh t=>.cons (h.step g) t
theorem CY.step(g:Sp1 M H M' H'){v:Wp (Key×V)}{d:Wp (Key×D)}(h:CY K M H v d):CY K M' H' v d:=h.ind .nil λh t=>.cons (h.step g) t
theorem Ae.length{v:Wp V}{d:Wp D}(h:Ae K M H v d):v.length=d.length:=h.ind (P:=λv d=>v.length=d.length) rfl λ_ t=>congrArg (· +1) t
theorem Ae.get{v:Wp V}{d:Wp D}{i:Nat}{y:D}(h:Ae K M H v d):d[i]?=Gc y->∃x,v[i]?=Gc x/\BX K M H x y:=
 h.ind (P:=λv d=>∀i,d[i]?=Gc y->∃x,v[i]?=Gc x/\BX K M H x y) (λi e=>by simp at e) (λh t i e=>by
  cases i with
  |zero=>simp at e;subst e;exact⟨_,rfl,h⟩
  |succ i=>exact t i e) i
theorem Ae.append{v v':Wp V}{d d':Wp D}(h:Ae K M H v d)(s:Ae K M H v' d'):Ae K M H (v++v') (d++d'):=h.ind (P:=λv d=>Ae K M H (v++v') (d++d')) s λh t=>.cons h t
theorem Ae.take{v:Wp V}{d:Wp D}(n:Nat)(h:Ae K M H v d):Ae K M H (v.take n) (d.take n):=h.ind (P:=λv d=>∀n,Ae K M H (v.take n) (d.take n)) (λn=>by rw[List.take_nil,List.take_nil];exact .nil) (λh t n=>by
 cases n with
 |zero=>exact .nil
 |succ n=>exact .cons h (t n)) n
theorem Ae.drop{v:Wp V}{d:Wp D}(n:Nat)(h:Ae K M H v d):Ae K M H (v.drop n) (d.drop n):=h.ind (P:=λv d=>∀n,Ae K M H (v.drop n) (d.drop n)) (λn=>by rw[List.drop_nil,List.drop_nil];exact .nil) (λh t n=>by
 cases n with
 |zero=>exact .cons h (t 0)
 |succ n=>exact t n) n
theorem Ae.set{x:V}{y:D}(r:BX K M H x y):∀{v:Wp V} {d:Wp D} (i:Nat),Ae K M H v d->Ae K M H (v.set i x) (d.set i y)
 |_,_,_,.nil=>.nil
 |_,_,0,.cons _ t=>.cons r t
 |_,_,i+1,.cons q t=>.cons q (Ae.set r i t)
end
abbrev En:=Wp (rW D)
abbrev Sg:=Wp (rW V)
structure EnR(K:W1)(M:Ms)(E:En)(σ:Sg)(H:Hp):Prop where
 len:E.length=σ.length
 val:∀(i:Nat) (d:D),E[i]?=Gc (Gc d)->∃v,σ[i]?=Gc (Gc v)/\BX K M H v d
noncomputable def K0(x:Str):Str:=(x++(".<locals>.":Str))++("<lambda>":Str)
def Jv(K:W1)(c P:rY):Prop:=
 ∃o vs file tf flags tg inF text tt,K.lookup c=Gc o/\o.cls=yF "code" /\o.data=Data.fields vs/\vs[11]?=Gc (si P)/\vs.getD 11 tP=si P/\vs.getD 18 tP=yC file tf/\vs.getD 7 tP=yB flags tg/\vs.getD 9 tP=yE inF/\vs.getD 10 tP=yB text tt/\c≠P
def TabAt(K:W1)(x:Str)(P:rY):Prop:=
 ∃f oc od fd osl c,tS K mainGlobals x=Gc (Gc (si f))/\K.lookup f=Gc ⟨oc,od,Data.func fd,osl⟩/\fd.code=si c/\Jv K c P
def SR(q:Str)(o:Obj):Prop:=∃vs t,o.data=Data.fields vs/\vs[1]?=Gc (yC q t)
structure SA(K:W1)(H:Hp)(x:Str)(P:rY)(ps:uE rS):Prop where
 tri:PySem.TriplesOk ps.toList
 tat:TabAt K x P
 cod:∀pos cv,PySem.codeAmong pos ps.toList=Gc cv->∃c o,cv=si c/\H c=Gc (.frz o (.own 0))/\SR (K0 x) o
theorem SA.step{x:Str}{P:rY}{ps:uE rS}{K:W1}{M M':Ms}{H H':Hp}(t:SA K H x P ps)(g:Sp1 M H M' H'):SA K H' x P ps:=⟨t.tri,t.tat,λpos cv e=>by
 obtain⟨c,o,h1,h2,h3⟩:=t.cod pos cv e
 exact⟨c,o,h1,g.Sn h2 id,h3⟩⟩
def Pt(K:W1)(M:Ms)(H:Hp)(a:rY):Cl->Prop
 | .lst ds=>∃xs,H a=Gc (.lst xs)/\Ae K M H xs ds
 | .dct es=>∃kvs,H a=Gc (.dK kvs)/\CY K M H kvs es
 | .tab x=>∃ps,H a=Gc (.tbl ps)/\SA K H x a ps
 | .ins C fs=>∃Ca dx fv,tS K mainGlobals C=Gc (Gc (.ref Ca))/\H a=Gc (.ins Ca dx fv)/\H dx=Gc (.own a)/\fv.map (·.1)=fs.map (·.1)/\Ae K M H (fv.map (·.2)) (fs.map (·.2))
structure StR(K:W1)(M:Ms)(S:Sto)(H:Hp):Prop where
 mo:MOk M H
 nd:M.cel.Nodup
 nt:∀a∈M.tmp,a∉M.cel
 len:M.cel.length=S.length
 cell:∀(n:Nat) (a:rY) (c:Cl),M.cel[n]?=Gc a->S[n]?=Gc c->Pt K M H a c
section
variable{K:W1}{M M' M2:Ms}{H H' H2:Hp}{E:En}{σ:Sg}{S:Sto}
theorem Pt.step{a:rY}{c:Cl}(q:Pt K M H a c)(g:Sp1 M H M' H')(k:∀o,H a=Gc o->H' a=Gc o):Pt K M' H' a c:=by
 cases c with
 |lst ds=>obtain⟨xs,e,rr⟩:=q;exact⟨xs,k _ e,rr.step g⟩
 |dct ds=>obtain⟨xs,e,rr⟩:=q;exact⟨xs,k _ e,rr.step g⟩
 |tab ds=>obtain⟨xs,e,rr⟩:=q;exact⟨xs,k _ e,rr.step g⟩
 |ins C fs=>obtain⟨Ca,dx,fv,h,e,eo,n,rr⟩:=q;exact⟨Ca,dx,fv,h,k _ e,g.Sn eo id,n,rr.step g⟩
theorem EnR.step(r:EnR K M E σ H)(g:Sp1 M H M' H'):EnR K M' E σ H':=⟨r.len,λi d e=>by
 obtain⟨v,h1,h2⟩:=r.val i d e
 exact⟨v,h1,h2.step g⟩⟩
theorem StR.at(r:StR K M S H){n:Nat}{c:Cl}(e:S[n]?=Gc c):∃a,M.cel[n]?=Gc a/\Pt K M H a c:=by
 have hn:n<M.cel.length:=by rw[r.len];exact(r9.mp e).1
 exact⟨_,sF hn,r.cell n _ c (sF hn) e⟩
theorem StR.grow(r:StR K M S H)(k:∀a o,H a=Gc o->H' a=Gc o):StR K M S H':=by
 have g:Sp1 M H M H':=⟨r.mo,uG,λ_ z=>.inl z,λa o e _=>k a o e⟩
 refine⟨λa z=>r.mo.at k z,r.nd,r.nt,r.len,λn a c h1 h2=>?_⟩
 exact(r.cell n a c h1 h2).step g λo e=>k _ _ e
theorem StR.chg(r:StR K M S H){n:Nat}{a:rY}{ds es:Wp D}{ys:Wp V}(h1:M.cel[n]?=Gc a)(h2:S[n]?=Gc (.lst ds))(hy:Ae K M H ys es):StR K M (S.set n (.lst es)) (upd H a (.lst ys))/\Gr M H M (upd H a (.lst ys)):=by
 have ha:a∈M.cel:=sQ h1
 have hl:n<S.length:=(r9.mp h2).1
 have g:Gr M H M (upd H a (.lst ys)):=⟨r.mo,uG,rfl,λ_ z=>.inl z,λb o eb nb=>by rw[AU (λz=>nb (by rw[z];exact ha))];exact eb,λb eb=>by
  by_cases h:b=a
  .subst h;rw[Ac];intro z;cases z
  .rw[AU h];exact eb⟩
 refine⟨⟨λb z=>?_,r.nd,r.nt,by rw[u6];exact r.len,λm b c e1 e2=>?_⟩,g⟩
 .by_cases h:b=a
  .subst h;exact⟨_,Ac,trivial⟩
  .rw[AU h];exact r.mo b z
 .by_cases h:n=m
  .subst h
   rw[h1]at e1;cases e1
   rw[sP hl]at e2;cases e2
   exact⟨ys,Ac,hy.step g.st⟩
  .rw[rm h]at e2
   have hb:b≠a:=λz=>by
    subst z
    exact h ((wF (r9.mp h1).1 r.nd).mp (h1.trans e1.symm))
   exact(r.cell m b c e1 e2).step g.st λo e=>by rw[AU hb];exact e
theorem StR.bh(r:StR K M S H){a:rY}{xs:Wp V}{ds:Wp D}(e:H a=none)(k:∀b o,H b=Gc o->H' b=Gc o)(ea:H' a=Gc (.lst xs))(rr:Ae K M H xs ds):StR K ⟨M.cel++[a],M.tmp⟩ (S++[.lst ds]) H'/\Gr M H ⟨M.cel++[a],M.tmp⟩ H':=by
 have g:Gr M H ⟨M.cel++[a],M.tmp⟩ H':=⟨r.mo,vY _ _,rfl,λb z=>by
  rcases sX.mp z with z|z
  .exact .inl z
  .simp at z;subst z;exact .inr e,λb o eb _=>k b o eb,λb eb z=>by
  cases h:H b with
  |none=>exact eb h
  |some o=>rw[k b o h]at z;cases z⟩
 have na:¬M.mem a:=λz=>r.mo.some z e
 refine⟨⟨λb z=>?_,?_,λb hb z=>?_,by simp[r.len],λm b c e1 e2=>?_⟩,g⟩
 .have z':M.mem b\/b=a:=by
   rcases z with z|z
   .rcases sX.mp z with z|z
    .exact .inl (.inl z)
    .simp at z;exact .inr z
   .exact .inl (.inr z)
  rcases z' with z|z
  .exact r.mo.at k z
  .subst z;exact⟨_,ea,trivial⟩
 .rw[wG]
  refine⟨r.nd,by simp,λx hx y hy=>?_⟩
  simp at hy;subst hy
  exact λz=>na (.inl (by rw[<-z];exact hx))
 .rcases sX.mp z with z|z
  .exact r.nt b hb z
  .simp at z;subst z;exact na (.inr hb)
 .by_cases h:m<S.length
  .rw[rf (by rw[r.len];exact h)]at e1
   rw[rf h]at e2
   exact(r.cell m b c e1 e2).step g.st λo e=>k _ _ e
  .have hm:m=S.length:=by
    have:=(r9.mp e2).1
    simp at this;lia
   subst hm
   rw[tK (by rw[r.len];exact sD _)]at e1
   rw[tK (sD _)]at e2
   rw[r.len]at e1
   simp at e1 e2
   subst e1 e2
   exact⟨xs,ea,rr.step g.st⟩
end
noncomputable def qt:rW vq->sx
 |some .local=>true
 |some .cell=>true
 |some .free=>true
 |_=>false
noncomputable def k7(sc:uT)(x:Str):sx:=qt (sc.names.lookup x)
theorem gD{sc:uT}{x:Str}(h:k7 sc x=true):Vis sc x:=by
 unfold k7 at h
 unfold Vis
 cases e:sc.names.lookup x with
 |none=>rw[e]at h;cases h
 |some k=>
  rw[e]at h
  cases k<;>first|(cases h;done)|simp
abbrev Ev:=En->Sto->rW (D×Sto)
inductive tD(K:W1)(f:Ev)(σ:Sg)(H:Hp)(Q:VK):Prop
 |mk (M:Ms) (E:En) (S:Sto) (d:D) (S':Sto) (e:f E S=Gc (d,S')) (r:EnR K M E σ H) (st:StR K M S H) (q:∀v H' M',Gr M H M' H'->StR K M' S' H'->BX K M' H' v d->Q v H')
structure DE(X:Cx)(e:sW)(f:Ev):Prop where
 pe:PE X e (tD X.K f)
theorem BA{X:Cx}{e:sW}{t t':TE}(h:PE X e t)(m:∀σ H Q,t' σ H Q->t σ H Q):PE X e t':=λpins s σ H Q I q=>h pins s σ H Q I (m _ _ _ q)
theorem TQ{X:Cx}{e:sW}{t t':TT}(h:PT X e t)(m:∀σ H Q,t' σ H Q->t σ H Q):PT X e t':=λpins s σ H Q I q=>h pins s σ H Q I (m _ _ _ q)
theorem Ds{K:W1}{f:Ev}{σ:Sg}{H:Hp}{Q Q':VK}(h:tD K f σ H Q)(m:∀v H',Q v H'->Q' v H'):tD K f σ H Q':=by
 obtain⟨M,E,S,d,S',e,r,st,q⟩:=h
 exact⟨M,E,S,d,S',e,r,st,λv H' M' g s r=>m _ _ (q v H' M' g s r)⟩
theorem Ak{α β:Type}{o:rW α}{k:α->rW β}{y:β}(e:o.bind k=Gc y):∃x,o=Gc x/\k x=Gc y:=by
 cases o with
 |none=>cases e
 |some x=>exact⟨x,rfl,e⟩
theorem Hu{α β:Type}{o:rW α}{k:α->β}{y:β}(e:o.map k=Gc y):∃x,o=Gc x/\k x=y:=by
 cases o with
 |none=>cases e
 |some x=>cases e;exact⟨x,rfl,rfl⟩
noncomputable def fz:Wv->D
 | .val d=>d
 | .own ds=>.lst ds
noncomputable def at?(E:En)(i:Nat):rW D:=(E[i]?).join
theorem at?_some{E:En}{i:Nat}{w:D}(h:at? E i=Gc w):E[i]?=Gc (Gc w):=by
 unfold at? at h
 cases e:E[i]? with
 |none=>rw[e]at h;cases h
 |some q=>rw[e]at h;exact congrArg Gc h
noncomputable def evs:Wp Ev->En->Sto->rW (Wp D×Sto)
 | [],_,S=>Gc ([],S)
 |f::fs,E,S=>(f E S).bind λr=>(evs fs E r.2).map λq=>(r.1::q.1,q.2)
noncomputable def tDs(K:W1):Wp Ev->TA
 | []=>lG
 |f::fs=>gC (tD K f) (tDs K fs)
structure DEs(X:Cx)(es:Wp sW)(fs:Wp Ev):Prop where
 pe:PA X es (tDs X.K fs)
theorem AE{X:Cx}:DEs X [] []:=⟨Q5⟩
theorem AA{X:Cx}{e:sW}{es:Wp sW}{f:Ev}{fs:Wp Ev}(h:DE X e f)(t:DEs X es fs)(hs:sE (e::es) X.env=(false,eval e X.env)::sE es X.env:=by rfl):DEs X (e::es) (f::fs):=⟨J3 h.pe t.pe hs⟩
section
variable{K:W1}{M M':Ms}{E:En}{S:Sto}{σ:Sg}{H H':Hp}
theorem EU:∀{fs:Wp Ev} {M:Ms} {S:Sto} {ds:Wp D} {S':Sto} {H:Hp} {Q:Wp V->Hp->Prop},evs fs E S=Gc (ds,S')->EnR K M E σ H->StR K M S H->(∀vs H' M',Gr M H M' H'->StR K M' S' H'->Ae K M' H' vs ds->Q vs H')->tDs K fs σ H Q
 | [],M,S,ds,S',H,Q,e,r,st,q=>by
   cases e
   exact q [] H M (.refl st.mo) st .nil
 |f::fs,M,S,ds,S',H,Q,e,r,st,q=>by
  obtain⟨⟨d,S1⟩,e1,e⟩:=Ak e
  obtain⟨⟨es,S2⟩,e2,e⟩:=Hu e
  cases e
  refine⟨M,E,S,d,S1,e1,r,st,λv H1 M1 g1 st1 d1=>?_⟩
  exact EU e2 (r.step g1.st) st1 λvs H2 M2 g2 st2 d2=>q _ _ M2 (g1.trans g2) st2 (.cons (d1.step g2.st) d2)
theorem GZ:∀{fs:Wp Ev} {S:Sto} {ds:Wp D} {S':Sto},evs fs E S=Gc (ds,S')->ds.length=fs.length
 | [],_,_,_,e=>by cases e;rfl
 |f::fs,S,ds,S',e=>by
  obtain⟨⟨d,S1⟩,e1,e⟩:=Ak e
  obtain⟨⟨es,S2⟩,e2,e⟩:=Hu e
  cases e
  simp[GZ e2]
def Sh(K:W1)(M:Ms)(H:Hp)(v:V):Wv->Prop
 | .val d=>BX K M H v d
 | .own ds=>∃a xs,v=.ref a/\H a=Gc (.lst xs)/\Ae K M H xs ds
def ivP(K:W1)(M:Ms)(H:Hp)(v:V):D->Prop
 | .non=>v=.non
 | .bl b=>v=.bl b
 | .int i=>v=.int i
 | .str x=>v=.str x
 | .ty n=>v=.ty n
 | .tup ds=>∃a xs,v=.ref a/\SqT K H a xs/\Ae K M H xs ds
 |_=>yk
theorem BX.iv{K:W1}{M:Ms}{H:Hp}{v:V}{d:D}(h:BX K M H v d):ivP K M H v d:=by
 cases h with
 |tup h r=>exact⟨_,_,rfl,h,r⟩
 |non=>rfl
 |bl=>rfl
 |int=>rfl
 |str=>rfl
 |ty=>rfl
 |_=>trivial
inductive Shs(K:W1)(M:Ms)(H:Hp):Wp V->Wp Wv->Prop
 |nil:Shs K M H [] []
 |cons {v:V} {w:Wv} {vs:Wp V} {ws:Wp Wv} (h:Sh K M H v w) (t:Shs K M H vs ws):Shs K M H (v::vs) (w::ws)
noncomputable def dr(S:Sto):D->Wv
 | .ref n=>match S[n]? with
   |some (.lst ds)=>.own ds
   |_=>.val (.ref n)
 |d=>.val d
theorem cD(st:StR K M S H){v:V}{d:D}(h:BX K M H v d):Sh K M H v (dr S d):=by
 cases h with
 |ref h=>
  rename_i a n
  show Sh K M H (.ref a) (match S[n]? with|some (.lst ds)=>.own ds|_=>.val (.ref n))
  split
  .rename_i ds e
   obtain⟨xs,h1,h2⟩:=st.cell n a _ h e
   exact⟨a,xs,rfl,h1,h2⟩
  .exact .ref h
 |non=>exact .non
 |bl b=>exact .bl b
 |int b=>exact .int b
 |str b=>exact .str b
 |ty b=>exact .ty b
 |tup h r=>exact .tup h r
 |lst h n r=>exact .lst h n r
 |scr h=>exact .scr h
 |dct h n r=>exact .dct h n r
theorem YS(st:StR K M S H):∀{vs:Wp V} {ds:Wp D},Ae K M H vs ds->Shs K M H vs (ds.map (dr S))
 |_,_,.nil=>.nil
 |_,_,.cons h t=>.cons (cD st h) (YS st t)
def NwR(K:W1)(M:Ms)(H H':Hp)(v:V):Wv->Prop
 | .val d=>BX K M H' v d
 | .own ds=>∃a xs,v=.ref a/\H a=none/\H' a=Gc (.lst xs)/\Ae K M H xs ds
structure Nw(K:W1)(M:Ms)(H H':Hp)(v:V)(w:Wv):Prop where
 grow:∀a o,H a=Gc o->H' a=Gc o
 rel:NwR K M H H' v w
theorem Nw.same{v:V}{d:D}(mo:MOk M H)(h:BX K M H v d):Nw K M H H v (.val d):=⟨λ_ _ e=>e,h⟩
theorem FR{a:rY}{o:HO}(e:H a=none):∀b u,H b=Gc u->upd H a o b=Gc u:=λb u eb=>by rw[AU (λz=>by subst z;rw[e]at eb;cases eb)];exact eb
theorem Nw.lst{a:rY}{xs:Wp V}{ds:Wp D}(mo:MOk M H)(e:H a=none)(h:Ae K M H xs ds):Nw K M H (upd H a (.lst xs)) (.ref a) (.own ds):=⟨FR e,a,xs,rfl,e,Ac,h⟩
theorem Nw.tup{a:rY}{xs:Wp V}{ds:Wp D}(mo:MOk M H)(e:H a=none)(h:Ae K M H xs ds):Nw K M H (upd H a (.tup xs)) (.ref a) (.val (.tup ds)):=⟨FR e,.tup (.of Ac) (h.step (Gr.grow mo (FR e)).st)⟩
noncomputable def fin:sx->Wv->Sto->rW (D×Sto)
 |_,.val d,S=>Gc (d,S)
 |false,.own ds,S=>Gc (.lst ds,S)
 |true,.own ds,S=>Gc (.ref S.length,S++[.lst ds])
theorem Nw.fin{c:sx}{v:V}{w:Wv}{d:D}{S':Sto}(n:Nw K M H H' v w)(st:StR K M S H)(e:fin c w S=Gc (d,S')):∃M',Gr M H M' H'/\StR K M' S' H'/\BX K M' H' v d:=by
 cases w with
 |val d'=>
  cases e
  exact⟨M,.grow st.mo n.grow,st.grow n.grow,n.rel⟩
 |own ds=>
  obtain⟨a,xs,rfl,h1,h2,h3⟩:=n.rel
  cases c with
  |false=>
   cases e
   exact⟨M,.grow st.mo n.grow,st.grow n.grow,.lst h2 (λz=>st.mo.some z h1) (h3.step (Gr.grow st.mo n.grow).st)⟩
  |true=>
   cases e
   obtain⟨s1,g1⟩:=st.bh h1 n.grow h2 h3
   refine⟨_,g1,s1,.ref ?_⟩
   rw[<-st.len]
   exact sU
abbrev Op1:=Wv->rW Wv
abbrev Op2:=Wv->Wv->rW Wv
abbrev OpN:=Wp Wv->rW Wv
inductive rOp(K:W1)(op:Op2)(x y:V)(H:Hp)(Q:VK):Prop
 |mk (M:Ms) (w1 w2 r:Wv) (e:op w1 w2=Gc r) (mo:MOk M H) (s1:Sh K M H x w1) (s2:Sh K M H y w2) (q:∀v H',Nw K M H H' v r->Q v H')
inductive rUn(K:W1)(op:Op1)(x:V)(H:Hp)(Q:VK):Prop
 |mk (M:Ms) (w r:Wv) (e:op w=Gc r) (mo:MOk M H) (s:Sh K M H x w) (q:∀v H',Nw K M H H' v r->Q v H')
inductive rN(K:W1)(op:OpN)(xs:Wp V)(H:Hp)(Q:VK):Prop
 |mk (M:Ms) (ws:Wp Wv) (r:Wv) (e:op ws=Gc r) (mo:MOk M H) (s:Shs K M H xs ws) (q:∀v H',Nw K M H H' v r->Q v H')
noncomputable def Ny(c:sx)(op:OpN)(fs:Wp Ev):Ev:=λE S=>(evs fs E S).bind λr=>(op (r.1.map (dr r.2))).bind λw=>fin c w r.2
abbrev eOp:=Ny false
abbrev kH:=Ny true
noncomputable def o1(op:Op1):OpN| [a]=>op a|_=>none
noncomputable def o2(op:Op2):OpN| [a,b]=>op a b|_=>none
theorem Ml{c:sx}{op:OpN}{fs:Wp Ev}{Q:VK}{d:D}{S':Sto}(e:Ny c op fs E S=Gc (d,S'))(r:EnR K M E σ H)(st:StR K M S H)(h:∀v H' M',Gr M H M' H'->StR K M' S' H'->BX K M' H' v d->Q v H'):tDs K fs σ H λvs H1=>rN K op vs H1 Q:=by
 obtain⟨⟨ds,S1⟩,e1,e⟩:=Ak e
 obtain⟨w,e2,e⟩:=Ak e
 refine EU e1 r st λvs H1 M1 g1 st1 d1=>⟨M1,_,w,e2,st1.mo,YS st1 d1,λv H2 n=>?_⟩
 obtain⟨M2,g2,st2,d2⟩:=n.fin st1 e
 exact h v H2 M2 (g1.trans g2) st2 d2
end
theorem iQ{K:W1}{f:Op2}{x y:V}{H:Hp}{Q:VK}(h:rN K (o2 f) [x,y] H Q):rOp K f x y H Q:=by
 obtain⟨M,ws,r,e,mo,s,q⟩:=h
 cases s with
 |cons h1 s=>
  cases s with
  |cons h2 s=>
   cases s
   exact⟨M,_,_,r,e,mo,h1,h2,q⟩
theorem iH{K:W1}{f:Op1}{x:V}{H:Hp}{Q:VK}(h:rN K (o1 f) [x] H Q):rUn K f x H Q:=by
 obtain⟨M,ws,r,e,mo,s,q⟩:=h
 cases s with
 |cons h1 s=>
  cases s
  exact⟨M,_,r,e,mo,h1,q⟩
theorem Qa{K:W1}{c:sx}{f:Op2}{fa fb:Ev}{σ:Sg}{H:Hp}{Q:VK}(h:tD K (Ny c (o2 f) [fa,fb]) σ H Q):tOp (rOp K f) (tD K fa) (tD K fb) σ H Q:=by
 obtain⟨M,E,S,d,S',e,r,st,q⟩:=h
 have z:tD K fa σ H λx H1=>tD K fb σ H1 λy H2=>rN K (o2 f) [x,y] H2 Q:=Ml (Q:=Q) e r st q
 exact Ds z λx H1 z1=>Ds z1 λy H2 z2=>iQ z2
theorem Ot{K:W1}{c:sx}{f:Op1}{fa:Ev}{σ:Sg}{H:Hp}{Q:VK}(h:tD K (Ny c (o1 f) [fa]) σ H Q):tUn (rUn K f) (tD K fa) σ H Q:=by
 obtain⟨M,E,S,d,S',e,r,st,q⟩:=h
 have z:tD K fa σ H λx H1=>rN K (o1 f) [x] H1 Q:=Ml (Q:=Q) e r st q
 exact Ds z λx H1 z1=>iH z1
section
variable{X:Cx}{a b e:sW}{es:Wp sW}{fa fb:Ev}{fs:Wp Ev}{pos p:Pos}{c:sx}
theorem GP{op:Operator}{f:Op2}(ho:OpR X (binaryOp op) (rOp X.K f))(ha:DE X a fa)(hb:DE X b fb):DE X (.BinOp a op b pos) (Ny c (o2 f) [fa,fb]):=⟨BA (mn ho ha.pe hb.pe) λ_ _ _ h=>Qa h⟩
theorem PL{op:CmpOp}{f:Op2}(ho:OpR X (compareOp op) (rOp X.K f))(ha:DE X a fa)(hb:DE X b fb)(hm:behindInMarks op b=false:=by rfl):DE X (.Compare a [op] [b] pos) (Ny c (o2 f) [fa,fb]):=⟨BA (cF ho ha.pe hb.pe hm) λ_ _ _ h=>Qa h⟩
theorem UM{op:UnaryOp}{f:Op1}(ho:UnR X (unaryOp op) (rUn X.K f))(ha:DE X a fa):DE X (.UnaryOp op a pos) (Ny c (o1 f) [fa]):=⟨BA (gU ho ha.pe) λ_ _ _ h=>Ot h⟩
theorem DN{f:Op2}(hr:IxR X (rOp X.K f))(ha:DE X a fa)(hb:DE X b fb)(hs:Nq b:=by exact λ_ _=>rfl):DE X (.Subscript a b pos) (Ny c (o2 f) [fa,fb]):=⟨BA (bV hr ha.pe hb.pe hs) λ_ _ _ h=>Qa h⟩
theorem CF{id:vB}{x:Str}{f:OpN}(hc:EH X (.builtin id) (rN X.K f))(hg:Gl X x)(hm:X.mg x=none)(hv:bootBuiltins x=Gc (.builtin id))(ha:DEs X (e::es) fs)(hn:x≠ "__name__":=by decide)(hdb:(x==("__debug__":Str))=false:=by decide)(he:sE (e::es) X.env=(false,eval e X.env)::sE es X.env:=by rfl)(hpl:(backTo pos (sE es X.env)).any (·.1)=false:=by rfl):DE X (.Call (.Name x p) (e::es) [] pos) (Ny c f fs):=⟨
 BA (V0 hc hg hm hv ha.pe hn hdb he hpl) λ_ _ _ h=>by
  obtain⟨M,E,S,d,S',e,r,st,q⟩:=h
  exact Ml e r st q⟩
theorem HE{T:vB}{x:Str}{f:OpN}(hc:EH X (.type T) (rN X.K f))(hg:Gl X x)(hm:X.mg x=none)(hv:bootBuiltins x=Gc (.type T))(ha:DEs X (e::es) fs)(hn:x≠ "__name__":=by decide)(hdb:(x==("__debug__":Str))=false:=by decide)(he:sE (e::es) X.env=(false,eval e X.env)::sE es X.env:=by rfl)(hpl:(backTo pos (sE es X.env)).any (·.1)=false:=by rfl):DE X (.Call (.Name x p) (e::es) [] pos) (Ny c f fs):=⟨
 BA (UR hc hg hm hv ha.pe hn hdb he hpl) λ_ _ _ h=>by
  obtain⟨M,E,S,d,S',e,r,st,q⟩:=h
  exact Ml e r st q⟩
noncomputable def eC(d:D):Ev:=λ_ S=>Gc (d,S)
theorem N5{v:V}{d:D}(h:PE X e (tC v))(r:∀K M H,BX K M H v d):DE X e (eC d):=⟨BA h λσ H Q z=>by
 obtain⟨M,E,S,w,S',e,rr,st,q⟩:=z
 cases e
 exact q _ _ M (.refl st.mo) st (r _ _ _)⟩
theorem AN{i:Int}{j:Nat}:DE X (.Constant (.int i) j pos) (eC (.int i)):=N5 YZ λ_ _ _=>.int _
theorem K3{i:sx}{j:Nat}:DE X (.Constant (.bool i) j pos) (eC (.bl i)):=N5 kg λ_ _ _=>.bl _
theorem BE{i:Str}{j:Nat}:DE X (.Constant (.str i) j pos) (eC (.str i)):=N5 Uq λ_ _ _=>.str _
theorem B9{j:Nat}:DE X (.Constant .none j pos) (eC .non):=N5 dS λ_ _ _=>.non
noncomputable def eV(i:Nat):Ev:=λE S=>(at? E i).map λd=>(d,S)
theorem AH(i:Nat){x:Str}(hN:X.N[i]?=Gc x:=by rfl)(hv:k7 X.env.scope x=true:=by rfl)(hd:(x==("__debug__":Str))=false:=by decide)(hcd:(x==("__classdict__":Str))=false:=by decide):DE X (.Name x pos) (eV i):=⟨BA (PF hN (gD hv) hd hcd) λσ H Q z=>by
 obtain⟨M,E,S,d,S',e,r,st,q⟩:=z
 obtain⟨d',e1,e⟩:=Hu e
 cases e
 obtain⟨v,hv,rd⟩:=r.val i d (at?_some e1)
 exact⟨v,hv,q v H M (.refl st.mo) st rd⟩⟩
end
theorem Gw:fillsNumberSlot (.type "tuple") "mul"=pure false:=
 fillsNumberSlot_seq (id:="tuple.__mul__") (r:=Gc (.builtin "tuple.__rmul__")) xW.lookup (by decide+kernel) F.slot_tuple_rmul.lookup (by decide+kernel)
theorem J9:seqRepeat? (.type "tuple")=pure (Gc (.builtin "tuple.__mul__")):=by
 unfold seqRepeat?
 rw[seqSlot_of (T:="tuple") (name:="__mul__") (id:="tuple.__mul__") xW.lookup (by decide+kernel),seqSlot_of (T:="tuple") (name:="__rmul__") (id:="tuple.__rmul__") F.slot_tuple_rmul.lookup (by decide+kernel)]
 rfl
theorem Hz(a:Int)(t:Tok)(l:rY)(items:uE rS)(n:Nat)(dd:rW rY)(sl:uE (rW rS)):Meets (x8.«int.__rmul__» ⟨[.int a t,.ref l],[]⟩) (λ_ R s=>s.heap.get? l=Gc {cls:=.type "tuple",dict:=dd,data:=.seq items n,slots:=sl}/\R (.ok (.ret Value.notImplemented)) s):=
 .of_wp λprog w A R s h=>by obtain⟨hp,g,d,tk,os⟩:=s;obtain⟨hl,h⟩:=h;wp_walk;exact⟨_,rfl,h⟩
theorem UY(its:Wp rS)(m:Nat):AAH (λx1 x2=>x1++x2) #[] (sH m its.toArray)=(sH m its).flatten.toArray:=by
 have:=foldl_rep its m []
 rw[uC]at this
 exact this
theorem bR{X:Cx}:OpR X (binaryOp .Mult) (λx y H Q=>∃a xs k,x=.ref a/\y=.int k/\SqT X.K H a xs/\xs≠[]/\1<=k/\xs.length*k.toNat<=sizeLine/\(k=1->Q (.ref a) H)/\(k≠1->∀p,H p=none->Q (.ref p) (upd H p (.tup (sH k.toNat xs).flatten)))):=by
 intro pins s σ H x y v u Q I rx ry h
 obtain⟨a,xs,k,rfl,rfl,hx,hne,hk,hz,q1,q2⟩:=h
 cases rx
 obtain⟨t,rfl⟩:=ry
 obtain⟨its,r,⟨⟨c,dd,data,sl⟩,ho,hc,n,hd⟩,hzz⟩:=I.tuple hx
 simp only at hc hd
 subst hc hd
 have hl:=r.length
 have hsz:its.toArray.size=xs.length:=by rw[sJ];exact hl.symm
 have hpos:0<xs.length:=zw.mpr hne
 have hkl:k.toNat<=sizeLine:=sI (Nat.le_mul_of_pos_left _ hpos) hz
 have hk63:k<2^63:=by
  have:(sizeLine:Nat)<2^63:=by decide
  lia
 refine wV (T:="tuple") (U:="int") (by decide) ⟨_,ho,rfl⟩ (λs'=>xU s' k t) Gw zH v5 J9 yu.lookup
  (xV v5 (xU s k t) yv (yd _ _) (Hz k t a its.toArray n dd sl) ⟨ho,rfl,⟨_,ho,rfl⟩,?_⟩)
 refine uv xW ⟨_,ho,rfl⟩ F.entry_tuple_mul ?_ (AAK _ _)
 unfold x8.«tuple.__mul__»
 wp_walk using se ho
 rw[sg (show¬(decide (k< -2^63)||decide (k≥2^63))=true by
  rw[uK]
  rintro (z|z)
  .have:=sM z;lia
  .have:=sM z;lia)]
 wp_walk using se ho
 by_cases h1:k=1
 .subst h1
  rw[sZ (show(its.toArray.isEmpty||(1:Int)==1)=true by simp)]
  wp_walk using se ho
  exact⟨_,rfl,.ref a,H,I,rfl,q1 rfl⟩
 .have hemp:its.toArray.isEmpty=false:=by
   cases its with
   |nil=>rw[v7]at hl;lia
   |cons b bs=>rfl
  rw[sg (show¬(its.toArray.isEmpty||k==1)=true by rw[hemp];simpa using h1)]
  wp_walk using se ho
  have hmul:((its.toArray.size:Int)*k)=((xs.length*k.toNat:Nat):Int):=by
   rw[hsz,zJ]
   congr 1
   lia
  rw[sg (show¬(decide (k<=0)||its.toArray.isEmpty)=true by
   rw[hemp,Bool.or_false]
   intro z
   have:=sM z
   lia)]
  wp_walk
  rw[sg (show¬((its.toArray.size:Int)*k>(2^63-1) / 8) by
   rw[hmul]
   have:(sizeLine:Nat)<=(2^63-1) / 8:=by decide
   lia)]
  wp_walk
  rw[sg (show¬yS ((its.toArray.size:Int)*k)=true by
   unfold yS
   rw[hmul]
   intro z
   have:=sM z
   lia)]
  rw[UY]
  wp_walk
  have hlen:(sH k.toNat its).flatten.length<=sizeLine:=by rw[len_rep,vx,<-hl];exact hz
  rw[sg (show¬((sH k.toNat its).flatten.toArray.size>sizeLine) by rw[sJ];lia)]
  wp_walk
  refine⟨_,rfl,.ref _,_,I.laid (o:=.tup (sH k.toNat xs).flatten) (t':=s.toks) (λb ob q=>rV _ q) (sD _) ?_,rfl,q2 h1 _ (I.hok.fresh (sD _))⟩
  exact⟨by rw[len_rep,vx];exact hz,_,r.rep k.toNat,vk _ _⟩
mutual
noncomputable def D.py:D->PyData
 | .non=>.none| .bl b=>.bool b| .int i=>.int i| .str x=>.str x| .ty _=>.none
 | .tup ds=>.tuple (D.pys ds)| .lst ds=>.list (D.pys ds)| .dct _=>.none| .scr _=>.none| .ref _=>.none
noncomputable def D.pys:Wp D->Wp PyData
 | []=>[]
 |d::ds=>D.py d::D.pys ds
end
mutual
noncomputable def D.lay:D->sx
 | .non=>true| .bl _=>true| .int _=>true| .str x=>uW x| .ty _=>false| .dct _=>false| .scr _=>false| .ref _=>false
 | .tup ds=>D.N3 ds| .lst ds=>D.N3 ds
noncomputable def D.N3:Wp D->sx
 | []=>true
 |d::ds=>D.lay d && D.N3 ds
end
mutual
theorem Jo:∀{d:D},d.lay=true->d.py.canLay0=true
 | .non,_=>rfl
 | .bl _,_=>rfl
 | .int _,_=>rfl
 | .str x,h=>h
 | .ty _,h=>vE h
 | .dct _,h=>vE h
 | .scr _,h=>vE h
 | .ref _,h=>vE h
 | .tup ds,h=>by show xI (D.pys ds)=true;exact NH h
 | .lst ds,h=>by show xI (D.pys ds)=true;exact NH h
theorem NH:∀{ds:Wp D},D.N3 ds=true->xI (D.pys ds)=true
 | [],_=>rfl
 |d::ds,h=>by
  have h':(D.lay d && D.N3 ds)=true:=h
  rw[sA]at h'
  show(PyData.canLay0 d.py && xI (D.pys ds))=true
  rw[Jo h'.1,NH h'.2];rfl
end
section
variable{X:Cx}{pins:Wp (rY×Obj)}{σ:Sg}{H:Hp}{s:rX}{M:Ms}
theorem LK(I:Inv X pins σ H s){a:rY}{xs:Wp V}(h:Rd H a (.lst xs)):∃its:Wp rS,Vals xs its/\∃o n,s.heap.get? a=Gc o/\o.cls=.type "list" /\o.data=.seq its.toArray n:=by
 obtain⟨z,its,n,r,e⟩:=h.ok I.hok
 exact⟨its,r,_,n,e,rfl,rfl⟩
theorem BX.reads(I:Inv X pins σ H s){v:V}{d:D}(h:BX X.K M H v d):∀{u:rS},RelV v u->d.lay=true->∃as,Reads s.heap u d.py as:=
 BX.rec (motive_1:=λv d _=>∀{u:rS},RelV v u->d.lay=true->∃as,Reads s.heap u d.py as) (motive_2:=λvs ds _=>∀{us:Wp rS},Vals vs us->D.N3 ds=true->∃as,ReadsAll s.heap us (D.pys ds) as) (motive_3:=λ_ _ _=>yk)
  (λr _=>by cases r;exact⟨_,.none⟩) (λb _ r _=>by cases r;exact⟨_,.bool b⟩) (λb _ r _=>by obtain⟨t,rfl⟩:=r;exact⟨_,.int b t⟩) (λb _ r _=>by obtain⟨t,rfl⟩:=r;exact⟨_,.str b t⟩) (λ_ _ _ h=>vE h)
  (fun h _ ih _ r hl => by
    cases r
    obtain⟨its,rv,⟨o,e,hc,n,hd⟩,_⟩:=I.tuple h
    obtain⟨as,ra⟩:=ih rv hl
    exact⟨as,.tuple e hc hd ra⟩)
  (fun h _ _ ih _ r hl => by
    cases r
    obtain⟨its,rv,o,n,e,hc,hd⟩:=LK I (.inl h)
    obtain⟨as,ra⟩:=ih rv hl
    exact⟨_,.list e hc hd ra⟩)
  (λ_ _ _ h=>vE h) (λ_ _ _ _ _ _ h=>vE h) (λ_ _ _ h=>vE h)
  (fun r _ => by cases r; exact ⟨_, .nil⟩) (fun {v d vs ds} _ _ ih1 ih2 _ r hl => by
    cases r with
    |cons r1 r2=>
     have hl':(D.lay d && D.N3 ds)=true:=hl
     rw[sA]at hl'
     obtain⟨as,ra⟩:=ih1 r1 hl'.1
     obtain⟨bs,rb⟩:=ih2 r2 hl'.2
     exact⟨_,.cons ra rb⟩) trivial (λ_ _ _ _=>trivial) h
theorem Ae.reads(I:Inv X pins σ H s){vs:Wp V}{ds:Wp D}(h:Ae X.K M H vs ds):∀{us:Wp rS},Vals vs us->D.N3 ds=true->∃as,ReadsAll s.heap us (D.pys ds) as:=
 h.ind (P:=λvs ds=>∀{us:Wp rS},Vals vs us->D.N3 ds=true->∃as,ReadsAll s.heap us (D.pys ds) as) (λr _=>by cases r;exact⟨_,.nil⟩) (λ{v d vs ds} h ih2 _ r hl=>by
  cases r with
  |cons r1 r2=>
   have hl':(D.lay d && D.N3 ds)=true:=hl
   rw[sA]at hl'
   obtain⟨as,ra⟩:=h.reads I r1 hl'.1
   obtain⟨bs,rb⟩:=ih2 r2 hl'.2
   exact⟨_,.cons ra rb⟩)
end
noncomputable def deq(a b:D):sx:=PyData.eqv a.py b.py
noncomputable def KZ(a b:D):sx:=a.lay && b.lay && decide (min a.py.depth b.py.depth<=60)
noncomputable def wEq:Op2:=λa b=>if KZ (fz a) (fz b)=true then Gc (.val (.bl (deq (fz a) (fz b))))else none
noncomputable def wNe:Op2:=λa b=>if KZ (fz a) (fz b)=true then Gc (.val (.bl (!deq (fz a) (fz b))))else none
section
variable{X:Cx}
theorem Sh.reads{pins:Wp (rY×Obj)}{σ:Sg}{H:Hp}{s:rX}{M:Ms}{v:V}{u:rS}{w:Wv}(h:Sh X.K M H v w)(I:Inv X pins σ H s)(r:RelV v u)(hl:(fz w).lay=true):∃as,Reads s.heap u (fz w).py as:=by
 cases w with
 |val d=>exact BX.reads I h r hl
 |own ds=>
  obtain⟨a,xs,rfl,h1,h2⟩:=h
  cases r
  obtain⟨its,rv,o,n,e,hc,hd⟩:=LK I (.inl h1)
  obtain⟨as,ra⟩:=Ae.reads I h2 rv hl
  exact⟨_,.list e hc hd ra⟩
theorem Mh(hu:X.A.units+100<cLine):OpR X (compareOp .Eq) (rOp X.K wEq):=by
 intro pins s σ H x y v u Q I rx ry h
 obtain⟨M,w1,w2,r,e,mo,s1,s2,q⟩:=h
 unfold wEq at e
 split at e
 .rename_i hk
  unfold KZ at hk
  rw[sA,sA]at hk
  cases e
  obtain⟨as,ra⟩:=s1.reads I rx hk.1.1
  obtain⟨bs,rb⟩:=s2.reads I ry hk.1.2
  have hd:=sM hk.2
  exact SeqAt.compareEq_reads ra rb (Jo hk.1.1) (Jo hk.1.2) (by lia) ⟨.bl _,H,I,rfl,q _ _ (.same mo (.bl _))⟩
 .cases e
theorem N7(hu:X.A.units+100<cLine):OpR X (compareOp .NotEq) (rOp X.K wNe):=by
 intro pins s σ H x y v u Q I rx ry h
 obtain⟨M,w1,w2,r,e,mo,s1,s2,q⟩:=h
 unfold wNe at e
 split at e
 .rename_i hk
  unfold KZ at hk
  rw[sA,sA]at hk
  cases e
  obtain⟨as,ra⟩:=s1.reads I rx hk.1.1
  obtain⟨bs,rb⟩:=s2.reads I ry hk.1.2
  have hd:=sM hk.2
  exact SeqAt.compareNe_reads ra rb (Jo hk.1.1) (Jo hk.1.2) (by lia) ⟨.bl _,H,I,rfl,q _ _ (.same mo (.bl _))⟩
 .cases e
noncomputable def wI2(f:Int->Int->rW D):Op2
 | .val (.int i),.val (.int j)=>(f i j).map .val
 |_,_=>none
theorem QP{g:rS->rS->Sem rS}{C:Int->Int->Prop}{h:Int->Int->V}{f:Int->Int->rW D}(o:OpR X g (rI C h))(hf:∀i j d,f i j=Gc d->C i j/\∀K M H,BX K M H (h i j) d):OpR X g (rOp X.K (wI2 f)):=by
 intro pins s σ H x y v u Q I rx ry hh
 obtain⟨M,w1,w2,r,e,mo,s1,s2,q⟩:=hh
 unfold wI2 at e
 split at e
 .obtain rfl:=BX.iv s1
  obtain rfl:=BX.iv s2
  rename_i i j
  cases e1:f i j with
  |none=>rw[e1]at e;cases e
  |some d=>
   rw[e1]at e
   cases e
   obtain⟨c,rd⟩:=hf i j d e1
   exact o pins s σ H _ _ v u Q I rx ry ⟨i,j,rfl,rfl,c,q _ _ (.same mo (rd _ _ _))⟩
 .cases e
theorem LI{g:rS->rS->Sem rS}{h:Int->Int->V}{f:Int->Int->rW D}(o:OpR X g (rI0 h))(hf:∀i j d,f i j=Gc d->∀K M H,BX K M H (h i j) d):OpR X g (rOp X.K (wI2 f)):=by
 intro pins s σ H x y v u Q I rx ry hh
 obtain⟨M,w1,w2,r,e,mo,s1,s2,q⟩:=hh
 unfold wI2 at e
 split at e
 .obtain rfl:=BX.iv s1
  obtain rfl:=BX.iv s2
  rename_i i j
  cases e1:f i j with
  |none=>rw[e1]at e;cases e
  |some d=>
   rw[e1]at e
   cases e
   exact o pins s σ H _ _ v u Q I rx ry ⟨i,j,rfl,rfl,q _ _ (.same mo (hf i j d e1 _ _ _))⟩
 .cases e
noncomputable def NQ:Op2:=wI2 λi j=>Gc (.int (i-j))
noncomputable def Ye:Nat:=2^60000
noncomputable def GH:Nat:=2^8000
noncomputable def Dt(i j:Int):sx:=decide (i.natAbs<2^64)||(decide (j.natAbs<2^64)||(decide (i.natAbs<Ye) && decide (j.natAbs<Ye)))
theorem bc:OpR X (binaryOp .Mult) (rI (λi j=>Dt i j=true) λi j=>.int (i*j)):=by
 intro pins s σ H x y v u Q I rx ry h
 obtain⟨i,j,rfl,rfl,hk,q⟩:=h
 unfold Dt at hk
 rw[uK,uK,sA]at hk
 rcases hk with hk|hk|hk
 .have:=sM hk
  exact YW pins s σ H _ _ v u Q I rx ry ⟨i,j,rfl,rfl,.inl ⟨by lia,by lia⟩,q⟩
 .have:=sM hk
  exact YW pins s σ H _ _ v u Q I rx ry ⟨i,j,rfl,rfl,.inr ⟨by lia,by lia⟩,q⟩
 .have h1:i.natAbs<2^60000:=sM hk.1
  have h2:j.natAbs<2^60000:=sM hk.2
  obtain⟨t1,rfl⟩:=rx
  obtain⟨t2,rfl⟩:=ry
  exact PyProof.Rows.mul_int ⟨.int _,H,I.tok _,⟨_,rfl⟩,q⟩ (PyProof.Rows.mulOk_of_bits (m:=60000) (n:=60000) (zf.mpr h1) (zf.mpr h2) (by decide))
noncomputable def mB:Op2:=wI2 λi j=>if Dt i j=true then Gc (.int (i*j))else none
noncomputable def NC:Op2:=wI2 λi j=>if(decide (0<j) && decide (j.natAbs<GH))=true then Gc (.int (i / j))else none
noncomputable def PQ:Op2:=wI2 λi j=>if 0<j then Gc (.int (i % j))else none
noncomputable def Vv:Op2:=wI2 λi j=>if(decide (0<=j) && decide (j<=1000) && decide (i.natAbs<2^64))=true then Gc (.int (i^j.toNat))else none
noncomputable def wLt:Op2:=wI2 λi j=>Gc (.bl (decide (i<j)))
noncomputable def wLe:Op2:=wI2 λi j=>Gc (.bl (decide (i<=j)))
noncomputable def wGt:Op2:=wI2 λi j=>Gc (.bl (decide (j<i)))
noncomputable def wGe:Op2:=wI2 λi j=>Gc (.bl (decide (j<=i)))
theorem Th:OpR X (binaryOp .Sub) (rOp X.K NQ):=LI gG λi j d e K M H=>by cases e;exact .int _
theorem bw:OpR X (binaryOp .Mult) (rOp X.K mB):=QP bc λi j d e=>by
 split at e
 .rename_i hk
  cases e
  exact⟨hk,λ_ _ _=>.int _⟩
 .cases e
theorem j7:OpR X (binaryOp .FloorDiv) (rOp X.K NC):=QP St.XI λi j d e=>by
 split at e
 .rename_i hk
  rw[sA]at hk
  cases e
  exact⟨⟨sM hk.1,sM hk.2⟩,λ_ _ _=>.int _⟩
 .cases e
theorem nI:OpR X (binaryOp .Mod) (rOp X.K PQ):=QP iJ λi j d e=>by
 split at e
 .rename_i hk
  cases e
  exact⟨hk,λ_ _ _=>.int _⟩
 .cases e
theorem T9:OpR X (binaryOp .Pow) (rOp X.K Vv):=QP fN λi j d e=>by
 split at e
 .rename_i hk
  rw[sA,sA]at hk
  cases e
  have:=sM hk.1.2
  exact⟨⟨sM hk.1.1,by lia,sM hk.2⟩,λ_ _ _=>.int _⟩
 .cases e
theorem Qg:OpR X (compareOp .Lt) (rOp X.K wLt):=LI kW λi j d e K M H=>by cases e;exact .bl _
theorem og:OpR X (compareOp .LtE) (rOp X.K wLe):=LI aO λi j d e K M H=>by cases e;exact .bl _
theorem ZE:OpR X (compareOp .Gt) (rOp X.K wGt):=LI kr λi j d e K M H=>by cases e;exact .bl _
theorem oV:OpR X (compareOp .GtE) (rOp X.K wGe):=LI kq λi j d e K M H=>by cases e;exact .bl _
noncomputable def asL:Wv->rW (Wp D)
 | .own ds=>Gc ds
 | .val (.lst ds)=>Gc ds
 |_=>none
noncomputable def asT:Wv->rW (Wp D)
 | .val (.tup ds)=>Gc ds
 |_=>none
noncomputable def asC:Wv->rW (Wp D)
 | .val (.scr ns)=>Gc (ns.map .int)
 |_=>none
noncomputable def asS(w:Wv):rW (Wp D):=(asL w).or ((asT w).or (asC w))
section
variable{K:W1}{M:Ms}{H:Hp}{v:V}{w:Wv}{ds:Wp D}
theorem Sh.l(h:Sh K M H v w)(e:asL w=Gc ds):∃a xs,v=.ref a/\H a=Gc (.lst xs)/\Ae K M H xs ds:=by
 cases w with
 |own es=>cases e;obtain⟨a,xs,rfl,h1,h2⟩:=h;exact⟨a,xs,rfl,h1,h2⟩
 |val d=>
  cases d<;>first|(cases e;done)|skip
  cases e
  cases h with
  |lst h n r=>exact⟨_,_,rfl,h,r⟩
theorem Sh.t(h:Sh K M H v w)(e:asT w=Gc ds):∃a xs,v=.ref a/\SqT K H a xs/\Ae K M H xs ds:=by
 cases w with
 |own es=>cases e
 |val d=>
  cases d<;>first|(cases e;done)|skip
  cases e
  cases h with
  |tup h r=>exact⟨_,_,rfl,h,r⟩
theorem NJ:∀{ns:Wp Int},Ae K M H (ns.map V.int) (ns.map D.int)
 | []=>.nil
 |n::ns=>.cons (.int n) NJ
theorem Sh.c(h:Sh K M H v w)(e:asC w=Gc ds):∃a xs,v=.ref a/\SqL K H a xs/\Ae K M H xs ds:=by
 cases w with
 |own es=>cases e
 |val d=>
  cases d<;>first|(cases e;done)|skip
  cases e
  cases h with
  |scr h=>
   refine⟨_,_,rfl,?_,NJ⟩
   rcases h with h|h
   .exact .inl h.1
   .exact .inr h
theorem Sh.s(h:Sh K M H v w)(e:asS w=Gc ds):∃a xs,v=.ref a/\(SqL K H a xs\/SqT K H a xs)/\Ae K M H xs ds:=by
 unfold asS at e
 cases e1:asL w with
 |some es=>
  rw[e1]at e
  cases e
  obtain⟨a,xs,h1,h2,h3⟩:=h.l e1
  exact⟨a,xs,h1,.inl (.of h2),h3⟩
 |none=>
  rw[e1]at e
  cases e2:asT w with
  |some es=>
   rw[e2]at e
   cases e
   obtain⟨a,xs,h1,h2,h3⟩:=h.t e2
   exact⟨a,xs,h1,.inr h2,h3⟩
  |none=>
   rw[e2]at e
   obtain⟨a,xs,h1,h2,h3⟩:=h.c e
   exact⟨a,xs,h1,.inl h2,h3⟩
end
noncomputable def F2:Op1:=λw=>match w with
 | .val (.str z)=>if z.length<=sizeLine then Gc (.val (.int z.length))else none
 |_=>(asS w).map λds=>.val (.int ds.length)
theorem EC:EH X (.builtin "len") (rN X.K (o1 F2)):=by
 intro pins s σ H xs us Q I r h
 obtain⟨M,ws,w,e,mo,sh,q⟩:=h
 cases sh with
 |nil=>cases e
 |cons h1 t=>
  cases t with
  |cons h2 t=>cases e
  |nil=>
   rename_i v w1
   have e':F2 w1=Gc w:=e
   unfold F2 at e'
   split at e'
   .split at e'
    .rename_i z hz
     cases e'
     cases h1
     exact OT pins s σ H _ us Q I r ⟨z,rfl,hz,q _ _ (.same mo (.int _))⟩
    .cases e'
   .cases e1:asS w1 with
    |none=>rw[e1]at e';cases e'
    |some ds=>
     rw[e1]at e'
     cases e'
     obtain⟨a,ys,rfl,h3,h4⟩:=h1.s e1
     refine O6 pins s σ H _ us Q I r ⟨a,ys,rfl,h3,q _ _ ?_⟩
     rw[h4.length]
     exact .same mo (.int _)
noncomputable def wIx:Op2:=λa b=>match a,b with
 |a,.val (.int i)=>(asS a).bind λds=>(atI ds i).map .val
 |_,_=>none
theorem bf{K:W1}{M:Ms}{H:Hp}{xs:Wp V}{ds:Wp D}{i:Int}{d:D}(h:Ae K M H xs ds)(e:atI ds i=Gc d):∃x,atI xs i=Gc x/\BX K M H x d:=by
 unfold atI at e⊢
 rw[h.length]
 cases e1:ixN ds.length i with
 |none=>rw[e1]at e;cases e
 |some j=>
  rw[e1]at e
  exact h.get e
theorem Iq:IxR X (rOp X.K wIx):=by
 intro value slice pins s σ H x y v u Q I rx ry h hs
 obtain⟨M,w1,w2,r,e,mo,s1,s2,q⟩:=h
 unfold wIx at e
 split at e
 .rename_i i
  cases e1:asS w1 with
  |none=>rw[e1]at e;cases e
  |some ds=>
   rw[e1]at e
   simp only[yx]at e
   cases e2:atI ds i with
   |none=>rw[e2]at e;cases e
   |some d=>
    rw[e2]at e
    cases e
    obtain rfl:=BX.iv s2
    obtain⟨a,ys,rfl,h3,h4⟩:=s1.s e1
    obtain⟨z,h5,h6⟩:=bf h4 e2
    rcases h3 with h3|h3
    .exact aj value slice pins s σ H _ _ v u Q I rx ry ⟨a,ys,i,z,rfl,rfl,h3,h5,q _ _ (.same mo h6)⟩ hs
    .exact eG value slice pins s σ H _ _ v u Q I rx ry ⟨a,ys,i,z,rfl,rfl,h3,h5,q _ _ (.same mo h6)⟩ hs
 .cases e
end
section
variable{X:Cx}
noncomputable def asI:Wv->rW Int
 | .val (.int i)=>Gc i
 |_=>none
noncomputable def asX:Wv->rW Str
 | .val (.str x)=>Gc x
 |_=>none
theorem O1{w:Wv}{i:Int}(e:asI w=Gc i):w=.val (.int i):=by
 cases w with
 |own=>cases e
 |val d=>cases d with
  |int=>cases e;rfl
  |_=>cases e
theorem ZH{w:Wv}{i:Str}(e:asX w=Gc i):w=.val (.str i):=by
 cases w with
 |own=>cases e
 |val d=>cases d with
  |str=>cases e;rfl
  |_=>cases e
theorem Qf{w:Wv}{i:Wp D}(e:asT w=Gc i):w=.val (.tup i):=by
 cases w with
 |own=>cases e
 |val d=>cases d with
  |tup=>cases e;rfl
  |_=>cases e
noncomputable def Rz{α β:Type}(f:Wv->rW α)(g:α->α->rW β)(h:rW β)(a b:Wv):rW β:=match f a with
 |none=>h
 |some x=>match f b with
  |none=>h
  |some y=>g x y
theorem M9{α β:Type}{f:Wv->rW α}{g:α->α->rW β}{h:rW β}{a b:Wv}{r:β}(e:Rz f g h a b=Gc r):h=Gc r\/∃x y,f a=Gc x/\f b=Gc y/\g x y=Gc r:=by
 unfold Rz at e
 cases e1:f a with
 |none=>rw[e1]at e;exact .inl e
 |some x=>
  rw[e1]at e
  cases e2:f b with
  |none=>rw[e2]at e;exact .inl e
  |some y=>rw[e2]at e;exact .inr ⟨x,y,rfl,rfl,e⟩
noncomputable def CP:Op2:=λa b=>Rz asI (λi j=>Gc (.val (.int (i+j)))) (Rz asX (λx y=>if x.length+y.length<=sizeLine then Gc (.val (.str (x++y)))else none) (Rz asT (λxs ys=>if xs.length+ys.length<=sizeLine then Gc (.val (.tup (xs++ys)))else none)
 (Rz asL (λxs ys=>if xs.length+ys.length<=sizeLine then Gc (.own (xs++ys))else none) none a b) a b) a b) a b
theorem RU{α:Type}{p:Prop} [Decidable p] {x:α}{r:α}(e:(if p then Gc x else none)=Gc r):p/\x=r:=by
 by_cases h:p
 .rw[sZ h]at e;cases e;exact⟨h,rfl⟩
 .rw[sg h]at e;cases e
theorem Dm:OpR X (binaryOp .Add) (rOp X.K CP):=by
 intro pins s σ H x y v u Q I rx ry h
 obtain⟨M,w1,w2,r,e,mo,s1,s2,q⟩:=h
 rcases M9 e with e|⟨i,j,e1,e2,e⟩
 .rcases M9 e with e|⟨i,j,e1,e2,e⟩
  .rcases M9 e with e|⟨xs,ys,e1,e2,e⟩
   .rcases M9 e with e|⟨xs,ys,e1,e2,e⟩
    .cases e
    .obtain⟨hz,rfl⟩:=RU e
     obtain⟨a,xs',rfl,h1,r1⟩:=s1.l e1
     obtain⟨b,ys',rfl,h2,r2⟩:=s2.l e2
     have l1:=r1.length
     have l2:=r2.length
     exact gO pins s σ H _ _ v u Q I rx ry ⟨a,b,xs',ys',rfl,rfl,h1,h2,by lia,λp hp=>q _ _ (.lst mo hp (r1.append r2))⟩
   .obtain rfl:=Qf e1
    obtain rfl:=Qf e2
    obtain⟨hz,rfl⟩:=RU e
    obtain⟨a,xs',rfl,h1,r1⟩:=BX.iv s1
    obtain⟨b,ys',rfl,h2,r2⟩:=BX.iv s2
    have l1:=r1.length
    have l2:=r2.length
    by_cases hx:xs'=[]
    .subst hx
     cases r1
     refine St.Zl pins s σ H _ _ v u Q I rx ry ⟨_,_,_,rfl,rfl,h1,h2,q _ _ (.same mo ?_)⟩
     exact .tup h2 r2
    .refine Zw pins s σ H _ _ v u Q I rx ry ⟨_,_,_,_,rfl,rfl,h1,h2,hx,by lia,λz=>?_,λ_ p hp=>q _ _ (.tup mo hp (r1.append r2))⟩
     subst z
     cases r2
     rw[uB]at q
     exact q _ _ (.same mo (.tup h1 r1))
  .obtain rfl:=ZH e1
   obtain rfl:=ZH e2
   obtain⟨hz,rfl⟩:=RU e
   obtain rfl:=BX.iv s1
   obtain rfl:=BX.iv s2
   exact Ra pins s σ H _ _ v u Q I rx ry ⟨_,_,rfl,rfl,hz,q _ _ (.same mo (.str _))⟩
 .obtain rfl:=O1 e1
  obtain rfl:=O1 e2
  cases e
  obtain rfl:=BX.iv s1
  obtain rfl:=BX.iv s2
  exact iT pins s σ H _ _ v u Q I rx ry ⟨_,_,rfl,rfl,q _ _ (.same mo (.int _))⟩
noncomputable def d9:Op2:=λa b=>(asI b).bind λk=>match asI a with
 |some i=>if Dt i k=true then Gc (.val (.int (i*k)))else none
 |none=>match asT a with
  |some xs=>if(!xs.isEmpty && decide (1<=k) && decide (xs.length*k.toNat<=sizeLine))=true then Gc (.val (.tup (sH k.toNat xs).flatten))else none
  |none=>(asL a).bind λxs=>if(decide (k<2^63) && decide (-(2^63)<=k) && decide (xs.length*k.toNat<=sizeLine))=true then Gc (.own (sH k.toNat xs).flatten)else none
theorem Ae.rep{K:W1}{M:Ms}{H:Hp}{xs:Wp V}{ds:Wp D}(h:Ae K M H xs ds):∀n:Nat,Ae K M H (sH n xs).flatten (sH n ds).flatten
 |0=>.nil
 |n+1=>by
  rw[uh,uh,vg,vg]
  exact h.append (Ae.rep h n)
theorem cV:OpR X (binaryOp .Mult) (rOp X.K d9):=by
 intro pins s σ H x y v u Q I rx ry h
 obtain⟨M,w1,w2,r,e,mo,s1,s2,q⟩:=h
 obtain⟨k,e2,e0⟩:=Ak e
 obtain rfl:=O1 e2
 clear e e2
 cases e1:asI w1 with
 |some i=>
  obtain rfl:=O1 e1
  clear e1
  refine bw pins s σ H x y v u Q I rx ry ⟨M,_,_,r,?_,mo,s1,s2,q⟩
  obtain⟨hk,rfl⟩:=RU e0
  show AAL Wv.val (if Dt i k=true then Gc (D.int (i*k))else none)=Gc _
  rw[sZ hk]
  rfl
 |none=>
  rw[e1]at e0
  dsimp only at e0
  obtain rfl:=BX.iv s2
  cases e3:asT w1 with
  |some xs=>
   rw[e3]at e0
   obtain rfl:=Qf e3
   obtain⟨hk,rfl⟩:=RU e0
   rw[sA,sA]at hk
   obtain⟨a,ys,rfl,h1,r1⟩:=BX.iv s1
   have l1:=r1.length
   have z:=sM hk.2
   have hk1:=sM hk.1.2
   have hne:ys≠[]:=λzz=>by
    subst zz
    cases r1
    exact absurd hk.1.1 (by decide)
   refine bR pins s σ H _ _ v u Q I rx ry ⟨a,ys,k,rfl,rfl,h1,hne,hk1,by rw[l1];exact z,λe1=>?_,λ_ p hp=>q _ _ (.tup mo hp (r1.rep _))⟩
   subst e1
   have:(sH (1:Int).toNat xs).flatten=xs:=by simp
   rw[this]at q
   exact q _ _ (.same mo (.tup h1 r1))
  |none=>
   rw[e3]at e0
   obtain⟨xs,e4,e0⟩:=Ak e0
   obtain⟨hk,rfl⟩:=RU e0
   rw[sA,sA]at hk
   obtain⟨a,xs',rfl,h1,r1⟩:=s1.l e4
   have l1:=r1.length
   have z:=sM hk.2
   exact eE pins s σ H _ _ v u Q I rx ry ⟨a,k,xs',rfl,rfl,h1,sM hk.1.2,sM hk.1.1,by rw[l1];exact z,λp hp=>q _ _ (.lst mo hp (r1.rep _))⟩
noncomputable def NA:Op1
 | .val (.int i)=>Gc (.val (.int (-i)))
 |_=>none
theorem LH:UnR X (unaryOp .USub) (rUn X.K NA):=by
 intro pins s σ H x v Q I rx h
 obtain⟨M,w,r,e,mo,s1,q⟩:=h
 unfold NA at e
 split at e
 .cases e
  obtain rfl:=BX.iv s1
  exact Yh pins s σ H _ v Q I rx ⟨_,rfl,q _ _ (.same mo (.int _))⟩
 .cases e
noncomputable def F7:D->sx
 | .non=>true| .bl _=>true| .int _=>true| .str _=>true
 |_=>false
theorem Sh.flat{K:W1}{M:Ms}{H:Hp}{v:V}{w:Wv}(h:Sh K M H v w)(f:F7 (fz w)=true):BX K M H v (fz w):=by
 cases w with
 |val d=>exact h
 |own ds=>cases f
noncomputable def inD(x:D)(xs:Wp D):sx:=xs.any λy=>deq y x
theorem Q0{K:W1}{M:Ms}{H:Hp}{v:V}{d:D}(h:BX K M H v d)(f:F7 d=true):LX v=true:=by
 cases h<;>first|rfl|cases f
theorem Za{K:W1}{M:Ms}{H:Hp}{v u:V}{d e:D}(h:BX K M H v d)(g:BX K M H u e)(f:F7 d=true)(f':F7 e=true):eqV v u=deq d e:=by
 cases h<;>first|(cases f;done)|skip
 all_goals (cases g<;>first|(cases f';done)|rfl)
theorem Vg{K:W1}{M:Ms}{H:Hp}{vs:Wp V}{ds:Wp D}(h:Ae K M H vs ds):ds.all F7=true->vs.all LX=true:=h.ind (P:=λvs ds=>ds.all F7=true->vs.all LX=true) (λ_=>rfl) λh t f=>by
 rw[vm,sA]at f⊢
 exact⟨Q0 h f.1,t f.2⟩
theorem ZT{K:W1}{M:Ms}{H:Hp}{u:V}{e:D}(g:BX K M H u e)(f':F7 e=true){vs:Wp V}{ds:Wp D}(h:Ae K M H vs ds):ds.all F7=true->inV u vs=inD e ds:=h.ind (P:=λvs ds=>ds.all F7=true->inV u vs=inD e ds) (λ_=>rfl) λh t f=>by
 rw[vm,sA]at f
 have ih:=t f.2
 unfold inV inD at ih⊢
 rw[vR,vR,ih,Za h g f.1 f']
noncomputable def wIn(neg:sx):Op2:=λa b=>(asS b).bind λds=>if(F7 (fz a) && ds.all F7)=true then Gc (.val (.bl (if neg then !inD (fz a) ds else inD (fz a) ds)))else none
theorem Y1{M:Ms}{H:Hp}{x y:V}{w1 w2 r:Wv}{neg:sx}{Q:VK}(e:wIn neg w1 w2=Gc r)(mo:MOk M H)(s1:Sh X.K M H x w1)(s2:Sh X.K M H y w2)(q:∀v H',Nw X.K M H H' v r->Q v H'):rIn X.K neg x y H Q:=by
 unfold wIn at e
 cases e1:asS w2 with
 |none=>rw[e1]at e;cases e
 |some ds=>
  rw[e1]at e
  simp only[yx]at e
  split at e
  .rename_i hk
   rw[sA]at hk
   cases e
   obtain⟨a,xs,rfl,h3,h4⟩:=s2.s e1
   have g1:=s1.flat hk.1
   refine⟨a,xs,rfl,h3,Q0 g1 hk.1,Vg h4 hk.2,?_⟩
   rw[ZT g1 hk.1 h4 hk.2]
   exact q _ _ (.same mo (.bl _))
  .cases e
theorem pA:OpR X (compareOp .In) (rOp X.K (wIn false)):=by
 intro pins s σ H x y v u Q I rx ry h
 obtain⟨M,w1,w2,r,e,mo,s1,s2,q⟩:=h
 exact So pins s σ H _ _ v u Q I rx ry (Y1 e mo s1 s2 q)
theorem Vm:OpR X (compareOp .NotIn) (rOp X.K (wIn true)):=by
 intro pins s σ H x y v u Q I rx ry h
 obtain⟨M,w1,w2,r,e,mo,s1,s2,q⟩:=h
 exact OP pins s σ H _ _ v u Q I rx ry (Y1 e mo s1 s2 q)
noncomputable def isN:Wv->sx
 | .val .non=>true
 |_=>false
noncomputable def jG(neg:sx):Op2:=λa b=>match b with
 | .val .non=>Gc (.val (.bl (if neg then !isN a else isN a)))
 |_=>none
theorem cG{K:W1}{M:Ms}{H:Hp}{x:V}{w:Wv}(s:Sh K M H x w):decide (x=.non)=isN w:=by
 cases w with
 |own ds=>obtain⟨a,xs,rfl,_⟩:=s;rfl
 |val d=>cases s<;>rfl
theorem jN:OpR X (compareOp .IsNot) (rOp X.K (jG true)):=by
 intro pins s σ H x y v u Q I rx ry h
 obtain⟨M,w1,w2,r,e,mo,s1,s2,q⟩:=h
 unfold jG at e
 split at e
 .cases e
  obtain rfl:=BX.iv s2
  refine Zo pins s σ H _ _ v u Q I rx ry ⟨rfl,?_⟩
  rw[cG s1]
  exact q _ _ (.same mo (.bl _))
 .cases e
theorem Ih{K:W1}{M:Ms}{H:Hp}{xs:Wp V}{ws:Wp Wv}{f:Op1}{r:Wv}(h:Shs K M H xs ws)(e:o1 f ws=Gc r):∃v w,xs=[v]/\ws=[w]/\Sh K M H v w/\f w=Gc r:=by
 cases h with
 |nil=>cases e
 |cons h1 t=>
  cases t with
  |cons h2 t=>cases e
  |nil=>exact⟨_,_,rfl,rfl,h1,e⟩
theorem VQ{K:W1}{M:Ms}{H:Hp}{xs:Wp V}{ws:Wp Wv}{f:Op2}{r:Wv}(h:Shs K M H xs ws)(e:o2 f ws=Gc r):∃v w v' w',xs=[v,v']/\ws=[w,w']/\Sh K M H v w/\Sh K M H v' w'/\f w w'=Gc r:=by
 cases h with
 |nil=>cases e
 |cons h1 t=>
  cases t with
  |nil=>cases e
  |cons h2 t=>
   cases t with
   |cons h3 t=>cases e
   |nil=>exact⟨_,_,_,_,rfl,rfl,h1,h2,e⟩
noncomputable def cm:Op1
 | .val (.int i)=>Gc (.val (.int (if i<0 then-i else i)))
 |_=>none
theorem fE:EH X (.builtin "abs") (rN X.K (o1 cm)):=by
 intro pins s σ H xs us Q I r h
 obtain⟨M,ws,w,e,mo,sh,q⟩:=h
 obtain⟨v,w1,rfl,rfl,s1,e1⟩:=Ih sh e
 unfold cm at e1
 split at e1
 .cases e1
  obtain rfl:=BX.iv s1
  exact Xx pins s σ H _ us Q I r ⟨_,rfl,q _ _ (.same mo (.int _))⟩
 .cases e1
noncomputable def js:Op2:=wI2 λi j=>Gc (.int (if j<i then j else i))
theorem Xa{f:Int->Int->rW D}{a b r:Wv}(e:wI2 f a b=Gc r):∃i j d,a=.val (.int i)/\b=.val (.int j)/\f i j=Gc d/\r=.val d:=by
 unfold wI2 at e
 split at e
 .rename_i i j
  cases e1:f i j with
  |none=>rw[e1]at e;cases e
  |some d=>rw[e1]at e;cases e;exact⟨i,j,d,rfl,rfl,e1,rfl⟩
 .cases e
theorem fY(hc:X.calm=true):EH X (.builtin "min") (rN X.K (o2 js)):=by
 intro pins s σ H xs us Q I r h
 obtain⟨M,ws,w,e,mo,sh,q⟩:=h
 obtain⟨v,w1,v',w2,rfl,rfl,s1,s2,e1⟩:=VQ sh e
 obtain⟨i,j,d,rfl,rfl,e2,rfl⟩:=Xa e1
 cases e2
 obtain rfl:=BX.iv s1
 obtain rfl:=BX.iv s2
 exact Ta hc pins s σ H _ us Q I r ⟨_,_,rfl,q _ _ (.same mo (.int _))⟩
noncomputable def Fi:Op1:=λw=>(asS w).map λds=>.val (.tup ds)
theorem QA:EH X (.type "tuple") (rN X.K (o1 Fi)):=by
 intro pins s σ H xs us Q I r h
 obtain⟨M,ws,w,e,mo,sh,q⟩:=h
 obtain⟨v,w1,rfl,rfl,s1,e1⟩:=Ih sh e
 unfold Fi at e1
 cases e2:asS w1 with
 |none=>rw[e2]at e1;cases e1
 |some ds=>
  rw[e2]at e1
  cases e1
  obtain⟨a,ys,rfl,h3,h4⟩:=s1.s e2
  refine ND pins s σ H _ us Q I r ⟨a,ys,rfl,?_⟩
  rcases h3 with h3|h3
  .exact .inl ⟨h3,λl hl=>q _ _ (.tup mo hl h4)⟩
  .exact .inr ⟨h3,q _ _ (.same mo (.tup h3 h4))⟩
noncomputable def Lq:Op1:=λw=>(asS w).map λds=>.own ds
theorem Mw:EH X (.type "list") (rN X.K (o1 Lq)):=by
 intro pins s σ H xs us Q I r h
 obtain⟨M,ws,w,e,mo,sh,q⟩:=h
 obtain⟨v,w1,rfl,rfl,s1,e1⟩:=Ih sh e
 unfold Lq at e1
 cases e2:asS w1 with
 |none=>rw[e2]at e1;cases e1
 |some ds=>
  rw[e2]at e1
  cases e1
  obtain⟨a,ys,rfl,h3,h4⟩:=s1.s e2
  exact PH pins s σ H _ us Q I r ⟨a,ys,rfl,h3,λl hl=>q _ _ (.lst mo hl h4)⟩
noncomputable def WV:Op1
 | .val (.int i)=>Gc (.val (.int i))
 | .val (.bl b)=>Gc (.val (.int (if b then 1 else 0)))
 |_=>none
theorem VX:EH X (.type "int") (rN X.K (o1 WV)):=by
 intro pins s σ H xs us Q I r h
 obtain⟨M,ws,w,e,mo,sh,q⟩:=h
 obtain⟨v,w1,rfl,rfl,s1,e1⟩:=Ih sh e
 unfold WV at e1
 split at e1
 .cases e1
  obtain rfl:=BX.iv s1
  exact PK pins s σ H _ us Q I r (.inl ⟨_,rfl,q _ _ (.same mo (.int _))⟩)
 .cases e1
  obtain rfl:=BX.iv s1
  exact PK pins s σ H _ us Q I r (.inr ⟨_,rfl,q _ _ (.same mo (.int _))⟩)
 .cases e1
noncomputable def iR:Op1
 | .val (.int i)=>if i.natAbs.log2<1920 then Gc (.val (.str (toString i)))else none
 |_=>none
theorem Uu:EH X (.type "str") (rN X.K (o1 iR)):=by
 intro pins s σ H xs us Q I r h
 obtain⟨M,ws,w,e,mo,sh,q⟩:=h
 obtain⟨v,w1,rfl,rfl,s1,e1⟩:=Ih sh e
 unfold iR at e1
 split at e1
 .split at e1
  .cases e1
   obtain rfl:=BX.iv s1
   exact Oj pins s σ H _ us Q I r ⟨_,rfl,by assumption,q _ _ (.same mo (.str _))⟩
  .cases e1
 .cases e1
noncomputable def blD:D->rW sx
 | .bl b=>Gc b
 |_=>none
noncomputable def bls(ds:Wp D):rW (Wp sx):=ds.mapM blD
theorem Tx{K:W1}{M:Ms}{H:Hp}:∀{vs:Wp V} {ds:Wp D} {bs:Wp sx},Ae K M H vs ds->bls ds=Gc bs->vs=bs.map V.bl
 |_,_,bs,.nil,e=>by cases e;rfl
 |_,_,bs,.cons (d:=d) (ds:=ds) h t,e=>by
  unfold bls at e
  rw[xJ]at e
  cases e1:blD d with
  |none=>rw[e1]at e;cases e
  |some b=>
   rw[e1]at e
   cases e2:ds.mapM blD with
   |none=>rw[e2]at e;cases e
   |some cs=>
    rw[e2]at e
    cases e
    have hd:d=.bl b:=by
     cases d<;>first|(cases e1;done)|skip
     cases e1;rfl
    subst hd
    cases h
    rw[sV,<-Tx t e2]
noncomputable def UP:Op1:=λw=>(asL w).bind λds=>(bls ds).map λbs=>.val (.bl (bs.all id))
theorem UA(hc:X.calm=true):EH X (.builtin "all") (rN X.K (o1 UP)):=by
 intro pins s σ H xs us Q I r h
 obtain⟨M,ws,w,e,mo,sh,q⟩:=h
 obtain⟨v,w1,rfl,rfl,s1,e1⟩:=Ih sh e
 unfold UP at e1
 cases e2:asL w1 with
 |none=>rw[e2]at e1;cases e1
 |some ds=>
  rw[e2]at e1
  simp only[yx]at e1
  cases e3:bls ds with
  |none=>rw[e3]at e1;cases e1
  |some bs=>
   rw[e3]at e1
   cases e1
   obtain⟨a,ys,rfl,h3,h4⟩:=s1.l e2
   exact St.UW hc pins s σ H _ us Q I r ⟨a,bs,rfl,by rw[<-Tx h4 e3];exact .of h3,q _ _ (.same mo (.bl _))⟩
noncomputable def kdW:Wv->rW St.Kd
 | .own _=>Gc .lst
 | .val .non=>Gc .non| .val (.bl _)=>Gc .bl| .val (.int _)=>Gc .int| .val (.str _)=>Gc .str| .val (.lst _)=>Gc .lst| .val (.dct _)=>Gc .dct| .val (.tup _)=>Gc .tup
 | .val (.ty _)=>none| .val (.scr _)=>none| .val (.ref _)=>none
end
section
variable{X:Cx}
theorem Wn{K:W1}(k:St.Kd):vT K (.type k.ty) (.type "list")=Gc (k.isA "list"):=by
 cases k<;>rfl
noncomputable def OC(T:vB):sx:=T== "int" ||T== "bool" ||T== "tuple" ||T== "str" ||T== "list"
theorem iL{K:W1}{T:vB}(h:OC T=true)(k:St.Kd):vT K (.type k.ty) (.type T)=Gc (k.isA T):=by
 unfold OC at h
 simp only[uK,vC]at h
 rcases h with(((rfl|rfl)|rfl)|rfl)|rfl
 .exact St.bx k
 .exact St.WU k
 .exact St.kit_tuple k
 .exact St.Zy k
 .exact Wn k
noncomputable def Lc:Op2:=λa t=>match t with
 | .val (.ty T)=>if OC T=true then(kdW a).map λk=>.val (.bl (k.isA T))else none
 |_=>none
theorem GG:EH X (.builtin "isinstance") (rN X.K (o2 Lc)):=by
 intro pins s σ H xs us Q I r h
 obtain⟨M,ws,w,e,mo,sh,q⟩:=h
 obtain⟨v,w1,v',w2,rfl,rfl,s1,s2,e1⟩:=VQ sh e
 unfold Lc at e1
 split at e1
 .rename_i T
  split at e1
  .rename_i hT
   cases e2:kdW w1 with
   |none=>rw[e2]at e1;cases e1
   |some k=>
    rw[e2]at e1
    cases e1
    obtain rfl:=BX.iv s2
    obtain⟨u1,u2,rfl,r1,r2⟩:=r.two
    cases (show u2=yF T from r2)
    have fin:∀tk,EP X pins σ Q (.bool (k.isA T)) {s with toks:=tk}:=λtk=>⟨.bl _,H,I.tok tk,rfl,q _ _ (.same mo (.bl _))⟩
    have kk:=iL (K:=X.K) hT k
    cases w1 with
    |own ds=>
     cases e2
     obtain⟨a,ys,rfl,h1,_⟩:=s1
     exact FH I r1 (.lst h1) kk fin
    |val d=>
     have s1':BX X.K M H v d:=s1
     cases s1' with
     |non=>cases e2;exact FH I r1 .non kk fin
     |bl b=>cases e2;exact FH I r1 (.bl b) kk fin
     |int b=>cases e2;exact FH I r1 (.int b) kk fin
     |str b=>cases e2;exact FH I r1 (.str b) kk fin
     |ty b=>cases e2
     |scr h=>cases e2
     |lst h n rr=>cases e2;exact FH I r1 (.lst h) kk fin
     |dct h n rr=>cases e2;exact FH I r1 (.dK h) kk fin
     |ref h=>cases e2
     |tup h rr=>
      cases e2
      rename_i a ys ds
      cases (show u1=si a from r1)
      obtain⟨its,_,⟨o,h1,h2,_⟩,_⟩:=I.tuple h
      exact uV AAE I.kIn ⟨o,h1,h2⟩ kk (λz=>nomatch z) fin
  .cases e1
 .cases e1
noncomputable def Az(fs:Wp Ev):Ev:=λE S=>(evs fs E S).bind λr=>if r.1.length<=sizeLine then Gc (.tup r.1,r.2)else none
noncomputable def X9(c:sx)(fs:Wp Ev):Ev:=λE S=>(evs fs E S).bind λr=>if r.1.length<=sizeLine then fin c (.own r.1) r.2 else none
abbrev G3:=X9 false
abbrev Jd:=X9 true
theorem Ap{es:Wp sW}{fs:Wp Ev}{k:Nat}{pos:Pos}(h:DEs X es fs):DE X (.Tuple es k pos) (Az fs):=⟨BA (Yx h.pe) λσ H Q z=>by
 obtain⟨M,E,S,d,S',e,r,st,q⟩:=z
 obtain⟨⟨ds,S1⟩,e1,e⟩:=Ak e
 dsimp only at e
 split at e
 .cases e
  refine EU e1 r st λvs H1 M1 g1 st1 d1=>⟨by rw[d1.length];assumption,λp hp=>?_⟩
  have n:=Nw.tup st1.mo hp d1
  exact q _ _ M1 (g1.trans (.grow st1.mo n.grow)) (st1.grow n.grow) n.rel
 .cases e⟩
theorem Hv{c:sx}{es:Wp sW}{fs:Wp Ev}{pos:Pos}(h:DEs X es fs):DE X (.List es pos) (X9 c fs):=⟨BA (iA h.pe) λσ H Q z=>by
 obtain⟨M,E,S,d,S',e,r,st,q⟩:=z
 obtain⟨⟨ds,S1⟩,e1,e⟩:=Ak e
 dsimp only at e
 split at e
 .refine EU e1 r st λvs H1 M1 g1 st1 d1=>⟨by rw[d1.length];assumption,λp hp=>?_⟩
  obtain⟨M2,g2,st2,d2⟩:=(Nw.lst st1.mo hp d1).fin st1 e
  exact q _ _ M2 (g1.trans g2) st2 d2
 .cases e⟩
noncomputable def D2(f g:Ev):Ev:=λE S=>(f E S).bind λr=>match r.1 with
 | .bl true=>g E r.2
 | .bl false=>Gc (.bl false,r.2)
 |_=>none
noncomputable def eOr(f g:Ev):Ev:=λE S=>(f E S).bind λr=>match r.1 with
 | .bl false=>g E r.2
 | .bl true=>Gc (.bl true,r.2)
 |_=>none
noncomputable def Di(f:Ev):Ev:=λE S=>(f E S).bind λr=>match r.1 with
 | .bl b=>Gc (.bl (!b),r.2)
 |_=>none
theorem Mn{K:W1}{M:Ms}{H:Hp}{v:V}{b:sx}(h:BX K M H v (.bl b)):v=.bl b:=by cases h;rfl
variable{a b c:sW}{rest:Wp sW}{f g h:Ev}{pos:Pos}
theorem Yv{op:BoolOp}(h:DE X a f):DE X (.BoolOp op [a] pos) f:=⟨dH h.pe⟩
theorem fC(ha:DE X a f)(hb:DE X (.BoolOp .And (b::rest) pos) g):DE X (.BoolOp .And (a::b::rest) pos) (D2 f g):=⟨BA (iB ha.pe hb.pe) λσ H Q z=>by
 obtain⟨M,E,S,d,S',e,r,st,q⟩:=z
 obtain⟨⟨d1,S1⟩,e1,e⟩:=Ak e
 dsimp only at e
 refine⟨M,E,S,d1,S1,e1,r,st,λv H1 M1 g1 st1 r1=>?_⟩
 split at e
 .cases Mn r1
  refine⟨_,rfl,?_⟩
  refine aQ ?_
  exact⟨M1,E,S1,d,S',e,r.step g1.st,st1,λv H2 M2 g2 st2 r2=>q _ _ M2 (g1.trans g2) st2 r2⟩
 .cases e
  cases Mn r1
  refine⟨_,rfl,?_⟩
  refine Z4 ?_
  exact q _ _ M1 g1 st1 r1
 .cases e⟩
theorem mX(ha:DE X a f)(hb:DE X (.BoolOp .Or (b::rest) pos) g):DE X (.BoolOp .Or (a::b::rest) pos) (eOr f g):=⟨BA (mJ ha.pe hb.pe) λσ H Q z=>by
 obtain⟨M,E,S,d,S',e,r,st,q⟩:=z
 obtain⟨⟨d1,S1⟩,e1,e⟩:=Ak e
 dsimp only at e
 refine⟨M,E,S,d1,S1,e1,r,st,λv H1 M1 g1 st1 r1=>?_⟩
 split at e
 .cases Mn r1
  refine⟨_,rfl,?_⟩
  refine Z4 ?_
  exact⟨M1,E,S1,d,S',e,r.step g1.st,st1,λv H2 M2 g2 st2 r2=>q _ _ M2 (g1.trans g2) st2 r2⟩
 .cases e
  cases Mn r1
  refine⟨_,rfl,?_⟩
  refine aQ ?_
  exact q _ _ M1 g1 st1 r1
 .cases e⟩
theorem ni(ha:DE X a f):DE X (.UnaryOp .Not a pos) (Di f):=⟨BA (fM ha.pe) λσ H Q z=>by
 obtain⟨M,E,S,d,S',e,r,st,q⟩:=z
 obtain⟨⟨d1,S1⟩,e1,e⟩:=Ak e
 dsimp only at e
 split at e
 .cases e
  refine⟨M,E,S,_,_,e1,r,st,λv H1 M1 g1 st1 r1=>?_⟩
  cases Mn r1
  exact⟨_,rfl,q _ _ M1 g1 st1 (.bl _)⟩
 .cases e⟩
inductive tDT(K:W1)(f:Ev)(σ:Sg)(H:Hp)(Q:sx->Hp->Prop):Prop
 |mk (M:Ms) (E:En) (S:Sto) (b:sx) (S':Sto) (e:f E S=Gc (.bl b,S')) (r:EnR K M E σ H) (st:StR K M S H) (q:∀H' M',Gr M H M' H'->StR K M' S' H'->Q b H')
structure DT(X:Cx)(e:sW)(f:Ev):Prop where
 pe:PT X e (tDT X.K f)
structure DW(X:Cx)(e:sW)(f:Ev):Prop where
 pe:PW X e (tDT X.K f)
theorem DW.dt(h:DW X a f):DT X a f:=⟨PW.pt h.pe⟩
theorem WI{t:TE}(h:PT X a (iD t))(m:∀σ H Q,tD X.K f σ H Q->t σ H Q):DT X a f:=⟨TQ h λσ H Q z=>by
 obtain⟨M,E,S,b,S',e,r,st,q⟩:=z
 refine m _ _ _ ⟨M,E,S,_,S',e,r,st,λv H1 M1 g1 st1 r1=>?_⟩
 cases Mn r1
 exact⟨_,rfl,q _ M1 g1 st1⟩⟩
theorem CW(h:DE X a f)(he:∀whole,isTrue a X.env whole=(do let v<-whole;standAt a.pos;holding [v] (truthy v)):=by intro _;rfl):DT X a f:=WI (t:=tD X.K f) (gu h.pe he) λ_ _ _ z=>z
theorem F5{fa fb:Ev}{op:CmpOp}{f:Op2}(ho:OpR X (compareOp op) (rOp X.K f))(ha:DE X a fa)(hb:DE X b fb)(hm:behindInMarks op b=false:=by rfl):DT X (.Compare a [op] [b] pos) (eOp (o2 f) [fa,fb]):=
 WI (VZ ho ha.pe hb.pe hm) λ_ _ _ h=>Qa h
theorem DX(ha:DT X a f):DT X (.UnaryOp .Not a pos) (Di f):=⟨TQ (gk ha.pe) λσ H Q z=>by
 obtain⟨M,E,S,b,S',e,r,st,q⟩:=z
 obtain⟨⟨w1,S1⟩,e1,e⟩:=Ak e
 dsimp only at e
 split at e
 .cases e
  exact⟨M,E,S,_,_,e1,r,st,q⟩
 .cases e⟩
theorem Lk(ha:DT X a f):DW X (.BoolOp .And [a] pos) f:=⟨Z5 ha.pe⟩
theorem QY(ha:DT X a f):DW X (.BoolOp .Or [a] pos) f:=⟨iU ha.pe⟩
theorem Sj{e:sW}{t t':TT}(h:PW X e t)(m:∀σ H Q,t' σ H Q->t σ H Q):PW X e t':=λwh pins s σ H Q I q=>h wh pins s σ H Q I (m _ _ _ q)
theorem MK(ha:DT X a f)(hb:DW X (.BoolOp .And (b::rest) pos) g):DW X (.BoolOp .And (a::b::rest) pos) (D2 f g):=⟨Sj (dc ha.pe hb.pe) λσ H Q z=>by
 obtain⟨M,E,S,k,S',e,r,st,q⟩:=z
 obtain⟨⟨w1,S1⟩,e1,e⟩:=Ak e
 dsimp only at e
 split at e
 .refine⟨M,E,S,_,S1,e1,r,st,λH1 M1 g1 st1=>?_⟩
  refine aQ ?_
  exact⟨M1,E,S1,k,S',e,r.step g1.st,st1,λH2 M2 g2 st2=>q _ M2 (g1.trans g2) st2⟩
 .cases e
  refine⟨M,E,S,_,_,e1,r,st,λH1 M1 g1 st1=>?_⟩
  refine Z4 ?_
  exact q _ M1 g1 st1
 .cases e⟩
theorem YI(ha:DT X a f)(hb:DW X (.BoolOp .Or (b::rest) pos) g):DW X (.BoolOp .Or (a::b::rest) pos) (eOr f g):=⟨Sj (m8 ha.pe hb.pe) λσ H Q z=>by
 obtain⟨M,E,S,k,S',e,r,st,q⟩:=z
 obtain⟨⟨w1,S1⟩,e1,e⟩:=Ak e
 dsimp only at e
 split at e
 .refine⟨M,E,S,_,S1,e1,r,st,λH1 M1 g1 st1=>?_⟩
  refine Z4 ?_
  exact⟨M1,E,S1,k,S',e,r.step g1.st,st1,λH2 M2 g2 st2=>q _ M2 (g1.trans g2) st2⟩
 .cases e
  refine⟨M,E,S,_,_,e1,r,st,λH1 M1 g1 st1=>?_⟩
  refine aQ ?_
  exact q _ M1 g1 st1
 .cases e⟩
end
inductive Fl where
 |nx
 |ret (d:D)
abbrev Ex:=En->Sto->rW (Fl×En×Sto)
def End(K:W1)(M:Ms)(H:Hp)(Dn:Ends)(E':En)(S':Sto):Fl->Prop
 | .nx=>∀σ' H' M',Gr M H M' H'->EnR K M' E' σ' H'->StR K M' S' H'->Dn.nx σ' H'
 | .ret d=>∀v H' M',Gr M H M' H'->StR K M' S' H'->BX K M' H' v d->Dn.rt v H'
inductive tX(K:W1)(f:Ex)(Dn:Ends)(σ:Sg)(H:Hp):Prop
 |mk (M:Ms) (E:En) (S:Sto) (fl:Fl) (E':En) (S':Sto) (e:f E S=Gc (fl,E',S')) (r:EnR K M E σ H) (st:StR K M S H) (q:End K M H Dn E' S' fl)
structure DS(X:Cx)(st:tE)(f:Ex):Prop where
 pe:PS X st (tX X.K f)
structure DSs(X:Cx)(st:Wp tE)(f:Ex):Prop where
 pe:PSs X st (tX X.K f)
theorem FJ{X:Cx}{e:tE}{t t':TS}(h:PS X e t)(m:∀Dn σ H,t' Dn σ H->t Dn σ H):PS X e t':=λpins s σ H Dn I q=>h pins s σ H Dn I (m _ _ _ q)
theorem NR{X:Cx}{e:Wp tE}{t t':TS}(h:PSs X e t)(m:∀Dn σ H,t' Dn σ H->t Dn σ H):PSs X e t':=λpins s σ H Dn I q=>h pins s σ H Dn I (m _ _ _ q)
theorem End.later{K:W1}{M M1:Ms}{H H1:Hp}{Dn:Ends}{E':En}{S':Sto}{fl:Fl}(q:End K M H Dn E' S' fl)(g:Gr M H M1 H1):End K M1 H1 Dn E' S' fl:=by
 cases fl with
 |nx=>exact λσ' H' M' g' r st=>q σ' H' M' (g.trans g') r st
 |ret d=>exact λv H' M' g' st r=>q v H' M' (g.trans g') st r
noncomputable def AV(f g:Ex):Ex:=λE S=>(f E S).bind λr=>match r.1 with
 | .nx=>g r.2.1 r.2.2
 | .ret w=>Gc (.ret w,r.2)
noncomputable def Bo:Ex:=λE S=>Gc (.nx,E,S)
section
variable{X:Cx}{st:tE}{rest a b:Wp tE}{f g h:Ex}{c e:sW}{k:Ev}{pos:Pos}
theorem BZ:DSs X [] Bo:=⟨NR ar λDn σ H z=>by
 obtain⟨M,E,S,fl,E',S',e,r,st,q⟩:=z
 cases e
 exact q _ _ M (.refl st.mo) r st⟩
theorem AS(h1:DS X st f)(h2:DSs X rest g):DSs X (st::rest) (AV f g):=⟨NR (RI h1.pe h2.pe) λDn σ H z=>by
 obtain⟨M,E,S,fl,E',S',e,r,st,q⟩:=z
 obtain⟨⟨f1,E1,S1⟩,e1,e⟩:=Ak e
 dsimp only at e
 split at e
 .exact⟨M,E,S,.nx,E1,S1,e1,r,st,λσ1 H1 M1 g1 r1 st1=>⟨M1,E1,S1,fl,E',S',e,r1,st1,q.later g1⟩⟩
 .cases e
  exact⟨M,E,S,.ret _,_,_,e1,r,st,q⟩⟩
theorem AL(h1:DS X st f):DSs X [st] f:=⟨Nh h1.pe⟩
noncomputable def xIf(c:Ev)(f g:Ex):Ex:=λE S=>(c E S).bind λr=>match r.1 with
 | .bl true=>f E r.2
 | .bl false=>g E r.2
 |_=>none
theorem Eb(hc:DT X c k)(ha:DSs X a f)(hb:DSs X b g):DS X (.If c a b pos) (xIf k f g):=⟨FJ (kn hc.pe ha.pe hb.pe) λDn σ H z=>by
 obtain⟨M,E,S,fl,E',S',e,r,st,q⟩:=z
 obtain⟨⟨w1,S1⟩,e1,e⟩:=Ak e
 dsimp only at e
 split at e
 .refine⟨M,E,S,_,S1,e1,r,st,λH1 M1 g1 st1=>?_⟩
  refine aQ ?_
  exact⟨M1,E,S1,fl,E',S',e,r.step g1.st,st1,q.later g1⟩
 .refine⟨M,E,S,_,S1,e1,r,st,λH1 M1 g1 st1=>?_⟩
  refine Z4 ?_
  exact⟨M1,E,S1,fl,E',S',e,r.step g1.st,st1,q.later g1⟩
 .cases e⟩
noncomputable def Ah(k:Ev):Ex:=λE S=>(k E S).map λr=>(.ret r.1,E,r.2)
theorem Ax(h:DE X e k):DS X (.Return (Gc e) pos) (Ah k):=⟨FJ (SW h.pe) λDn σ H z=>by
 obtain⟨M,E,S,fl,E',S',e,r,st,q⟩:=z
 obtain⟨⟨d,S1⟩,e1,e⟩:=Hu e
 cases e
 exact⟨M,E,S,d,S1,e1,r,st,λv H1 M1 g1 st1 r1=>q _ _ M1 g1 st1 r1⟩⟩
end
section
variable{K:W1}{M:Ms}{E:En}{σ:Sg}{H:Hp}{i:Nat}{d:D}{v:V}
theorem EnR.put(r:EnR K M E σ H)(rd:BX K M H v d):EnR K M (E.set i (Gc d)) (σ.set i (Gc v)) H:=by
 refine⟨by rw[u6,u6];exact r.len,λj e ej=>?_⟩
 by_cases h:i=j
 .subst h
  by_cases hi:i<E.length
  .rw[sP hi]at ej
   cases ej
   exact⟨v,sP (by rw[<-r.len];exact hi),rd⟩
  .rw[vc.mpr (by rw[u6];lia)]at ej;cases ej
 .rw[rm h]at ej
  obtain⟨v',h1,h2⟩:=r.val j e ej
  exact⟨v',by rw[rm h];exact h1,h2⟩
end
noncomputable def Bs(i:Nat)(k:Ev):Ex:=λE S=>(k E S).map λr=>(.nx,E.set i (Gc r.1),r.2)
theorem FL{X:Cx}{e:sW}{k:Ev}{pos pos':Pos}(i:Nat){x:Str}(h:DE X e k)(hN:X.N.Nodup)(hi:X.N[i]?=Gc x:=by rfl)(hx:Loc X.env.scope x:=by first|exact Or.inl rfl|exact Or.inr rfl)(hs:swapsWith e (Gc (.Name x pos')) pos.line X.env=pure false:=by rfl)(hf:X.fn x=true\/X.env.scope.names.lookup x=Gc .local:=by first|exact .inl rfl|exact .inr rfl):DS X (.Assign [.Name x pos'] e pos) (Bs i k):=⟨
 FJ (Yn hN hi hx h.pe hs hf) λDn σ H z=>by
  obtain⟨M,E,S,fl,E',S',e,r,st,q⟩:=z
  obtain⟨⟨d,S1⟩,e1,e⟩:=Hu e
  cases e
  exact⟨M,E,S,d,S1,e1,r,st,λv H1 M1 g1 st1 r1=>q _ _ M1 g1 ((r.step g1.st).put r1) st1⟩⟩
noncomputable def CM(k:Ev):Ex:=λE S=>(k E S).map λr=>(.nx,E,r.2)
theorem GQ{X:Cx}{e:sW}{k:Ev}{pos:Pos}(h:DE X e k)(hs:swapsWith e none pos.line X.env=pure false:=by rfl):DS X (.Expr e pos) (CM k):=⟨FJ (bS h.pe hs) λDn σ H z=>by
 obtain⟨M,E,S,fl,E',S',e,r,st,q⟩:=z
 obtain⟨⟨d,S1⟩,e1,e⟩:=Hu e
 cases e
 exact⟨M,E,S,d,S1,e1,r,st,λv H1 M1 g1 st1 r1=>q _ _ M1 g1 (r.step g1.st) st1⟩⟩
noncomputable def EI(S:Sto)(n:Nat):rW (Wp D):=match S[n]? with
 |some (.lst ds)=>Gc ds
 |_=>none
theorem Ej{S:Sto}{n:Nat}{ds:Wp D}(h:EI S n=Gc ds):S[n]?=Gc (.lst ds):=by
 unfold EI at h
 split at h
 .rename_i e
  cases h
  exact e
 .cases h
abbrev Mo:=Sto->Wp D->Wp D->rW (D×Wp D)
noncomputable def Nz(op:Mo)(f:Ev)(fs:Wp Ev):Ev:=λE S=>(f E S).bind λr=>match r.1 with
 | .ref n=>(EI r.2 n).bind λ_=>(evs fs E r.2).bind λp=>(EI p.2 n).bind λds=>(op p.2 ds p.1).map λq=>(q.1,p.2.set n (.lst q.2))
 |_=>none
inductive jZ(K:W1)(op:Mo)(x:V)(vs:Wp V)(H:Hp)(Q:VK):Prop
 |mk (M:Ms) (S:Sto) (n:Nat) (a:rY) (ds args:Wp D) (d:D) (ds':Wp D) (hx:x=.ref a) (hc:M.cel[n]?=Gc a) (hn:S[n]?=Gc (.lst ds)) (e:op S ds args=Gc (d,ds')) (st:StR K M S H) (ra:Ae K M H vs args) (q:∀v H',StR K M (S.set n (.lst ds')) H'->Gr M H M H'->BX K M H' v d->Q v H')
section
variable{X:Cx}
theorem fO{op:Mo}{f:Ev}{fs:Wp Ev}{σ:Sg}{H:Hp}{Q:VK}(h:tD X.K (Nz op f fs) σ H Q):tBM X.K "list" (jZ X.K op) (tD X.K f) (tDs X.K fs) σ H Q:=by
 obtain⟨M,E,S,d,S',e,r,st,q⟩:=h
 obtain⟨⟨d1,S1⟩,e1,e⟩:=Ak e
 dsimp only at e
 split at e
 .rename_i n
  obtain⟨ds0,e2,e⟩:=Ak e
  obtain⟨⟨args,S2⟩,e3,e⟩:=Ak e
  obtain⟨ds,e4,e⟩:=Ak e
  obtain⟨⟨dd,ds'⟩,e5,e⟩:=Hu e
  cases e
  refine⟨M,E,S,_,S1,e1,r,st,λv H1 M1 g1 st1 r1=>?_⟩
  cases r1 with
  |ref hc=>
   rename_i a
   obtain⟨xs,h1,h2⟩:=st1.cell n a _ hc (Ej e2)
   refine⟨.inl ⟨rfl,xs,.of h1⟩,?_⟩
   refine EU e3 (r.step g1.st) st1 λvs H2 M2 g2 st2 r2=>?_
   exact⟨M2,S2,n,a,ds,args,dd,ds',rfl,La g2.pre hc,Ej e4,e5,st2,r2,λv H3 st3 g3 r3=>q _ _ M2 ((g1.trans g2).trans g3) st3 r3⟩
 .cases e
theorem gz{id:vB}{name:Str}{o e:sW}{es:Wp sW}{op:Mo}{f:Ev}{fs:Wp Ev}{apos cpos:Pos}(slot:Slot "list" name id)(hty:typeOf (.builtin id)=pure (.type "method_descriptor"))(hm:MtR X id (jZ X.K op))(ho:DE X o f)(ha:DEs X (e::es) fs)(hbase:attributeBase o name X.env (eval o X.env)=eval o X.env:=by rfl)(hfew:((backTo cpos (sE (e::es) X.env)).all (λx=> !x.1) && (backToKw cpos (keywordEach [] X.env)).all (λx=>x.1.isSome) && decide ((e::es).length+([]:Wp yb).length+(if([]:Wp yb).isEmpty then 0 else 1)<30))=true:=by rfl)(hline:(apos.endLine==cpos.line)=true:=by rfl)(hs:sE (e::es) X.env=(false,eval e X.env)::sE es X.env:=by rfl)(hplain:(backTo cpos (sE es X.env)).any (·.1)=false:=by rfl):DE X (.Call (.Attribute o name apos) (e::es) [] cpos) (Nz op f fs):=⟨BA (nK PySem.F.plainAttrs_list slot hty hm ho.pe ha.pe hbase hfew hline hs hplain) λσ H Q z=>fO z⟩
noncomputable def Ou:Mo
 |_,ds,[x]=>if ds.length<sizeLine then Gc (.non,ds++[x])else none
 |_,_,_=>none
theorem RC{K:W1}{M:Ms}{H:Hp}{vs:Wp V}{d:D}(h:Ae K M H vs [d]):∃v,vs=[v]/\BX K M H v d:=by
 cases h with
 |cons h t=>cases t;exact⟨_,rfl,h⟩
theorem bL:MtR X "list.append" (jZ X.K Ou):=by
 intro pins s σ H x vs v us Q I rx rv h
 obtain⟨M,S,n,a,ds,args,d,ds',rfl,hc,hn,e,st,ra,q⟩:=h
 unfold Ou at e
 split at e
 .split at e
  .rename_i hz
   cases e
   obtain⟨xs,h1,h2⟩:=st.cell n a _ hc hn
   obtain⟨y,rfl,ry⟩:=RC ra
   obtain⟨st2,g2⟩:=st.chg hc hn (h2.append (.cons ry .nil))
   exact OH pins s σ H _ _ v us Q I rx rv ⟨a,xs,y,rfl,rfl,h1,by rw[h2.length];exact hz,q _ _ st2 g2 .non⟩
  .cases e
 .cases e
end
noncomputable def N0(k f o:Ev):Ex:=λE S=>(k E S).bind λr=>(f E r.2).bind λb=>(o E b.2).bind λi=>match b.1,i.1 with
 | .ref n,.int j=>(EI i.2 n).bind λds=>(ixN ds.length j).map λm=>(.nx,E,i.2.set n (.lst (ds.set m r.1)))
 |_,_=>none
theorem kJ {X : Cx} {e t bs : sW} {k f o : Ev} {ps pos : Pos} (h : DE X e k) (hb : DE X bs f) (ht : DE X t o) (ha : ∀ v, assign (.Subscript bs t ps) X.env v = (do
      let ov ← holding [v] (eval bs X.env)
      let iv ← holding [v, ov] (eval t X.env)
      standAt ps
      holding [v, ov, iv] (setItem ov iv v)
      release [v, ov, iv] []) := by intro _; rfl)
    (hs : swapsWithSole [.Subscript bs t ps] e pos.line X.env = pure false := by rfl) (hw : swappedStores [.Subscript bs t ps] e X.env = pure none := by rfl)
    (h1 : (assignEach [.Subscript bs t ps] X.env).map (·.2) = [assign (.Subscript bs t ps) X.env] := by rfl) :
    DS X (.Assign [.Subscript bs t ps] e pos) (N0 k f o) := ⟨
  FJ (ZM h.pe (gf hb.pe ht.pe set_list ha) hs hw h1) fun Dn σ H z => by
    obtain ⟨M, E, S, fl, E', S', e, r, st, q⟩ := z
    obtain ⟨⟨d, S1⟩, e1, e⟩ := Ak e
    obtain ⟨⟨b, S2⟩, e2, e⟩ := Ak e
    obtain ⟨⟨i, S3⟩, e3, e⟩ := Ak e
    dsimp only at e e1 e2 e3
    split at e
    · rename_i n j _
      obtain ⟨ds, e4, e⟩ := Ak e
      obtain ⟨m, e5, e⟩ := Hu e
      cases e
      refine ⟨M, E, S, d, S1, e1, r, st, fun v H1 M1 g1 st1 r1 => ?_⟩
      refine ⟨M1, E, S1, _, S2, e2, r.step g1.st, st1, fun bv H2 M2 g2 st2 r2 => ?_⟩
      refine ⟨M2, E, S2, _, S3, e3, (r.step g1.st).step g2.st, st2, fun iv H3 M3 g3 st3 r3 => ?_⟩
      cases r3
      cases r2 with
      | ref hc =>
        rename_i a
        have hc3 := La g3.pre hc
        obtain ⟨xs, h1, h2⟩ := st3.cell n a _ hc3 (Ej e4)
        obtain ⟨st4, g4⟩ := st3.chg hc3 (Ej e4) (h2.set ((r1.step g2.st).step g3.st) m)
        have g := ((g1.trans g2).trans g3).trans g4
        exact ⟨a, xs, j, m, rfl, rfl, h1, by rw [h2.length]; exact e5, q _ _ M3 g (r.step g.st) st4⟩
    · cases e⟩
abbrev Fn:=Wp D->Sto->rW (D×Sto)
noncomputable def flD:Fl->D
 | .nx=>.non
 | .ret d=>d
noncomputable def Af(N:Nat)(body:Ex):Fn:=λds S=>(body (ds.map Gc++sH (N-ds.length) none) S).map λr=>(flD r.1,r.2.2)
def AW{α:Type}(a:α):α:=Classical.choose (⟨a,rfl⟩:∃x,x=a)
theorem IY{α:Type}(a:α):AW a=a:=Classical.choose_spec (⟨a,rfl⟩:∃x,x=a)
inductive spD(K:W1)(np:Nat)(f:Fn)(vs:Wp V)(H:Hp)(Q:VK)(E:XK):Prop
 |mk (M:Ms) (ds:Wp D) (S:Sto) (d:D) (S':Sto) (l:ds.length=np) (e:f ds S=Gc (d,S')) (r:Ae K M H vs ds) (st:StR K M S H) (q:∀v H' M',Gr M H M' H'->StR K M' S' H'->BX K M' H' v d->Q v H')
theorem N4{α:Type}{xs:Wp α}{i:Nat}{x:α}(h:(xs.map Gc)[i]?=Gc (Gc x)):xs[i]?=Gc x:=by
 rw[sY]at h
 cases e:xs[i]? with
 |none=>rw[e]at h;cases h
 |some y=>rw[e]at h;cases h;rfl
theorem US{α:Type}{xs:Wp (rW α)}{k i:Nat}{x:α}(h:(xs++sH k none)[i]?=Gc (Gc x)):xs[i]?=Gc (Gc x):=by
 by_cases hi:i<xs.length
 .rw[rf hi]at h;exact h
 .rw[tK (by lia),wu]at h
  split at h<;>cases h
theorem bY{α:Type}{xs:Wp (rW α)}{k i:Nat}{x:rW α}(h:xs[i]?=Gc x):(xs++sH k none)[i]?=Gc x:=by
 rw[rf (r9.mp h).1];exact h
theorem EnR.args{K:W1}{M:Ms}{H:Hp}{vs:Wp V}{ds:Wp D}(r:Ae K M H vs ds)(k:Nat):EnR K M (ds.map Gc++sH k none) (vs.map Gc++sH k none) H:=by
 refine⟨by simp[r.length],λi d e=>?_⟩
 obtain⟨v,h1,h2⟩:=r.get (N4 (US e))
 exact⟨v,bY (by rw[sY,h1];rfl),h2⟩
section
variable{P:sf}{w:tU}{K:W1}{mg:Str->rW rS}{base:tT}
theorem kU{x:Str}{st:tE}{f:rY}{fd:uf}{N ps:Wp Str}{k np:Nat}{b:Ex}(Fu:Fun K x x st f fd)(S:Ar N ps (AD st))(hp:ps.length=np)(hb:∀(cdv:rS) (A:tN) (outer:Wp uM) (s:rX) (H:Hp) (E:XK),CZ k (A.deeper (sR x (AD st) s.heap.objs.size f cdv))->DSs (Hw CX0 P w K mg base N x (AD st) f cdv A outer s H E).nox (A3 st) b):KR P w K mg base CX0 (k+1) f fd ps (spD K np (AW (Af N.length b))):=by
 rw[IY]
 refine Fu.ok S (λvs H Q E h=>?_) (λcdv A outer s H vs Q E hr h=>?_)
 .obtain⟨M,ds,S0,d,S',hl,_,r,_⟩:=h
  have:=r.length
  lia
 .obtain⟨M,ds,S0,d,S',hl,e,r,st,q⟩:=h
  have hlen:=r.length
  refine⟨_,(hb cdv A outer s H E hr).pe,?_⟩
  obtain⟨⟨fl,E',S1⟩,e1,e⟩:=Hu e
  cases e
  refine⟨M,_,S0,fl,E',S1,e1,?_,st,?_⟩
  .rw[show L2.start N vs=vs.map Gc++sH (N.length-ds.length) none from by unfold L2.start;rw[hlen]]
   exact .args r _
  .cases fl with
   |nx=>exact λσ' H' M' g _ st'=>q _ _ M' g st' .non
   |ret d=>exact λv H' M' g st' r'=>q _ _ M' g st' r'
theorem gv{x:Str}{st:tE}{N ps:Wp Str}{k np:Nat}{b:Ex}(S:St.Src K mg x st)(sc:Ar N ps (AD st))(hp:ps.length=np)(hbi:∀f fd,Fun K x x st f fd->Binds K fd ps [])(hb:∀(f:rY) (cdv:rS) (A:tN) (outer:Wp uM) (s:rX) (H:Hp) (E:XK),CZ k (A.deeper (sR x (AD st) s.heap.objs.size f cdv))->DSs (Hw CX0 P w K mg base N x (AD st) f cdv A outer s H E).nox (A3 st) b):St.Dfn P w K mg base x (k+1) ps (spD K np (AW (Af N.length b))):=by
 obtain⟨f,fd,Fu,hm⟩:=S.ex
 exact⟨f,fd,hm,Fu.kp,hbi f fd Fu,kU Fu sc hp λcdv A outer s H E hr=>hb f cdv A outer s H E hr⟩
end
noncomputable def AF(f:Fn)(fs:Wp Ev):Ev:=λE S=>(evs fs E S).bind λr=>f r.1 r.2
theorem Vh{K:W1}{np:Nat}{f:Fn}{fs:Wp Ev}{σ:Sg}{H:Hp}{Q:VK}(hn:fs.length=np)(h:tD K (AF f fs) σ H Q):bX (spD K np f) [] E0 (tDs K fs) σ H Q:=by
 obtain⟨M,E,S,d,S',e,r,st,q⟩:=h
 obtain⟨⟨ds,S1⟩,e1,e⟩:=Ak e
 refine EU e1 r st λvs H1 M1 g1 st1 r1=>?_
 rw[uB]
 exact⟨M1,ds,S1,d,S',by rw[GZ e1];exact hn,e,r1,st1,λv H2 M2 g2 st2 r2=>q _ _ M2 (g1.trans g2) st2 r2⟩
theorem aH{X:Cx}{k np:Nat}{x:Str}{ps:Wp Str}{f:Fn}{e:sW}{es:Wp sW}{fs:Wp Ev}{p pos:Pos}(d:St.Dfn X.prog X.w X.K X.mg X.base x k ps (spD X.K np f))(hr:CZ k X.A)(hg:Gl X x)(ha:DEs X (e::es) fs)(hn:fs.length=np:=by rfl)(hdb:(x==("__debug__":Str))=false:=by decide)(he:sE (e::es) X.env=(false,eval e X.env)::sE es X.env:=by rfl)(hpl:(backTo pos (sE es X.env)).any (·.1)=false:=by rfl):DE X (.Call (.Name x p) (e::es) [] pos) (AF f fs):=⟨BA (St.lM d hr hg ha.pe hdb he hpl) λσ H Q z=>Vh hn z⟩
abbrev Tf:=D->En->Sto->rW En
inductive tG(K:W1)(t:Tf)(v:V)(σ:Sg)(H:Hp)(Q:St->Hp->Prop):Prop
 |mk (M:Ms) (d:D) (E E':En) (S:Sto) (e:t d E S=Gc E') (r:EnR K M E σ H) (st:StR K M S H) (rd:BX K M H v d) (q:∀σ',EnR K M E' σ' H->Q σ' H)
structure DG(X:Cx)(tg:sW)(t:Tf):Prop where
 pe:PG X tg (tG X.K t)
noncomputable def tNm(i:Nat):Tf:=λd E _=>Gc (E.set i (Gc d))
theorem VN{X:Cx}{e:sW}{t t':TG}(h:PG X e t)(m:∀v σ H Q,t' v σ H Q->t v σ H Q):PG X e t':=λpins s σ H v u Q I r q=>h pins s σ H v u Q I r (m _ _ _ _ q)
theorem Hd{X:Cx}{pos:Pos}(i:Nat){x:Str}(hN:X.N.Nodup)(hi:X.N[i]?=Gc x:=by rfl)(hx:Loc X.env.scope x:=by first|exact Or.inl rfl|exact Or.inr rfl)(hf:X.fn x=true\/X.env.scope.names.lookup x=Gc .local:=by first|exact .inl rfl|exact .inr rfl):DG X (.Name x pos) (tNm i):=⟨VN (cU hN hi hx hf) λv σ H Q z=>by
 obtain⟨M,d,E,E',S,e,r,st,rd,q⟩:=z
 cases e
 exact q _ (r.put rd)⟩
noncomputable def tMs:Wp Tf->Wp D->En->Sto->rW En
 | [],[],E,_=>Gc E
 |t::ts,d::ds,E,S=>(t d E S).bind λE1=>tMs ts ds E1 S
 |_,_,_,_=>none
noncomputable def tTp(ts:Wp Tf):Tf:=λd E S=>match d with
 | .tup ds=>tMs ts ds E S
 | .lst ds=>tMs ts ds E S
 | .ref n=>(EI S n).bind λds=>tMs ts ds E S
 |_=>none
noncomputable def tGs(K:W1):Wp Tf->TGs
 | []=>oS
 |t::ts=>iS (tG K t) (tGs K ts)
theorem Qe{K:W1}{M:Ms}{H:Hp}{S:Sto}(st:StR K M S H):∀{ts:Wp Tf} {ds:Wp D} {vs:Wp V} {E E':En} {σ:Sg} {Q:Sg->Hp->Prop},tMs ts ds E S=Gc E'->EnR K M E σ H->Ae K M H vs ds->(∀σ',EnR K M E' σ' H->Q σ' H)->tGs K ts vs σ H Q
 | [],[],_,E,E',σ,Q,e,r,rd,q=>by
   cases e
   cases rd
   exact⟨rfl,q _ r⟩
 |t::ts,d::ds,_,E,E',σ,Q,e,r,rd,q=>by
  obtain⟨E1,e1,e⟩:=Ak e
  cases rd with
  |cons h1 h2=>exact⟨_,_,rfl,M,d,E,E1,S,e1,r,st,h1,λσ1 r1=>Qe st e r1 h2 q⟩
 | [],_::_,_,E,E',σ,Q,e,r,rd,q=>by cases e
 |_::_,[],_,E,E',σ,Q,e,r,rd,q=>by cases e
theorem Np:∀{ts:Wp Tf} {ds:Wp D} {E E':En} {S:Sto},tMs ts ds E S=Gc E'->ds.length=ts.length
 | [],[],_,_,_,_=>rfl
 |t::ts,d::ds,E,E',S,e=>by
  obtain⟨E1,e1,e⟩:=Ak e
  simp[Np e]
 | [],_::_,_,_,_,e=>by cases e
 |_::_,[],_,_,_,e=>by cases e
structure DGs(X:Cx)(es:Wp sW)(ts:Wp Tf):Prop where
 pe:PGs X es (tGs X.K ts)
theorem My{X:Cx}:DGs X [] []:=⟨aK⟩
theorem Dy{X:Cx}{e:sW}{es:Wp sW}{t:Tf}{ts:Wp Tf}(h:DG X e t)(g:DGs X es ts)(hs:(assignEach (e::es) X.env).map (·.2)=assign e X.env::(assignEach es X.env).map (·.2):=by rfl):DGs X (e::es) (t::ts):=⟨WT h.pe g.pe hs⟩
theorem WR{X:Cx}{k:Nat}{es:Wp sW}{ts:Wp Tf}{pos:Pos}(hc:X.calm=true)(h:DGs X es ts)(hn:(assignEach es X.env).length=ts.length:=by rfl)(hst:(assignEach es X.env).findIdx? (·.1)=none:=by rfl):DG X (.Tuple es k pos) (tTp ts):=⟨
 VN (iO hc h.pe hn hst) λv σ H Q z=>by
  obtain⟨M,d,E,E',S,e,r,st,rd,q⟩:=z
  unfold tTp at e
  split at e
  .cases rd with
   |tup h1 h2=>exact⟨_,_,rfl,.inl h1,by rw[h2.length];exact Np e,Qe st e r h2 q⟩
  .cases rd with
   |lst h1 n h2=>exact⟨_,_,rfl,.inr h1,by rw[h2.length];exact Np e,Qe st e r h2 q⟩
  .obtain⟨ds,e1,e⟩:=Ak e
   cases rd with
   |ref hc=>
    obtain⟨xs,h1,h2⟩:=st.cell _ _ _ hc (Ej e1)
    exact⟨_,_,rfl,.inr h1,by rw[h2.length];exact Np e,Qe st e r h2 q⟩
  .cases e⟩
noncomputable def Mj(t:Tf)(k:Ev):Ex:=λE S=>(k E S).bind λr=>(t r.1 E r.2).map λE'=>(.nx,E',r.2)
theorem VM{X:Cx}{tg e:sW}{t:Tf}{k:Ev}{pos:Pos}(h:DE X e k)(hg:DG X tg t)(hs:swapsWithSole [tg] e pos.line X.env=pure false:=by rfl)(hw:swappedStores [tg] e X.env=pure none:=by rfl)(h1:(assignEach [tg] X.env).map (·.2)=[assign tg X.env]:=by rfl):DS X (.Assign [tg] e pos) (Mj t k):=⟨FJ (ZM h.pe hg.pe hs hw h1) λDn σ H z=>by
 obtain⟨M,E,S,fl,E',S',e,r,st,q⟩:=z
 obtain⟨⟨d,S1⟩,e1,e⟩:=Ak e
 obtain⟨E2,e2,e⟩:=Hu e
 cases e
 exact⟨M,E,S,d,S1,e1,r,st,λv H1 M1 g1 st1 r1=>⟨M1,d,E,_,S1,e2,r.step g1.st,st1,r1,λσ' r2=>q _ _ M1 g1 r2 st1⟩⟩⟩
noncomputable def SO(i j:Nat)(f g:Ev):Ex:=λE S=>(evs [f,g] E S).bind λr=>match r.1 with
 | [d,d']=>Gc (.nx,(E.set i (Gc d)).set j (Gc d'),r.2)
 |_=>none
theorem oM{X:Cx}{i j:Nat}{x y:Str}{a b:sW}{f g:Ev}{px py pt:Pos}{kt k2:Nat}{pt2 pos:Pos}(hc:X.calm=true)(hN:X.N.Nodup)(hi:X.N[i]?=Gc x)(hj:X.N[j]?=Gc y)(hij:i≠j)(hx:X.env.scope.names.lookup x=Gc .local)(hy:X.env.scope.names.lookup y=Gc .local)(ha:DE X a f)(hb:DE X b g)(hw:swappedStores [.Tuple [.Name x px,.Name y py] kt pt] (.Tuple [a,b] k2 pt2) X.env=pure (Gc [x,y]):=by rfl)(hsa:sE [a,b] X.env=(false,eval a X.env)::sE [b] X.env:=by rfl)(hsb:sE [b] X.env=(false,eval b X.env)::sE [] X.env:=by rfl)(hs:swapsWithSole [.Tuple [.Name x px,.Name y py] kt pt] (.Tuple [a,b] k2 pt2) pos.line X.env=pure false:=by rfl):DS X (.Assign [.Tuple [.Name x px,.Name y py] kt pt] (.Tuple [a,b] k2 pt2) pos) (SO i j f g):=⟨by
 refine FJ (gQ hc hN hi hj hij hx hy (J3 ha.pe (J3 hb.pe Q5 hsb) hsa) hw hs) λDn σ H z=>?_
 obtain⟨M,E,S,fl,E',S',e,r,st,q⟩:=z
 obtain⟨⟨ds,S1⟩,e1,e⟩:=Ak e
 refine EU (K:=X.K) (fs:=[f,g]) e1 r st λvs H1 M1 g1 st1 r1=>?_
 dsimp only at e
 split at e
 .rename_i d d'
  cases e
  cases r1 with
  |cons h1 t=>
   cases t with
   |cons h2 t=>
    cases t
    exact⟨_,_,rfl,q _ _ M1 g1 (((r.step g1.st).put h1).put h2) st1⟩
 .cases e⟩
noncomputable def ZJ:Ev:=λ_ _=>none
noncomputable def B0:Ex:=λ_ _=>none
theorem Wr{X:Cx}{e:sW}:DE X e ZJ:=⟨λ_ _ _ _ _ _ z=>by
 obtain⟨M,E,S,d,S',e,_⟩:=z
 cases e⟩
theorem FT{X:Cx}{st:tE}:DS X st B0:=⟨λ_ _ _ _ _ _ z=>by
 obtain⟨M,E,S,fl,E',S',e,_⟩:=z
 cases e⟩
abbrev Gd:=Wp (Nat×Wp D)
def gOk(gs:Gd)(S:Sto):Prop:=∀g∈gs,EI S g.1=Gc g.2
abbrev Sr:=En->Sto->rW ((Wp D×Gd)×Sto)
structure gI(K:W1)(M:Ms)(H:Hp)(gs:Gd)(ds:Wp D)(J:It):Prop where
 go:∀(i:Nat) (H2:Hp) (M2:Ms) (S2:Sto),Sp1 M H M2 H2->StR K M2 S2 H2->gOk gs S2->i<ds.length->J.go i H2
 stop:∀(i:Nat) (H2:Hp) (M2:Ms) (S2:Sto),Sp1 M H M2 H2->StR K M2 S2 H2->gOk gs S2->ds.length<=i->J.stop i H2
 yld:∀(i:Nat) (H2:Hp) (M2:Ms) (S2:Sto) (x:V) (H3:Hp) (d:D),Sp1 M H M2 H2->StR K M2 S2 H2->gOk gs S2->ds[i]?=Gc d->J.yld i H2 x H3->(∀a o,H2 a=Gc o->H3 a=Gc o)/\BX K M2 H3 x d
inductive tI(K:W1)(s:Sr)(σ:Sg)(H:Hp)(R:It->Hp->Prop):Prop
 |mk (M:Ms) (E:En) (S:Sto) (ds:Wp D) (gs:Gd) (S':Sto) (e:s E S=Gc ((ds,gs),S')) (r:EnR K M E σ H) (st:StR K M S H) (q:∀J H' M',Gr M H M' H'->StR K M' S' H'->gI K M' H' gs ds J->R J H')
structure DI(X:Cx)(tg iter:sW)(s:Sr):Prop where
 pe:PI X tg iter (tI X.K s)
theorem Nt{X:Cx}{tg e:sW}{t t':TI}(h:PI X tg e t)(m:∀σ H R,t' σ H R->t σ H R):PI X tg e t':=λpins s σ H R I q=>h pins s σ H R I (m _ _ _ q)
noncomputable def qp(K:W1)(tl:TE):TI:=λσ H R=>tl σ H λx H1=>∃a,x=.ref a/\(((∃xs,SqL K H1 a xs)/\R (Itl K a) H1)\/((∃xs,SqT K H1 a xs)/\R (Itt K a) H1))
theorem dh{X:Cx}{tg l:sW}{tl:TE}(hl:PE X l tl):PI X tg l (qp X.K tl):=by
 intro pins s σ H R I h
 refine thn (hl pins s σ H _ I h) λv s1 ⟨x,H1,I1,r1,q1⟩=>?_
 obtain⟨a,e,q1⟩:=q1
 subst e
 cases r1
 rcases q1 with⟨⟨xs,hq⟩,q⟩|⟨⟨xs,hq⟩,q⟩
 .obtain⟨its,rv,p,hz⟩:=I1.list hq
  refine u4 p.isList ?_
  refine⟨s1.heap.objs.size,[s1.heap.objs.size],_,_,H1,rfl,I1.kept (t':=s1.toks) λb o e=>rV _ e,U8 a _,⟨_,sS _ rfl,rfl,rfl⟩,λb hb=>?_,q⟩
  have e:b=s1.heap.objs.size:=by simpa using hb
  subst e
  exact I1.bz (sD _) (I1.hok.fresh (sD _))
 .obtain⟨its,rv,p,hz⟩:=I1.tuple hq
  refine vD (show s1.heap.IsTuple a its.toArray from p) ?_
  refine⟨s1.heap.objs.size,[s1.heap.objs.size],_,_,H1,rfl,I1.kept (t':=s1.toks) λb o e=>rV _ e,SJ a _,⟨_,sS _ rfl,rfl,rfl⟩,λb hb=>?_,q⟩
  have e:b=s1.heap.objs.size:=by simpa using hb
  subst e
  exact I1.bz (sD _) (I1.hok.fresh (sD _))
theorem Ae.get'{K:W1}{M:Ms}{H:Hp}{vs:Wp V}{ds:Wp D}{i:Nat}(h:Ae K M H vs ds)(hi:i<ds.length):∃x,vs[i]?=Gc x:=by
 have:=h.length
 exact⟨vs[i],sF (by lia)⟩
structure SqF(K:W1)(M:Ms)(H:Hp)(gs:Gd)(k:sx)(a:rY)(ds:Wp D):Prop where
 keep:∀(H2:Hp) (M2:Ms) (S2:Sto),Sp1 M H M2 H2->StR K M2 S2 H2->gOk gs S2->∃xs,(if k=true then SqT K H2 a xs else SqL K H2 a xs)/\Ae K M2 H2 xs ds
noncomputable def sqD(S:Sto):D->rW (Wp D×Gd)
 | .tup ds=>Gc (ds,[])
 | .lst ds=>Gc (ds,[])
 | .ref n=>(EI S n).map λds=>(ds,[(n,ds)])
 | .scr ns=>Gc (ns.map .int,[])
 |_=>none
theorem Qh{K:W1}{M:Ms}{H:Hp}{S:Sto}{v:V}{d:D}{ds:Wp D}{gs:Gd}(st:StR K M S H)(h:BX K M H v d)(e:sqD S d=Gc (ds,gs)):∃k a,v=.ref a/\SqF K M H gs k a ds:=by
 cases h with
 |tup h r=>cases e;exact⟨true,_,rfl,⟨λH2 M2 S2 g _ _=>⟨_,g.sqT h,r.step g⟩⟩⟩
 |lst h n r=>cases e;exact⟨false,_,rfl,⟨λH2 M2 S2 g _ _=>⟨_,SqL.of (g.keep _ _ h n),r.step g⟩⟩⟩
 |scr h=>
  cases e
  refine⟨false,_,rfl,⟨λH2 M2 S2 g _ _=>⟨_,?_,NJ⟩⟩⟩
  rcases h with⟨h,n⟩|h
  .rcases h with h|⟨o,h⟩
   .exact .inl (.inl (g.keep _ _ h n))
   .exact .inl (.inr ⟨o,g.keep _ _ h n⟩)
  .exact .inr h
 |ref h=>
  obtain⟨es,e1,e⟩:=Hu e
  cases e
  refine⟨false,_,rfl,⟨λH2 M2 S2 g st2 ok=>?_⟩⟩
  obtain⟨xs,h1,h2⟩:=st2.cell _ _ _ (La g.pre h) (Ej (ok _ (sj.mpr rfl)))
  exact⟨xs,SqL.of h1,h2⟩
 |non=>cases e
 |bl b=>cases e
 |int b=>cases e
 |str b=>cases e
 |ty b=>cases e
 |dct h n r=>cases e
theorem mY{K:W1}{M:Ms}{H:Hp}{gs:Gd}{k:sx}{a:rY}{ds:Wp D}(h:SqF K M H gs k a ds):gI K M H gs ds (if k=true then Itt K a else Itl K a):=by
 cases k with
 |true=>
  exact{
   go:=λi H2 M2 S2 g st ok hi=>let⟨xs,h1,h2⟩:=h.keep H2 M2 S2 g st ok;let⟨x,hx⟩:=h2.get' hi;⟨xs,x,h1,hx⟩
   stop:=λi H2 M2 S2 g st ok hi=>let⟨xs,h1,h2⟩:=h.keep H2 M2 S2 g st ok;⟨xs,h1,by have:=h2.length;lia⟩
   yld:=λi H2 M2 S2 x H3 d g st ok hd hy=>by
    obtain⟨xs,h1,h2⟩:=h.keep H2 M2 S2 g st ok
    obtain⟨rfl,hy⟩:=hy
    refine⟨λ_ _ e=>e,?_⟩
    have hx:=hy xs h1
    obtain⟨x',h3,h4⟩:=h2.get hd
    rw[hx]at h3;cases h3
    exact h4}
 |false=>
  exact{
   go:=λi H2 M2 S2 g st ok hi=>let⟨xs,h1,h2⟩:=h.keep H2 M2 S2 g st ok;let⟨x,hx⟩:=h2.get' hi;⟨xs,x,h1,hx⟩
   stop:=λi H2 M2 S2 g st ok hi=>let⟨xs,h1,h2⟩:=h.keep H2 M2 S2 g st ok;⟨xs,h1,by have:=h2.length;lia⟩
   yld:=λi H2 M2 S2 x H3 d g st ok hd hy=>by
    obtain⟨xs,h1,h2⟩:=h.keep H2 M2 S2 g st ok
    obtain⟨rfl,hy⟩:=hy
    refine⟨λ_ _ e=>e,?_⟩
    have hx:=hy xs h1
    obtain⟨x',h3,h4⟩:=h2.get hd
    rw[hx]at h3;cases h3
    exact h4}
noncomputable def IH(f:Ev):Sr:=λE S=>(f E S).bind λr=>(sqD r.2 r.1).map λp=>(p,r.2)
theorem Nj{S:Sto}{d:D}{ds:Wp D}{gs:Gd}(e:sqD S d=Gc (ds,gs)):gOk gs S:=by
 cases d<;>first|(cases e;done)|skip
 all_goals first
  |(cases e;intro g hg;cases hg;done)
  |(obtain⟨es,e1,e⟩:=Hu e
    cases e
    intro g hg
    rw[sj.mp hg]
    exact e1)
theorem O4{X:Cx}{tg e:sW}{f:Ev}(h:DE X e f):DI X tg e (IH f):=⟨Nt (dh h.pe) λσ H R z=>by
 obtain⟨M,E,S,ds,gs,S',e,r,st,q⟩:=z
 obtain⟨⟨d,S1⟩,e1,e⟩:=Ak e
 obtain⟨⟨ds',gs'⟩,e2,e⟩:=Hu e
 cases e
 refine⟨M,E,S,d,S1,e1,r,st,λv H1 M1 g1 st1 r1=>?_⟩
 obtain⟨k,a,rfl,sq⟩:=Qh st1 r1 e2
 obtain⟨xs,hs,_⟩:=sq.keep H1 M1 S1 (Gr.refl st1.mo).st st1 (Nj e2)
 have it:=mY sq
 refine⟨a,rfl,?_⟩
 cases k with
 |true=>exact .inr ⟨⟨xs,hs⟩,q _ _ M1 g1 st1 it⟩
 |false=>exact .inl ⟨⟨xs,hs⟩,q _ _ M1 g1 st1 it⟩⟩
noncomputable def MT(lo:Int)(n:Nat):Wp D:=(tj n).map λ(i:Nat)=>.int (lo+(i:Int))
theorem fP{K:W1}{M:Ms}{H:Hp}{lo:Int}{n:Nat}:gI K M H [] (MT lo n) (Itr lo n) where
 go:=λi H2 M2 S2 g st ok hi=>by
  have:i<n:=by unfold MT at hi;simpa using hi
  exact this
 stop:=λi H2 M2 S2 g st ok hi=>by
  have:n<=i:=by unfold MT at hi;simpa using hi
  exact this
 yld:=λi H2 M2 S2 x H3 d g st ok hd hy=>by
  obtain⟨rfl,rfl⟩:=hy
  refine⟨λ_ _ e=>e,?_⟩
  unfold MT at hd
  rw[sY]at hd
  cases e:(tj n)[i]? with
  |none=>rw[e]at hd;cases hd
  |some j=>
   rw[e]at hd
   cases hd
   have:j=i:=by
    obtain⟨h1,h2⟩:=r9.mp e
    simpa using h2.symm
   subst this
   exact .int _
noncomputable def QZ(fs:Wp Ev):Sr:=λE S=>(evs fs E S).bind λr=>match r.1 with
 | [.int j]=>if(decide (-(2^62)<=j) && decide (j<2^62))=true then Gc ((MT 0 j.toNat,[]),r.2)else none
 | [.int i,.int j]=>if(decide (-(2^62)<=i) && decide (i<2^62) && decide (-(2^62)<=j) && decide (j<2^62))=true then Gc ((MT i (j-i).toNat,[]),r.2)else none
 |_=>none
theorem Q7{K:W1}{M:Ms}{H:Hp}{vs:Wp V}{j:Int}(h:Ae K M H vs [.int j]):vs=[.int j]:=by
 cases h with
 |cons h t=>cases t;cases h;rfl
theorem VG{K:W1}{M:Ms}{H:Hp}{vs:Wp V}{i j:Int}(h:Ae K M H vs [.int i,.int j]):vs=[.int i,.int j]:=by
 cases h with
 |cons h t=>cases h;cases Q7 t;rfl
theorem VA{X:Cx}{tg a:sW}{o:Ev}{p pos:Pos}(hg:Gl X "range")(hm:X.mg "range"=none)(ha:DEs X [a] [o])(hs:sE [a] X.env=[(false,eval a X.env)]:=by rfl):DI X tg (.Call (.Name "range" p) [a] [] pos) (QZ [o]):=⟨
 Nt (UD hg hm ha.pe hs) λσ H R z=>by
  obtain⟨M,E,S,ds,gs,S',e,r,st,q⟩:=z
  obtain⟨⟨ws,S1⟩,e1,e⟩:=Ak e
  have hl:=GZ e1
  refine EU e1 r st λvs H1 M1 g1 st1 r1=>?_
  dsimp only at e
  split at e
  .split at e
   .rename_i j hk
    rw[sA]at hk
    cases e
    exact⟨j,Q7 r1,sM hk.1,sM hk.2,q _ _ M1 g1 st1 fP⟩
   .cases e
  .simp at hl
  .cases e⟩
open Classical in
def MD(gs:Gd)(t:Tf)(body:Ex):Wp D->En->Sto->rW (Fl×En×Sto)
 | [],E,S=>if gOk gs S then Gc (.nx,E,S)else none
 |d::ds,E,S=>if gOk gs S then(t d E S).bind λE1=>(body E1 S).bind λr=>match r.1 with
  | .nx=>MD gs t body ds r.2.1 r.2.2
  | .ret w=>Gc (.ret w,r.2)
  else none
def Lw(s:Sr)(t:Tf)(body:Ex):Ex:=λE S=>(s E S).bind λr=>MD r.1.2 t body r.1.1 E r.2
theorem O8{α:Type}{xs:Wp α}{i:Nat}{x:α}{r:Wp α}(h:xs.drop i=x::r):xs[i]?=Gc x/\xs.drop (i+1)=r/\i<xs.length:=by
 have hi:i<xs.length:=by
  by_cases hi:i<xs.length
  .exact hi
  .rw[xK (by lia)]at h;cases h
 rw[u7 hi]at h
 cases h
 exact⟨sF hi,rfl,hi⟩
theorem Mr{X:Cx}{tg iter:sW}{body:Wp tE}{s:Sr}{t:Tf}{b:Ex}{pos:Pos}(hp:PassesOwn (model X.prog X.w) X.A X.env X.xe)(hc:X.calm=true)(hi:DI X tg iter s)(hg:DG X tg t)(hb:DSs X body b)(hs:∀x,foldedSetIterable iter X.env x=pure x:=by intro _;rfl):DS X (.For tg iter body [] pos) (Lw s t b):=⟨FJ (fZ hp hc hi.pe hg.pe hb.pe hs) λDn σ H z=>by
 obtain⟨M,E,S,fl,E',S',e,r,st,q⟩:=z
 obtain⟨⟨⟨ds,gs⟩,S1⟩,e1,e⟩:=Ak e
 dsimp only at e
 refine⟨M,E,S,ds,gs,S1,e1,r,st,λJ H1 M1 g1 st1 it=>?_⟩
 refine⟨λi m σ' H'=>m=ds.length-i/\∃E2 S2 M2,MD gs t b (ds.drop i) E2 S2=Gc (fl,E',S')/\Gr M1 H1 M2 H'/\EnR X.K M2 E2 σ' H'/\StR X.K M2 S2 H',⟨_,rfl,E,S1,M1,e,.refl st1.mo,r.step g1.st,st1⟩,λi m σ2 H2 hW=>?_⟩
 obtain⟨rfl,E2,S2,M2,e2,g2,r2,st2⟩:=hW
 cases ed:ds.drop i with
 |nil=>
  rw[ed]at e2
  unfold MD at e2
  split at e2
  .rename_i ok
   cases e2
   left
   exact⟨it.stop i H2 M2 _ g2.st st2 ok (zg.mp ed),q _ _ M2 (g1.trans g2) r2 st2⟩
  .cases e2
 |cons d rest=>
  obtain⟨d1,d2,d3⟩:=O8 ed
  rw[ed]at e2
  unfold MD at e2
  split at e2
  .rename_i ok
   obtain⟨E3,e3,e2⟩:=Ak e2
   obtain⟨⟨f4,E4,S4⟩,e4,e2⟩:=Ak e2
   dsimp only at e2
   right
   refine⟨it.go i H2 M2 S2 g2.st st2 ok d3,λσ' H'=>∃m',m'<ds.length-i/\(m'=ds.length-(i+1)/\∃E2 S2 M2,MD gs t b (ds.drop (i+1)) E2 S2=Gc (fl,E',S')/\Gr M1 H1 M2 H'/\EnR X.K M2 E2 σ' H'/\StR X.K M2 S2 H'),λσ' H' z=>z,λx H3 hy=>?_⟩
   obtain⟨k3,rx⟩:=it.yld i H2 M2 S2 x H3 d g2.st st2 ok d1 hy
   have g3:Gr M2 H2 M2 H3:=.grow st2.mo k3
   refine⟨M2,d,E2,E3,S2,e3,r2.step g3.st,st2.grow k3,rx,λσ4 r4=>?_⟩
   refine⟨M2,E3,S2,f4,E4,S4,e4,r4,st2.grow k3,?_⟩
   split at e2
   .exact λσ6 H6 M6 g6 r6 st6=>⟨_,by lia,rfl,E4,S4,M6,by rw[d2];exact e2,(g2.trans g3).trans g6,r6,st6⟩
   .cases e2
    exact λv H6 M6 g6 st6 r6=>q _ _ M6 (((g1.trans g2).trans g3).trans g6) st6 r6
  .cases e2⟩
noncomputable def HR(c:Ev)(b:Ex):Nat->En->Sto->rW (Fl×En×Sto)
 |0,_,_=>none
 |k+1,E,S=>(c E S).bind λr=>match r.1 with
  | .bl true=>(b E r.2).bind λp=>match p.1 with
    | .nx=>HR c b k p.2.1 p.2.2
    | .ret w=>Gc (.ret w,p.2)
  | .bl false=>Gc (.nx,E,r.2)
  |_=>none
noncomputable def OI(fuel:En->Nat)(c:Ev)(b:Ex):Ex:=λE S=>HR c b (fuel E) E S
theorem jb{X:Cx}{c:sW}{body:Wp tE}{k:Ev}{b:Ex}{pos:Pos}(fuel:En->Nat)(hp:PassesOwn (model X.prog X.w) X.A X.env X.xe)(hc:DT X c k)(hb:DSs X body b):DS X (.While c body [] pos) (OI fuel k b):=⟨
 FJ (W2 hp hc.pe hb.pe) λDn σ H z=>by
  obtain⟨M,E,S,fl,E',S',e,r,st,q⟩:=z
  refine⟨λm σ' H'=>∃E2 S2 M2,HR k b m E2 S2=Gc (fl,E',S')/\Gr M H M2 H'/\EnR X.K M2 E2 σ' H'/\StR X.K M2 S2 H',⟨fuel E,E,S,M,e,.refl st.mo,r,st⟩,λm σ2 H2 hW=>?_⟩
  obtain⟨E2,S2,M2,e2,g2,r2,st2⟩:=hW
  cases m with
  |zero=>cases e2
  |succ m=>
   obtain⟨⟨w3,S3⟩,e3,e2⟩:=Ak e2
   dsimp only at e2
   split at e2
   .obtain⟨⟨f4,E4,S4⟩,e4,e2⟩:=Ak e2
    refine⟨M2,E2,S2,true,S3,e3,r2,st2,λH3 M3 g3 st3=>?_⟩
    refine aQ ⟨λσ' H'=>∃m',m'<m+1/\∃E2 S2 M2,HR k b m' E2 S2=Gc (fl,E',S')/\Gr M H M2 H'/\EnR X.K M2 E2 σ' H'/\StR X.K M2 S2 H',λσ' H' z=>z,?_⟩
    refine⟨M3,E2,S3,f4,E4,S4,e4,r2.step g3.st,st3,?_⟩
    dsimp only at e2
    split at e2
    .exact λσ5 H5 M5 g5 r5 st5=>⟨m,by lia,E4,S4,M5,e2,(g2.trans g3).trans g5,r5,st5⟩
    .cases e2
     exact λv H5 M5 g5 st5 r5=>q _ _ M5 ((g2.trans g3).trans g5) st5 r5
   .cases e2
    refine⟨M2,_,S2,false,_,e3,r2,st2,λH3 M3 g3 st3=>?_⟩
    refine Z4 ?_
    exact q _ _ M3 (g2.trans g3) (r2.step g3.st) st3
   .cases e2⟩
noncomputable def Vp(i:Nat):En->Nat:=λE=>match at? E i with
 |some (.int j)=>j.natAbs+2
 |_=>0
section
variable{K:W1}{M M' M2:Ms}{H H' H2:Hp}{S:Sto}
structure GrX(M:Ms)(H:Hp)(M':Ms)(H':Hp):Prop where
 pre:M.cel <+: M'.cel
 fresh:∀a,a∈M'.cel->a∈M.cel\/H a=none
 keep:∀a o,H a=Gc o->a∉M.cel->H' a=Gc o
 some:∀a,H a≠none->H' a≠none
theorem GrX.none(g:GrX M H M' H'){a:rY}(h:H' a=none):H a=none:=by
 cases e:H a with
 |none=>rfl
 |some o=>exact absurd h (g.some a (by rw[e];intro z;cases z))
theorem Gr.x(g:Gr M H M' H'):GrX M H M' H':=⟨g.pre,g.fresh,g.keep,g.some⟩
theorem GrX.trans(h:GrX M H M' H')(g:GrX M' H' M2 H2):GrX M H M2 H2:=
 ⟨h.pre.trans g.pre,λa z=>(g.fresh a z).elim (h.fresh a) λz=>.inr (h.none z),λa o e n=>g.keep a o (h.keep a o e n) (λz=>by
   rcases h.fresh a z with z|z
   .exact n z
   .rw[e]at z;cases z),λa e=>g.some a (h.some a e)⟩
theorem StR.fm(r:StR K M S H){a:rY}(e:H a=none):StR K ⟨M.cel,a::M.tmp⟩ S (upd H a (.lst []))/\GrX M H ⟨M.cel,a::M.tmp⟩ (upd H a (.lst []))/\Sp1 M H ⟨M.cel,a::M.tmp⟩ (upd H a (.lst [])):=by
 have k:∀b o,H b=Gc o->upd H a (.lst []) b=Gc o:=FR e
 have na:¬M.mem a:=λz=>r.mo.some z e
 have s1:Sp1 M H ⟨M.cel,a::M.tmp⟩ (upd H a (.lst [])):=⟨r.mo,uG,λb z=>by
  rcases z with z|z
  .exact .inl (.inl z)
  .rcases rZ.mp z with z|z
   .subst z;exact .inr e
   .exact .inl (.inr z),λb o eb _=>k b o eb⟩
 refine⟨⟨λb z=>?_,r.nd,λb hb z=>?_,r.len,λn b c h1 h2=>?_⟩,⟨uG,λb z=>.inl z,λb o eb _=>k b o eb,λb eb z=>?_⟩,s1⟩
 .by_cases h:b=a
  .subst h;exact⟨_,Ac,trivial⟩
  .rw[AU h]
   refine r.mo b ?_
   rcases z with z|z
   .exact .inl z
   .rcases rZ.mp z with z|z
    .exact absurd z h
    .exact .inr z
 .rcases rZ.mp hb with hb|hb
  .subst hb;exact na (.inl z)
  .exact r.nt b hb z
 .exact(r.cell n b c h1 h2).step s1 λo e=>k _ _ e
 .cases h:H b with
  |none=>exact eb h
  |some o=>rw[k b o h]at z;cases z
theorem StR.bC(r:StR K M S H){a:rY}{ys:Wp V}(ha:a∈M.tmp):StR K M S (upd H a (.lst ys))/\Sp1 M H M (upd H a (.lst ys)):=by
 have s1:Sp1 M H M (upd H a (.lst ys)):=⟨r.mo,uG,λb z=>.inl z,λb o eb nb=>by rw[AU (λz=>nb (by rw[z];exact .inr ha))];exact eb⟩
 refine⟨⟨λb z=>?_,r.nd,r.nt,r.len,λn b c h1 h2=>?_⟩,s1⟩
 .by_cases h:b=a
  .subst h;exact⟨_,Ac,trivial⟩
  .rw[AU h];exact r.mo b z
 .have hb:b≠a:=λz=>r.nt a ha (by rw[<-z];exact sQ h1)
  exact(r.cell n b c h1 h2).step s1 λo e=>by rw[AU hb];exact e
theorem StR.cH{c:Wp rY}{t:Wp rY}{a:rY}{xs:Wp V}{ds:Wp D}{cf:sx}{d:D}{S':Sto}(r:StR K ⟨c,a::t⟩ S H)(nt:a∉t)(e:H a=Gc (.lst xs))(rr:Ae K ⟨c,a::t⟩ H xs ds)(ef:fin cf (.own ds) S=Gc (d,S')):∃c',StR K ⟨c',t⟩ S' H/\BX K ⟨c',t⟩ H (.ref a) d/\c <+: c'/\(∀b∈c',b∈c\/b=a):=by
 have nc:a∉c:=r.nt a sN
 cases cf with
 |false=>
  cases ef
  have s1:Sp1 ⟨c,a::t⟩ H ⟨c,t⟩ H:=⟨r.mo,uG,λb z=>.inl (z.imp id (rg _)),λ_ _ e _=>e⟩
  refine⟨c,⟨λb z=>r.mo b (z.imp id (rg _)),r.nd,λb hb=>r.nt b (rg _ hb),r.len,λn b cl h1 h2=>?_⟩,.lst e (λz=>z.elim nc nt) (rr.step s1),uG,λb z=>.inl z⟩
  exact(r.cell n b cl h1 h2).step s1 λo e=>e
 |true=>
  cases ef
  have s1:Sp1 ⟨c,a::t⟩ H ⟨c++[a],t⟩ H:=⟨r.mo,vY _ _,λb z=>by
   rcases z with z|z
   .rcases sX.mp z with z|z
    .exact .inl (.inl z)
    .exact .inl (.inr (by rw[sj.mp z];exact sN))
   .exact .inl (.inr (rg _ z)),λ_ _ e _=>e⟩
  have hl:c.length=S.length:=r.len
  refine⟨c++[a],⟨λb z=>?_,?_,λb hb z=>?_,by simp[hl],λn b cl h1 h2=>?_⟩,.ref ?_,vY _ _,λb z=>?_⟩
  .refine r.mo b ?_
   rcases z with z|z
   .rcases sX.mp z with z|z
    .exact .inl z
    .exact .inr (by rw[sj.mp z];exact sN)
   .exact .inr (rg _ z)
  .rw[wG]
   refine⟨r.nd,by simp,λx hx y hy z=>?_⟩
   simp at hy;subst hy
   exact nc (by rw[<-z];exact hx)
  .rcases sX.mp z with z|z
   .exact r.nt b (rg _ hb) z
   .rw[sj.mp z]at hb;exact nt hb
  .by_cases h:n<S.length
   .rw[rf (by rw[hl];exact h)]at h1
    rw[rf h]at h2
    exact(r.cell n b cl h1 h2).step s1 λo e=>e
   .have hm:n=S.length:=by
     have:=(r9.mp h2).1
     simp at this;lia
    subst hm
    rw[tK (by rw[hl];exact sD _)]at h1
    rw[tK (sD _)]at h2
    rw[hl]at h1
    simp at h1 h2
    subst h1 h2
    exact⟨xs,e,rr.step s1⟩
  .rw[<-hl];exact sU
  .rcases sX.mp z with z|z
   .exact .inl z
   .exact .inr (sj.mp z)
end
open Classical in
def Bp(gs:Gd)(t:Tf)(c:Ev)(f:Ev):Wp D->Wp D->En->Sto->rW (Wp D×Sto)
 | [],acc,_,S=>if gOk gs S then Gc (acc,S)else none
 |d::ds,acc,E,S=>if gOk gs S then(if acc.length<sizeLine then(t d E S).bind λE1=>(c E1 S).bind λr=>match r.1 with
   | .bl true=>(f E1 r.2).bind λp=>Bp gs t c f ds (acc++[p.1]) E1 p.2
   | .bl false=>Bp gs t c f ds acc E1 r.2
   |_=>none
  else none)else none
noncomputable def C1:Ev:=λ_ S=>Gc (.bl true,S)
noncomputable def RG(cap:Wp Nat)(m:Nat)(E:En):En:=cap.map (at? E)++sH m none
def MV(cf:sx)(cap:Wp Nat)(m:Nat)(s:Sr)(t:Tf)(c:Ev)(f:Ev):Ev:=λE S=>(s E S).bind λr=>(Bp r.1.2 t c f r.1.1 [] (RG cap m E) r.2).bind λq=>fin cf (.own q.1) q.2
noncomputable abbrev EA:=MV false
noncomputable abbrev ZL:=MV true
noncomputable def ixC(cap:Wp Nat)(m:Nat):Wp (rW Nat):=cap.map Gc++sH m none
theorem EnR.cap{K:W1}{M:Ms}{E:En}{σ:Sg}{H:Hp}(r:EnR K M E σ H)(cap:Wp Nat)(m:Nat):EnR K M (RG cap m E) (sig (ixC cap m) σ) H:=by
 unfold RG sig ixC
 refine⟨by simp,λi d e=>?_⟩
 have h1:=US e
 rw[sY]at h1
 cases e1:cap[i]? with
 |none=>rw[e1]at h1;cases h1
 |some j=>
  rw[e1]at h1
  have h2:at? E j=Gc d:=by simpa using h1
  obtain⟨v,hv,rd⟩:=r.val j d (at?_some h2)
  refine⟨v,?_,rd⟩
  have hi:i<cap.length:=(r9.mp e1).1
  rw[List.map_append,rf (by simpa using hi),sY,sY,e1]
  show Gc ((σ[j]?).join)=Gc (Gc v)
  rw[hv]
  rfl
theorem VP{K:W1}{cf:sx}{cap:Wp Nat}{m:Nat}{s:Sr}{t:Tf}{c f:Ev}{σ:Sg}{H:Hp}{Q:VK}(h:tD K (MV cf cap m s t c f) σ H Q):cW (ixC cap m) (tI K s) (tG K t) (tDT K c) (tD K f) σ H Q:=by
 obtain⟨M,E,S,d,S',e,r,st,q⟩:=h
 obtain⟨⟨⟨ds,gs⟩,S1⟩,e1,e⟩:=Ak e
 obtain⟨⟨accf,Sf⟩,e3,e⟩:=Ak e
 dsimp only at e e3
 refine⟨M,E,S,ds,gs,S1,e1,r,st,λJ H1 M1 g1 st1 it A0 hD=>?_⟩
 obtain⟨st0,gx0,s0⟩:=st1.fm hD
 have nt:A0∉M1.tmp:=λz=>st1.mo.some (.inr z) hD
 refine⟨λi mm σ' H' ys=>mm=ds.length-i/\∃Ei Si Mi acc,Bp gs t c f (ds.drop i) acc Ei Si=Gc (accf,Sf)/\GrX M1 H1 Mi H'/\Mi.tmp=A0::M1.tmp/\EnR K Mi Ei σ' H'/\StR K Mi Si H'/\H' A0=Gc (.lst ys)/\Ae K Mi H' ys acc,
  ⟨_,rfl,_,S1,_,[],e3,gx0,rfl,((r.step g1.st).step s0).cap cap m,st0,Ac,.nil⟩,λi mm σ2 H2 ys hW=>?_⟩
 obtain⟨rfl,Ei,Si,Mi,acc,ec,gx,ht,r2,st2,hy,ry⟩:=hW
 have sp:Sp1 M1 H1 Mi H2:=⟨st1.mo,gx.pre,λa z=>by
  rcases z with z|z
  .exact(gx.fresh a z).imp .inl id
  .rw[ht]at z
   rcases rZ.mp z with z|z
   .subst z;exact .inr hD
   .exact .inl (.inr z),λa o eo no=>gx.keep a o eo λz=>no (.inl z)⟩
 refine⟨hy,?_⟩
 cases ed:ds.drop i with
 |nil=>
  rw[ed]at ec
  unfold Bp at ec
  split at ec
  .rename_i ok
   cases ec
   left
   obtain⟨ci,ti⟩:=Mi
   have ht':ti=A0::M1.tmp:=ht
   subst ht'
   obtain⟨c',st',rd',pr',sub'⟩:=st2.cH nt hy ry e
   refine⟨it.stop i H2 _ _ sp st2 ok (zg.mp ed),q _ _ ⟨c',M1.tmp⟩ (g1.trans ⟨st1.mo,gx.pre.trans pr',rfl,λa z=>?_,gx.keep,gx.some⟩) st' rd'⟩
   rcases sub' a z with z|z
   .exact gx.fresh a z
   .subst z;exact .inr hD
  .cases ec
 |cons d rest=>
  obtain⟨d1,d2,d3⟩:=O8 ed
  rw[ed]at ec
  unfold Bp at ec
  split at ec
  .rename_i ok
   split at ec
   .rename_i hz
    obtain⟨E3,e4,ec⟩:=Ak ec
    obtain⟨⟨w5,S5⟩,e5,ec⟩:=Ak ec
    right
    refine⟨it.go i H2 Mi Si sp st2 ok d3,by rw[ry.length];exact hz,λx H3 hyl=>?_⟩
    obtain⟨k3,rx⟩:=it.yld i H2 Mi Si x H3 d sp st2 ok d1 hyl
    have g3:Gr Mi H2 Mi H3:=.grow st2.mo k3
    have st3:=st2.grow k3
    refine⟨Mi,d,Ei,E3,Si,e4,r2.step g3.st,st3,rx,λσ4 r4=>?_⟩
    have hA:A0∈Mi.tmp:=by rw[ht];exact sN
    have hy3:H3 A0=Gc (.lst ys):=k3 _ _ hy
    have ry3:Ae K Mi H3 ys acc:=ry.step g3.st
    have fin:∀{E6:En} {S6:Sto} {M6:Ms} {H6:Hp} {zs:Wp V} {acc6:Wp D},Bp gs t c f rest acc6 E6 S6=Gc (accf,Sf)->GrX M1 H1 M6 H6->M6.tmp=A0::M1.tmp->EnR K M6 E6 σ4 H6->StR K M6 S6 H6->H6 A0=Gc (.lst zs)->Ae K M6 H6 zs acc6->
      ∃m',m'<ds.length-i/\(m'=ds.length-(i+1)/\∃Ei Si Mi acc,Bp gs t c f (ds.drop (i+1)) acc Ei Si=Gc (accf,Sf)/\GrX M1 H1 Mi H6/\Mi.tmp=A0::M1.tmp/\EnR K Mi Ei σ4 H6/\StR K Mi Si H6/\H6 A0=Gc (.lst zs)/\Ae K Mi H6 zs acc):=
     λ{E6 S6 M6 H6 zs acc6} ec g6 t6 r6 st6 h6 y6=>⟨_,by lia,rfl,E6,S6,M6,acc6,by rw[d2];exact ec,g6,t6,r6,st6,h6,y6⟩
    dsimp only at ec
    split at ec
    .obtain⟨⟨w7,S7⟩,e7,ec⟩:=Ak ec
     refine⟨Mi,E3,Si,true,S5,e5,r4,st3,λH5 M5 g5 st5=>?_⟩
     refine aQ ?_
     refine⟨M5,E3,S5,w7,S7,e7,r4.step g5.st,st5,λy H7 M7 g7 st7 d7=>?_⟩
     have nA:∀{M6:Ms} {H6:Hp} {S6:Sto},StR K M6 S6 H6->A0∈M6.tmp->A0∉M6.cel:=λr6 h6=>r6.nt A0 h6
     have hA5:A0∈M5.tmp:=by rw[g5.tmp];exact hA
     have hA7:A0∈M7.tmp:=by rw[g7.tmp];exact hA5
     have hy5:H5 A0=Gc (.lst ys):=g5.keep _ _ hy3 (nA st3 hA)
     have hy7:H7 A0=Gc (.lst ys):=g7.keep _ _ hy5 (nA st5 hA5)
     have ry7:Ae K M7 H7 ys acc:=(ry3.step g5.st).step g7.st
     refine⟨hy7,?_⟩
     obtain⟨st8,s8⟩:=st7.bC (ys:=ys++[y]) hA7
     have gx7:GrX M1 H1 M7 H7:=((gx.trans g3.x).trans g5.x).trans g7.x
     have gx8:GrX M1 H1 M7 (upd H7 A0 (.lst (ys++[y]))):=⟨gx7.pre,gx7.fresh,λa o eo no=>by
      rw[AU (λz=>by subst z;rw[hD]at eo;cases eo)]
      exact gx7.keep a o eo no,λa ea=>by
      by_cases h:a=A0
      .subst h;rw[Ac];intro z;cases z
      .rw[AU h];exact gx7.some a ea⟩
     exact fin ec gx8 (by rw[g7.tmp,g5.tmp];exact ht) (((r4.step g5.st).step g7.st).step s8) st8 Ac ((ry7.append (.cons d7 .nil)).step s8)
    .refine⟨Mi,E3,Si,false,S5,e5,r4,st3,λH5 M5 g5 st5=>?_⟩
     refine Z4 ?_
     exact fin ec ((gx.trans g3.x).trans g5.x) (by rw[g5.tmp];exact ht) (r4.step g5.st) st5 (g5.keep _ _ hy3 (st3.nt A0 hA)) (ry3.step g5.st)
    .cases ec
   .cases ec
  .cases ec
structure DTs(X:Cx)(ifs:Wp sW)(c:Ev):Prop where
 pe:PTs X ifs (tDT X.K c)
theorem X7{X:Cx}{e:Wp sW}{t t':TT}(h:PTs X e t)(m:∀σ H Q,t' σ H Q->t σ H Q):PTs X e t':=λpins s σ H Q I q=>h pins s σ H Q I (m _ _ _ q)
theorem Ud{X:Cx}:DTs X [] C1:=⟨X7 Zh λσ H Q z=>by
 obtain⟨M,E,S,b,S',e,r,st,q⟩:=z
 cases e
 exact q _ M (.refl st.mo) st⟩
theorem mT{X:Cx}{c:sW}{f:Ev}(h:DT X c f):DTs X [c] f:=⟨ao h.pe⟩
section
variable{X:Cx}{N':Wp Str}{cf:sx}{cap:Wp Nat}{m:Nat}{scope:uT}{elt tg iter:sW}{ifs:Wp sW}{pos:Pos}{s:Sr}{t:Tf}{c f:Ev}
def Blk(X:Cx)(N':Wp Str)(scope:uT)(tg:sW)(ifs:Wp sW)(elt:sW)(t:Tf)(c f:Ev):Prop:=
 ∀(s:rX) (H:Hp) (fp:Wp rY),DG (Hh X N' scope s H fp) tg t/\DTs (Hh X N' scope s H fp) ifs c/\DE (Hh X N' scope s H fp) elt f
theorem ZX(cap:Wp Nat)(m:Nat)(N':Wp Str)(hc:X.calm=true)(S:Ab X.N X.env.scope N' (ixC cap m) scope)(hi:DI X tg iter s)(hb:Blk X N' scope tg ifs elt t c f)(hs:∀x,foldedSetIterable iter X.env x=pure x:=by intro _;rfl):DE X (.ListComp elt [⟨tg,iter,ifs,0⟩] scope pos) (MV cf cap m s t c f):=⟨
 BA (aP (g:=tG X.K t) (tc:=tDT X.K c) (te:=tD X.K f) hc S hi.pe (λs H fp=>⟨(hb s H fp).1.pe,(hb s H fp).2.1.pe,(hb s H fp).2.2.pe⟩) hs) λ_ _ _ h=>VP h⟩
theorem Rv{i:Nat}{y:Str}{py spos:Pos}(cap:Wp Nat)(m:Nat)(N':Wp Str)(hc:X.calm=true)(hN:X.N.Nodup)(hi':X.N[i]?=Gc y)(hx:X.env.scope.names.lookup y=Gc .local)(S:Ab X.N X.env.scope N' (ixC cap m) scope)(hi:DI X tg iter s)(hb:Blk X N' scope tg ifs elt t c f)(hsw:swapsWith (.ListComp elt [⟨tg,iter,ifs,0⟩] scope pos) (Gc (.Name y py)) spos.line X.env=pure true:=by rfl)(hs:∀x,foldedSetIterable iter X.env x=pure x:=by intro _;rfl):DS X (.Assign [.Name y py] (.ListComp elt [⟨tg,iter,ifs,0⟩] scope pos) spos) (Bs i (MV cf cap m s t c f)):=⟨
 FJ (SD (g:=tG X.K t) (tc:=tDT X.K c) (te:=tD X.K f) hc hN hi' hx S hi.pe (λs H fp=>⟨(hb s H fp).1.pe,(hb s H fp).2.1.pe,(hb s H fp).2.2.pe⟩) hsw hs) λDn σ H z=>by
  obtain⟨M,E,S,fl,E',S',e,r,st,q⟩:=z
  obtain⟨⟨d,S1⟩,e1,e⟩:=Hu e
  cases e
  exact VP ⟨M,E,S,d,S1,e1,r,st,λv H1 M1 g1 st1 r1=>q _ _ M1 g1 ((r.step g1.st).put r1) st1⟩⟩
end
noncomputable def ID{α:Type}(xs:Wp α)(lo hi:rW Int):Wp α:=(xs.drop (HT.sIx xs.length 0 lo)).take (HT.sIx xs.length xs.length hi-HT.sIx xs.length 0 lo)
theorem Vq{K:W1}{M:Ms}{H:Hp}{xs:Wp V}{ds:Wp D}(h:Ae K M H xs ds)(lo hi:rW Int):Ae K M H (Yt xs lo hi) (ID ds lo hi):=by
 unfold Yt ID
 rw[h.length]
 exact(h.drop _).take _
theorem Vl{α:Type}{xs:Wp α}{lo hi:rW Int}(h1:HT.sIx xs.length 0 lo=0)(h2:HT.sIx xs.length xs.length hi=xs.length):ID xs lo hi=xs:=by
 unfold ID
 rw[h1,h2]
 simp
noncomputable def wSl(lo hi:rW Int):Op1:=λw=>match w with
 | .val (.tup ds)=>Gc (.val (.tup (ID ds lo hi)))
 | .val (.str z)=>if z.length<=sizeLine then Gc (.val (.str (zq z lo hi)))else none
 |w=>(asL w).map λds=>.own (ID ds lo hi)
def qF(K:W1):V->rW Int->rW Int->Hp->VK->Prop:=λx lo hi H Q=>∃M w r,wSl lo hi w=Gc r/\MOk M H/\Sh K M H x w/\∀v H',Nw K M H H' v r->Q v H'
theorem fW{X:Cx}:SlR X (λx lo hi H Q=>∃z,x=.str z/\z.length<=sizeLine/\Q (.str (zq z lo hi)) H):=by
 intro pins s σ H x v vl vu lo hi sl Q I rx hs pl pu h
 obtain⟨z,rfl,hz,q⟩:=h
 obtain⟨t,rfl⟩:=rx
 have fin:∀t' k,EP X pins σ Q (.str (zq z lo hi) t') {s with toks:=k}:=λt' k=>⟨.str _,H,I.tok k,⟨t',rfl⟩,q⟩
 cases pl with
 |none=>
  cases pu with
  |none=>exact⟨"str",_,vo.lookup,yP _ _ _,vt (l:=none) (u:=none) (st:=none) hs rfl (xp ⟨sI (y7 z _ _) hz,fin⟩)⟩
  |int j u=>exact⟨"str",_,vo.lookup,yP _ _ _,vt (l:=none) (u:=Gc (j,u)) (st:=none) hs rfl (xp ⟨sI (y7 z _ _) hz,fin⟩)⟩
 |int i u'=>
  cases pu with
  |none=>exact⟨"str",_,vo.lookup,yP _ _ _,vt (l:=Gc (i,u')) (u:=none) (st:=none) hs rfl (xp ⟨sI (y7 z _ _) hz,fin⟩)⟩
  |int j u=>exact⟨"str",_,vo.lookup,yP _ _ _,vt (l:=Gc (i,u')) (u:=Gc (j,u)) (st:=none) hs rfl (xp ⟨sI (y7 z _ _) hz,fin⟩)⟩
theorem nN{X:Cx}:SlR X (qF X.K):=by
 intro pins s σ H x v vl vu lo hi sl Q I rx hs pl pu h
 obtain⟨M,w,r,e,mo,sh,q⟩:=h
 unfold wSl at e
 split at e
 .rename_i ds
  cases e
  cases sh with
  |tup hx rr=>
   rename_i a xs
   have hl:=rr.length
   by_cases hw:HT.sIx xs.length 0 lo=0/\HT.sIx xs.length xs.length hi=xs.length
   .refine St.fq pins s σ H _ v vl vu lo hi sl Q I rx hs pl pu ⟨a,xs,rfl,hx,hw.1,hw.2,?_⟩
    have ew:ID ds lo hi=ds:=Vl (by rw[<-hl];exact hw.1) (by rw[<-hl];exact hw.2)
    rw[ew]at q
    exact q _ _ (.same mo (.tup hx rr))
   .exact gJ pins s σ H _ v vl vu lo hi sl Q I rx hs pl pu ⟨a,xs,rfl,hx,hw,λp hp=>q _ _ (.tup mo hp (Vq rr lo hi))⟩
 .split at e
  .cases e
   cases sh
   exact fW pins s σ H _ v vl vu lo hi sl Q I rx hs pl pu ⟨_,rfl,by assumption,q _ _ (.same mo (.str _))⟩
  .cases e
 .cases e1:asL w with
  |none=>rw[e1]at e;cases e
  |some ds=>
   rw[e1]at e
   cases e
   obtain⟨a,xs,rfl,h1,rr⟩:=sh.l e1
   exact aI pins s σ H _ v vl vu lo hi sl Q I rx hs pl pu ⟨a,xs,rfl,.of h1,λp hp=>q _ _ (.lst mo hp (Vq rr lo hi))⟩
noncomputable def cn:Wv->rW Int
 | .val (.int i)=>Gc i
 |_=>none
noncomputable def JZ(l h:sx):OpN:=λws=>match l,h,ws with
 |false,false,[a]=>wSl none none a
 |true,false,[a,b]=>(cn b).bind λi=>wSl (Gc i) none a
 |false,true,[a,b]=>(cn b).bind λi=>wSl none (Gc i) a
 |true,true,[a,b,c]=>(cn b).bind λi=>(cn c).bind λj=>wSl (Gc i) (Gc j) a
 |_,_,_=>none
theorem Ux{K:W1}{M:Ms}{H:Hp}{v:V}{w:Wv}{i:Int}(s:Sh K M H v w)(e:cn w=Gc i):v=.int i:=by
 cases w with
 |own ds=>cases e
 |val d=>
  cases d<;>first|(cases e;done)|skip
  cases e;cases s;rfl
section
variable{X:Cx}{e lo hi:sW}{oe ol oh:Ev}{c:sx}{pos p2:Pos}
theorem Tc(h:DE X e oe)(hl:DE X lo ol):DE X (.Subscript e (.Slice (Gc lo) none none p2) pos) (Ny c (JZ true false) [oe,ol]):=⟨BA (Nv nN h.pe (NK hl.pe) VC) λσ H Q z=>by
 obtain⟨M0,E,S0,w,S1,e,r,st,q⟩:=z
 have z:tD X.K oe σ H λx H1=>tD X.K ol σ H1 λy H2=>rN X.K (JZ true false) [x,y] H2 Q:=Ml (Q:=Q) e r st q
 refine Ds z λx H1 z1=>Ds z1 λy H2 z2=>?_
 obtain⟨M,ws,w',e1,mo,sh,q1⟩:=z2
 cases sh with
 |cons h1 t=>
  cases t with
  |cons h2 t=>
   cases t
   obtain⟨i,ei,e1⟩:=Ak e1
   exact⟨i,Ux h2 ei,M,_,w',e1,mo,h1,q1⟩⟩
theorem NT(h:DE X e oe)(hh:DE X hi oh):DE X (.Subscript e (.Slice none (Gc hi) none p2) pos) (Ny c (JZ false true) [oe,oh]):=⟨BA (Nv nN h.pe VC (NK hh.pe)) λσ H Q z=>by
 obtain⟨M0,E,S0,w,S1,e,r,st,q⟩:=z
 have z:tD X.K oe σ H λx H1=>tD X.K oh σ H1 λy H2=>rN X.K (JZ false true) [x,y] H2 Q:=Ml (Q:=Q) e r st q
 refine Ds z λx H1 z1=>Ds z1 λy H2 z2=>?_
 obtain⟨M,ws,w',e1,mo,sh,q1⟩:=z2
 cases sh with
 |cons h1 t=>
  cases t with
  |cons h2 t=>
   cases t
   obtain⟨i,ei,e1⟩:=Ak e1
   exact⟨i,Ux h2 ei,M,_,w',e1,mo,h1,q1⟩⟩
theorem Ti{K:W1}{M:Ms}{H:Hp}{S:Sto}{v:V}{d:D}{i:Int}(r:BX K M H v d)(e:cn (dr S d)=Gc i):v=.int i:=by
 cases r<;>first|(cases e;done)|skip
 .cases e;rfl
 .rename_i n h
  unfold dr at e
  dsimp only at e
  split at e<;>cases e
theorem mQ(h:DE X e oe)(hl:DE X lo ol)(hh:DE X hi oh):DE X (.Subscript e (.Slice (Gc lo) (Gc hi) none p2) pos) (Ny c (JZ true true) [oe,ol,oh]):=⟨BA (Nv nN h.pe (NK hl.pe) (NK hh.pe)) λσ H Q z=>by
 obtain⟨M0,E,S0,w,S1,e,r,st,q⟩:=z
 obtain⟨⟨ds,S2⟩,e1,e⟩:=Ak e
 obtain⟨w2,e2,e⟩:=Ak e
 obtain⟨⟨d1,Sa⟩,ea,e1⟩:=Ak e1
 obtain⟨⟨ds1,Sb⟩,eb,e1⟩:=Hu e1
 cases e1
 obtain⟨⟨d2,Sc⟩,ec,eb⟩:=Ak eb
 obtain⟨⟨ds2,Sd⟩,ed,eb⟩:=Hu eb
 cases eb
 obtain⟨⟨d3,Se⟩,ee,ed⟩:=Ak ed
 obtain⟨⟨ds3,Sf⟩,ef,ed⟩:=Hu ed
 cases ed
 cases ef
 obtain⟨i,ei,e2⟩:=Ak e2
 obtain⟨j,ej,e2⟩:=Ak e2
 refine⟨M0,E,S0,d1,Sa,ea,r,st,λx H1 M1 g1 st1 r1=>?_⟩
 refine⟨M1,E,Sa,d2,Sc,ec,r.step g1.st,st1,λy H2 M2 g2 st2 r2=>⟨i,?_,?_⟩⟩
 .exact Ti r2 ei
 refine⟨M2,E,Sc,d3,Se,ee,(r.step g1.st).step g2.st,st2,λu H3 M3 g3 st3 r3=>⟨j,?_,?_⟩⟩
 .exact Ti r3 ej
 refine⟨M3,_,w2,e2,st3.mo,cD st3 ((r1.step g2.st).step g3.st),λv H4 n=>?_⟩
 obtain⟨M4,g4,st4,d4⟩:=n.fin st3 e
 exact q v H4 M4 (((g1.trans g2).trans g3).trans g4) st4 d4⟩
noncomputable def R1{α:Type}(xs:Wp α):Wp α:=(tj xs.length).filterMap λk=>xs[St.NI xs.length k]?
theorem bU{K:W1}{M:Ms}{H:Hp}{xs:Wp V}{ds:Wp D}(h:Ae K M H xs ds):Ae K M H (R1 xs) (R1 ds):=by
 unfold R1
 rw[h.length]
 generalize tj ds.length=ks
 induction ks with
 |nil=>exact .nil
 |cons k ks ih=>
  rw[tQ,tQ]
  cases e:ds[St.NI ds.length k]? with
  |none=>
   have:xs[St.NI ds.length k]?=none:=by rw[vc]at e ⊢; rw[h.length];exact e
   rw[this]
   exact ih
  |some d=>
   obtain⟨x,h1,h2⟩:=h.get e
   rw[h1]
   exact .cons h2 ih
noncomputable def gW:Op1
 | .val (.tup ds)=>Gc (.val (.tup (R1 ds)))
 |_=>none
noncomputable def mU(K:W1)(te:TE):TE:=λσ H Q=>te σ H λx H1=>∃a xs,x=.ref a/\SqT K H1 a xs/\∀p,H1 p=none->Q (.ref p) (upd H1 p (.tup (R1 xs)))
theorem Zc{e:sW}{te:TE}{p1 p2 p3 pos:Pos}{k:Nat}(he:PE X e te):PE X (.Subscript e (.Slice none none (Gc (.UnaryOp .USub (.Constant (.int 1) k p1) p2)) p3) pos) (mU X.K te):=by
 intro pins s σ H Q I h
 refine zV (thn (he pins s σ H _ I h) λv s1 ⟨x,H1,I1,r1,q1⟩=>?_)
 obtain⟨a,xs,rfl,hx,q⟩:=q1
 cases r1
 refine wpAny_Slice ?_
 rw[AAA]
 refine sG (sG ?_)
 rw[evalPart_some]
 refine thn ((gU (X:=X) Yh (YZ (i:=1) (j:=k) (pos:=p1)) (pos:=p2)) pins s1 σ H1 (λv H2=>v=.int (-1)/\H2=H1) I1 ⟨_,rfl,rfl,rfl⟩) λu s2 ⟨y,H2,I2,r2,ey,eh⟩=>?_
 subst ey eh
 obtain⟨tk,rfl⟩:=r2
 have I4:Inv X pins σ H2 {s2 with heap:=s2.heap.push {cls:=.type "slice",data:=.fields #[.none,.none,.int (-1) tk]}}:=I2.kept (t':=s2.toks) λb ob q=>rV _ q
 obtain⟨its,r,ht,hz⟩:=I4.tuple hx
 have hlen:its.toArray.size=xs.length:=by rw[sJ];exact r.length.symm
 refine AAO (ops:=[.ref a,.ref s2.heap.objs.size]) ht.typeIs tM.lookup ?_ (by with_unfolding_all rfl)
 refine St.Jc ht (AAG ..) (by rw[hlen];exact hz) ?_
 have fr:=I4.hok.fresh (sD _)
 refine⟨.ref _,_,I4.laid (o:=.tup (R1 xs)) (λb ob q=>rV _ q) (sD _) ?_,rfl,q _ fr⟩
 have:=St.Vals.pick r (St.NI xs.length) (tj xs.length)
 refine⟨?_,_,this,?_⟩
 .unfold R1
  refine sI (wc _ _) ?_
  rw[yf]
  exact hz
 .have e:((tj its.toArray.size).filterMap λk=>its.toArray[St.NI its.toArray.size k]?)=((tj xs.length).filterMap λk=>its[St.NI xs.length k]?):=by
   rw[hlen]
   congr 1
   funext k
   rw[List.getElem?_toArray]
  rw[e]
  exact vk _ _
theorem dg{p1 p3:Pos}{k:Nat}(h:DE X e oe):DE X (.Subscript e (.Slice none none (Gc (.UnaryOp .USub (.Constant (.int 1) k p1) p2)) p3) pos) (eOp (o1 gW) [oe]):=⟨BA (Zc h.pe) λσ H Q z=>by
 refine Ds (Ot z) λx H1 z1=>?_
 obtain⟨M,w,r,e,mo,sh,q⟩:=z1
 unfold gW at e
 split at e
 .cases e
  cases sh with
  |tup hx rr=>exact⟨_,_,rfl,hx,λp hp=>q _ _ (.tup mo hp (bU rr))⟩
 .cases e⟩
noncomputable def wUp:Op1
 | .val (.str z)=>if(wy z).length<=sizeLine then Gc (.val (.str (wy z)))else none
 |_=>none
theorem WC:MtR X "str.upper" (λx xs H Q=>xs=[]/\∃z,x=.str z/\(wy z).length<=sizeLine/\Q (.str (wy z)) H):=by
 intro pins s σ H x xs v us Q I rx rv h
 obtain⟨rfl,z,rfl,hz,q⟩:=h
 cases rv
 obtain⟨t,rfl⟩:=rx
 have hfit:zx (wy z).length=false:=by
  unfold zx
  exact ue (by lia)
 exact call_gives y8 (yP _ _ _) PySem.F.entry_str_upper (PySem.F.args_str_upper_1 _) (gives_str_upper z t hfit) ⟨hz,⟨.str _,H,I.tok _,⟨_,rfl⟩,q⟩⟩
theorem YG{o:sW}{oo:Ev}{apos cpos:Pos}(h:DE X o oo)(hbase:attributeBase o "upper" X.env (eval o X.env)=eval o X.env:=by rfl)(hline:(apos.endLine==cpos.line)=true:=by rfl):DE X (.Call (.Attribute o "upper" apos) [] [] cpos) (eOp (o1 wUp) [oo]):=⟨
 BA (dQ PySem.F.plainAttrs_str y8 PySem.F.type_str_upper WC h.pe hbase hline) λσ H Q z=>by
  refine Ds (Ot z) λx H1 z1=>?_
  obtain⟨M,w,r,e,mo,sh,q⟩:=z1
  unfold wUp at e
  split at e
  .split at e
   .cases e
    cases sh
    exact⟨rfl,rfl,_,rfl,by assumption,q _ _ (.same mo (.str _))⟩
   .cases e
  .cases e⟩
noncomputable def Ni(oa ob oc:Ev):Ev:=λE S=>(evs [oa,ob] E S).bind λr=>match r.1 with
 | [.int i,.int j]=>if i<=j then(oc E r.2).bind λp=>match p.1 with
     | .int k=>Gc (.bl (decide (j<=k)),p.2)
     |_=>none
   else Gc (.bl false,r.2)
 |_=>none
theorem lJ{K:W1}{oa ob oc:Ev}{σ:Sg}{H:Hp}{Q:VK}(h:tD K (Ni oa ob oc) σ H Q):Y3 (rI0 λi j=>.bl (decide (i<=j))) (rI0 λi j=>.bl (decide (i<=j))) (tD K oa) (tD K ob) (tD K oc) σ H Q:=by
 obtain⟨M,E,S,d,S',e,r,st,q⟩:=h
 obtain⟨⟨ws,S1⟩,e1,e⟩:=Ak e
 have zz:=EU (K:=K) (σ:=σ) (fs:=[oa,ob]) (Q:=λvs H2=>∃i j:Int,vs=[V.int i,V.int j]/\rI0 (λi j=>.bl (decide (i<=j))) (.int i) (.int j) H2 λz H3=>∃k,z=.bl k/\(if k=true then tD K oc σ H3 λw' H4=>rI0 (λi j=>.bl (decide (i<=j))) (.int j) w' H4 Q else Q (.bl false) H3)) e1 r st (λvs H1 M1 g1 st1 r1=>by
  dsimp only at e
  split at e
  .rename_i i j
   have hv:=VG r1
   refine⟨i,j,hv,i,j,rfl,rfl,_,rfl,?_⟩
   by_cases hij:i<=j
   .rw[sZ hij]at e
    rw[sZ (by simpa using hij)]
    obtain⟨⟨w2,S2⟩,e2,e⟩:=Ak e
    dsimp only at e
    split at e
    .rename_i k
     cases e
     refine⟨M1,E,S1,_,_,e2,r.step g1.st,st1,λv H2 M2 g2 st2 r2=>?_⟩
     cases r2
     exact⟨j,k,rfl,rfl,q _ _ M2 (g1.trans g2) st2 (.bl _)⟩
    .cases e
   .rw[sg hij]at e
    cases e
    rw[sg (by simpa using hij)]
    exact q _ _ M1 g1 st1 (.bl _)
  .cases e)
 refine Ds (show tD K oa σ H _ from zz) λx H1 z1=>Ds z1 λy H2 z2=>?_
 obtain⟨i,j,ev,z2⟩:=z2
 cases ev
 exact z2
theorem aa{a b c:sW}{oa ob oc:Ev}(ha:DE X a oa)(hb:DE X b ob)(hc:DE X c oc)(hm:lastMarks [.LtE,.LtE] [b,c]=false:=by with_unfolding_all rfl):DE X (.Compare a [.LtE,.LtE] [b,c] pos) (Ni oa ob oc):=⟨
 BA (WN aO aO ha.pe hb.pe hc.pe hm) λ_ _ _ h=>lJ h⟩
structure PV(K:W1)(mg:Str->rW rS)(x:Str)(d:D):Prop where
 ex:∃v u,mg x=Gc u/\RelV v u/\∀M H,BX K M H v d
theorem Zm{x:Str}{d:D}(c:PV X.K X.mg x d)(hg:Gl X x)(hd:(x==("__debug__":Str))=false:=by decide):DE X (.Name x pos) (eC d):=⟨by
 obtain⟨v,u,h1,h2,h3⟩:=c.ex
 exact BA (Nc hg h1 h2 hd) λσ H Q z=>by
  obtain⟨M0,E,S0,w,S1,e,rr,st,q⟩:=z
  cases e
  exact q _ _ M0 (.refl st.mo) st (h3 _ _)⟩
theorem SE{x:Str}{T:vB}(hg:Gl X x)(hm:X.mg x=none)(hv:bootBuiltins x=Gc (.type T))(hn:x≠ "__name__":=by decide)(hd:(x==("__debug__":Str))=false:=by decide):DE X (.Name x pos) (eC (.ty T)):=
 N5 (aC (v:=.ty T) hg hm hv rfl hn hd) λ_ _ _=>.ty T
structure gd(K:W1)(w:tU)(mg:Str->rW rS)(x:Str)(tbl:Wp (Str×D)):Prop where
 ex:∃a kvs,mg x=Gc (.ref a)/\TopD K w a kvs/\∀k,(tbl.lookup k=none->kvs.lookup k=none)/\∀d,tbl.lookup k=Gc d->∃v,kvs.lookup k=Gc v/\∀M H,BX K M H v d
noncomputable def du(tbl:Wp (Str×D)):Op1
 | .val (.str k)=>(tbl.lookup k).map .val
 |_=>none
noncomputable def Mt(neg:sx)(tbl:Wp (Str×D)):Op1
 | .val (.str k)=>Gc (.val (.bl (if neg then !(tbl.lookup k).isSome else(tbl.lookup k).isSome)))
 |_=>none
theorem iV{x:Str}{tbl:Wp (Str×D)}{i:sW}{o:Ev}{p:Pos}(c:gd X.K X.w X.mg x tbl)(hg:Gl X x)(h:DE X i o)(hs:Nq i:=by exact λ_ _=>rfl)(hd:(x==("__debug__":Str))=false:=by decide):DE X (.Subscript (.Name x p) i pos) (eOp (o1 (du tbl)) [o]):=⟨by
 obtain⟨a,kvs,h1,h2,h3⟩:=c.ex
 refine BA (bV Yf (Nc (v:=.ref a) hg h1 rfl hd) h.pe hs) λσ H Q z=>?_
 refine Ds (Ot z) λy H1 z1=>?_
 obtain⟨M,w,r,e,mo,sh,q⟩:=z1
 unfold du at e
 split at e
 .rename_i k
  cases e1:tbl.lookup k with
  |none=>rw[e1]at e;cases e
  |some d=>
   rw[e1]at e
   cases e
   cases sh
   obtain⟨v,q1,q2⟩:=(h3 k).2 d e1
   exact⟨a,kvs,k,v,rfl,rfl,h2,q1,q _ _ (.same mo (q2 _ _))⟩
 .cases e⟩
theorem eD{x:Str}{tbl:Wp (Str×D)}{neg:sx}{a:rY}{kvs:Wp (Str×V)}(h2:TopD X.K X.w a kvs)(h3:∀k,(tbl.lookup k=none->kvs.lookup k=none)/\∀d,tbl.lookup k=Gc d->∃v,kvs.lookup k=Gc v/\∀M H,BX X.K M H v d){y:V}{H:Hp}{Q:VK}(z:rUn X.K (Mt neg tbl) y H Q):ZD X.K X.w neg y (.ref a) H Q:=by
 obtain⟨M,w,r,e,mo,sh,q⟩:=z
 unfold Mt at e
 split at e
 .rename_i k
  cases e
  cases sh
  refine⟨a,kvs,k,rfl,rfl,h2,?_⟩
  have:(kvs.lookup k).isSome=(tbl.lookup k).isSome:=by
   cases e1:tbl.lookup k with
   |none=>rw[(h3 k).1 e1];rfl
   |some d=>obtain⟨v,q1,_⟩:=(h3 k).2 d e1;rw[q1];rfl
  rw[this]
  exact q _ _ (.same mo (.bl _))
 .cases e
theorem Pc{x:Str}{tbl:Wp (Str×D)}{i:sW}{o:Ev}{p:Pos}(c:gd X.K X.w X.mg x tbl)(hg:Gl X x)(h:DE X i o)(hd:(x==("__debug__":Str))=false:=by decide):DT X (.Compare i [.NotIn] [.Name x p] pos) (eOp (o1 (Mt true tbl)) [o]):=by
 obtain⟨a,kvs,h1,h2,h3⟩:=c.ex
 exact WI (VZ OW h.pe (Nc (v:=.ref a) hg h1 rfl hd) rfl) λσ H Q z=>Ds (Ot z) λy H1 z1=>eD (x:=x) h2 h3 z1
end
noncomputable def N2:Nat->Wp D->Wp D
 |_,[]=>[]
 |k,d::ds=>.tup [.int k,d]::N2 (k+1) ds
theorem Kg:∀{ds:Wp D} {k i:Nat},(N2 k ds)[i]?=(ds[i]?).map λd=>.tup [.int ((k+i:Nat):Int),d]
 | [],k,i=>by simp[N2]
 |d::ds,k,0=>by simp[N2]
 |d::ds,k,i+1=>by
  simp only[N2,List.getElem?_cons_succ]
  rw[Kg,show k+1+i=k+(i+1) by lia]
theorem Nr:∀{ds:Wp D} {k:Nat},(N2 k ds).length=ds.length
 | [],k=>rfl
 |d::ds,k=>by simp[N2,Nr (ds:=ds)]
theorem SqF.sqB{K:W1}{M:Ms}{H:Hp}{gs:Gd}{k:sx}{a:rY}{ds:Wp D}(h:SqF K M H gs k a ds){H2:Hp}{M2:Ms}{S2:Sto}(g:Sp1 M H M2 H2)(st:StR K M2 S2 H2)(ok:gOk gs S2):∃xs,SqB K H2 k a xs/\Ae K M2 H2 xs ds:=by
 obtain⟨xs,h1,h2⟩:=h.keep H2 M2 S2 g st ok
 refine⟨xs,?_,h2⟩
 cases k with
 |true=>exact h1
 |false=>exact h1
theorem di{K:W1}{M:Ms}{H:Hp}{gs:Gd}{k:sx}{a:rY}{ds:Wp D}(h:SqF K M H gs k a ds):gI K M H gs (N2 0 ds) (ItE K k a) where
 go:=λi H2 M2 S2 g st ok hi=>by
  rw[Nr]at hi
  obtain⟨xs,h1,h2⟩:=h.sqB g st ok
  obtain⟨x,hx⟩:=h2.get' hi
  exact⟨xs,x,h1,hx⟩
 stop:=λi H2 M2 S2 g st ok hi=>by
  rw[Nr]at hi
  obtain⟨xs,h1,h2⟩:=h.sqB g st ok
  exact⟨xs,h1,by have:=h2.length;lia⟩
 yld:=λi H2 M2 S2 x H3 d g st ok hd hy=>by
  obtain⟨xs,h1,h2⟩:=h.sqB g st ok
  obtain⟨p,y,hp,rfl,hy,rfl⟩:=hy
  have hx:=hy xs h1
  rw[Kg]at hd
  obtain⟨d0,e,hd⟩:=Hu hd
  subst hd
  obtain⟨x',h3,h4⟩:=h2.get e
  rw[hx]at h3;cases h3
  have k3:=FR (o:=.tup [.int i,y]) hp
  refine⟨k3,.tup (.of Ac) (.cons ?_ (.cons (h4.step (Gr.grow st.mo k3).st) .nil))⟩
  rw[Nat.zero_add]
  exact .int _
noncomputable def Z0(f:Ev):Sr:=λE S=>(f E S).bind λr=>(sqD r.2 r.1).map λp=>((N2 0 p.1,p.2),r.2)
theorem hJ{X:Cx}{a:sW}{f:Ev}{p pos tp:Pos}{elts:Wp sW}{k:Nat}(hg:Gl X "enumerate")(hm:X.mg "enumerate"=none)(ha:DE X a f)(hs:sE [a] X.env=[(false,eval a X.env)]:=by rfl):DI X (.Tuple elts k tp) (.Call (.Name "enumerate" p) [a] [] pos) (Z0 f):=⟨
 Nt (V2 hg hm (J3 ha.pe Q5 (by rw[hs];rfl)) hs) λσ H R z=>by
  obtain⟨M,E,S,ds,gs,S',e,r,st,q⟩:=z
  obtain⟨⟨d,S1⟩,e1,e⟩:=Ak e
  obtain⟨⟨ds',gs'⟩,e2,e⟩:=Hu e
  cases e
  refine⟨M,E,S,d,S1,e1,r,st,λv H1 M1 g1 st1 r1=>?_⟩
  obtain⟨k,a,rfl,sq⟩:=Qh st1 r1 e2
  obtain⟨xs,hs,_⟩:=sq.sqB (Gr.refl st1.mo).st st1 (Nj e2)
  exact⟨k,a,rfl,⟨xs,hs⟩,q _ _ M1 g1 st1 (di sq)⟩⟩
noncomputable def PR(ds es:Wp D):Wp D:=(ds.zip es).map λp=>.tup [p.1,p.2]
theorem YK{ds es:Wp D}{i:Nat}{d:D}(h:(PR ds es)[i]?=Gc d):∃x y,ds[i]?=Gc x/\es[i]?=Gc y/\d=.tup [x,y]:=by
 unfold PR at h
 simp only[sY,vy]at h
 obtain⟨⟨x,y⟩,h1,h2⟩:=h
 rw[wW]at h1
 exact⟨x,y,h1.1,h1.2,h2.symm⟩
theorem Ku{ds es:Wp D}:(PR ds es).length=min ds.length es.length:=by simp[PR]
theorem SqF.more{K:W1}{M:Ms}{H:Hp}{gs gs':Gd}{k:sx}{a:rY}{ds:Wp D}(h:SqF K M H gs k a ds)(s:∀g∈gs,g∈gs'):SqF K M H gs' k a ds:=⟨λH2 M2 S2 g st ok=>h.keep H2 M2 S2 g st λx hx=>ok x (s x hx)⟩
theorem gN{K:W1}{M:Ms}{H:Hp}{gs:Gd}{k m:sx}{a b:rY}{ds es:Wp D}(h:SqF K M H gs k a ds)(h':SqF K M H gs m b es):gI K M H gs (PR ds es) (Itz K k a m b) where
 go:=λi H2 M2 S2 g st ok hi=>by
  rw[Ku]at hi
  obtain⟨xs,h1,r⟩:=h.sqB g st ok
  obtain⟨ys,h2,r'⟩:=h'.sqB g st ok
  obtain⟨x,hx⟩:=r.get' (show i<ds.length by lia)
  obtain⟨y,hy⟩:=r'.get' (show i<es.length by lia)
  exact⟨xs,ys,x,y,h1,h2,hx,hy⟩
 stop:=λi H2 M2 S2 g st ok hi=>by
  rw[Ku]at hi
  obtain⟨xs,h1,r⟩:=h.sqB g st ok
  obtain⟨ys,h2,r'⟩:=h'.sqB g st ok
  have:=r.length
  have:=r'.length
  exact⟨xs,ys,h1,h2,by lia⟩
 yld:=λi H2 M2 S2 x H3 d g st ok hd hy=>by
  obtain⟨xs,h1,r⟩:=h.sqB g st ok
  obtain⟨ys,h2,r'⟩:=h'.sqB g st ok
  obtain⟨p,x1,y1,hp,rfl,q1,q2,rfl⟩:=hy
  obtain⟨d1,d2,e1,e2,rfl⟩:=YK hd
  have hx:=q1 xs h1
  have hy:=q2 ys h2
  obtain⟨x',h3,h4⟩:=r.get e1
  obtain⟨y',h5,h6⟩:=r'.get e2
  rw[hx]at h3;cases h3
  rw[hy]at h5;cases h5
  have k3:=FR (o:=.tup [x1,y1]) hp
  exact⟨k3,.tup (.of Ac) (.cons (h4.step (Gr.grow st.mo k3).st) (.cons (h6.step (Gr.grow st.mo k3).st) .nil))⟩
noncomputable def dw(f g:Ev):Sr:=λE S=>(evs [f,g] E S).bind λr=>match r.1 with
 | [d,e]=>(sqD r.2 d).bind λp=>(sqD r.2 e).map λq=>((PR p.1 q.1,p.2++q.2),r.2)
 |_=>none
theorem oA{X:Cx}{a b:sW}{f g:Ev}{p pos tp:Pos}{elts:Wp sW}{k:Nat}(hg:Gl X "zip")(hm:X.mg "zip"=none)(ha:DE X a f)(hb:DE X b g)(hs:sE [a,b] X.env=[(false,eval a X.env),(false,eval b X.env)]:=by rfl)(hs2:sE [b] X.env=[(false,eval b X.env)]:=by rfl):DI X (.Tuple elts k tp) (.Call (.Name "zip" p) [a,b] [] pos) (dw f g):=⟨
 Nt (dU hg hm (AA ha (AA hb AE hs2) (by rw[hs,hs2])).pe hs hs2) λσ H R z=>by
  obtain⟨M,E,S,ds,gs,S',e,r,st,q⟩:=z
  obtain⟨⟨ws,S1⟩,e1,e⟩:=Ak e
  refine EU (fs:=[f,g]) e1 r st λvs H1 M1 g1 st1 r1=>?_
  dsimp only at e
  split at e
  .obtain⟨⟨ds1,gs1⟩,eu,e⟩:=Ak e
   obtain⟨⟨ds2,gs2⟩,ee,e⟩:=Hu e
   cases e
   cases r1 with
   |cons h1 t=>
    cases t with
    |cons h2 t=>
     cases t
     obtain⟨k1,a1,rfl,s1⟩:=Qh st1 h1 eu
     obtain⟨k2,a2,rfl,s2⟩:=Qh st1 h2 ee
     obtain⟨xs,hxs,_⟩:=s1.sqB (Gr.refl st1.mo).st st1 (Nj eu)
     obtain⟨ys,hys,_⟩:=s2.sqB (Gr.refl st1.mo).st st1 (Nj ee)
     exact⟨_,_,_,_,rfl,⟨_,hxs⟩,⟨_,hys⟩,q _ _ M1 g1 st1 (gN (s1.more λx hx=>xg _ hx) (s2.more λx hx=>tm _ hx))⟩
  .cases e⟩
noncomputable def intD:D->rW Int
 | .int i=>Gc i
 |_=>none
noncomputable def L5(ds:Wp D):rW (Wp Int):=ds.mapM intD
theorem OO{K:W1}{M:Ms}{H:Hp}:∀{vs:Wp V} {ds:Wp D} {ns:Wp Int},Ae K M H vs ds->L5 ds=Gc ns->vs=ns.map V.int
 |_,_,ns,.nil,e=>by cases e;rfl
 |_,_,ns,.cons (d:=d) (ds:=ds) h t,e=>by
  unfold L5 at e
  rw[xJ]at e
  cases e1:intD d with
  |none=>rw[e1]at e;cases e
  |some b=>
   rw[e1]at e
   cases e2:ds.mapM intD with
   |none=>rw[e2]at e;cases e
   |some cs=>
    rw[e2]at e
    cases e
    have hd:d=.int b:=by
     cases d<;>first|(cases e1;done)|skip
     cases e1;rfl
    subst hd
    cases h
    rw[sV,<-OO t e2]
theorem Uh{X:Cx}(hc:X.calm=true):EH X (.builtin "sum") (λxs H Q=>∃(p:rY) (ns:Wp Int),xs=[.ref p]/\SqL X.K H p (ns.map V.int)/\Q (.int ns.sum) H):=by
 intro pins s σ H xs us Q I r h
 obtain⟨p,ns,rfl,hp,q⟩:=h
 obtain⟨u,rfl,ru⟩:=r.one
 cases (show u=si p from ru)
 obtain⟨its,rv,pl,hz⟩:=I.list hp
 have hd:X.A.in1.handled=none:=I.ok.hd hc
 refine call_sum_walkG (u4 pl.isList ?_)
 have hlen:ns.length=its.length:=by have:=rv.length;simpa using this
 have hpl:=pl.isList
 have hlt:p<s.heap.objs.size:=by
  obtain⟨o,ho,_⟩:=hpl
  exact sO ho
 refine⟨s.heap.objs.size,_,_,its.length,_,_,λi=>ns.getD i 0,rfl,St.MP (vs:=its) hd (tJ hlt),⟨⟨_,sS _ rfl,rfl,rfl⟩,?_⟩,?_,?_,?_⟩
 .obtain⟨o,ho,r⟩:=hpl
  exact⟨o,rV _ ho,r⟩
 .intro b hb
  rw[uU]
  simp at hb
  rcases hb with h|h
  .rw[h];exact xS _
  .rw[h];exact Nat.lt_succ_of_lt hlt
 .intro i v hv
  have hi:i<its.length:=(r9.mp hv).1
  have hb:(ns.map V.int)[i]?=Gc (.int (ns.getD i 0)):=by
   rw[sY,sF (by lia)]
   simp[sv,sF (show i<ns.length by lia)]
  obtain⟨u,hu,ru⟩:=rv.get hb
  rw[hv]at hu
  cases hu
  exact ru
 .intro h' tk t' hk
  have e:preSum (λi=>ns.getD i 0) its.length=ns.sum:=by
   rw[<-hlen,St.Lj (sD _),xH (sD _)]
  rw[e]
  exact⟨.int _,H,I.kept (t':=tk) λb o eb=>hk b o (by simp;exact tJ (sO eb)) (rV _ eb),⟨_,rfl⟩,q⟩
noncomputable def Y7:Op1:=λw=>(asL w).bind λds=>(L5 ds).map λns=>.val (.int ns.sum)
theorem gX{X:Cx}(hc:X.calm=true):EH X (.builtin "sum") (rN X.K (o1 Y7)):=by
 intro pins s σ H xs us Q I r h
 obtain⟨M,ws,w,e,mo,sh,q⟩:=h
 obtain⟨v,w1,rfl,rfl,s1,e1⟩:=Ih sh e
 obtain⟨ds,e2,e1⟩:=Ak e1
 obtain⟨ns,e3,e1⟩:=Hu e1
 cases e1
 obtain⟨a,ys,rfl,h3,h4⟩:=s1.l e2
 exact Uh hc pins s σ H _ us Q I r ⟨a,ns,rfl,by rw[<-OO h4 e3];exact .of h3,q _ _ (.same mo (.int _))⟩
theorem NL(l:rY)(items:uE rS)(n:Nat)(b:rY)(items2:uE rS)(n2:Nat)(dd:rW rY)(sl:uE (rW rS))(hs0:¬(!items.isEmpty && uk (items.size+items2.size))=true)(hs1:items.size<=sizeLine)(hs2:items.size+items2.size<=sizeLine+1):Meets (x8.«list.extend» ⟨[.ref l,.ref b],[]⟩) (λ_ R s=>s.heap.get? l=Gc {cls:=.type "list",dict:=none,data:=.seq items n,slots:= #[]}/\s.heap.get? b=Gc {cls:=.type "tuple",dict:=dd,data:=.seq items2 n2,slots:=sl}/\R (.ok (.ret tP)) {s with heap:=s.heap.update l (yO λx=>x++items2),toks:=s.toks}):=
 .of_wp λprog w A R s h=>by
  obtain⟨hp,g,d,tk,os⟩:=s;obtain⟨hl,hb,h⟩:=h;have f1:=AutoSeq1.idx_int;have f2:=AutoSeq1.sub_tuple_tuple;have f3:=AutoSeq1.sub_list_list;have f4:=AutoSeq1.sub_tuple_list;have f5:=AutoSeq1.sub_list_tuple
  have hz':(items++items2).size<=sizeLine+1:=by rw[Array.size_append];exact hs2
  wp_walk using(wpAny_updateSeq hl rfl (hz:=hs1) (_hz':=hz')),se hl,se hb;exact⟨_,rfl,h⟩
def Vz(K:W1):V->Wp V->Hp->VK->Prop:=λx vs H Q=>∃l b xs zs,x=.ref l/\vs=[.ref b]/\H l=Gc (.lst xs)/\SqT K H b zs/\xs.length+zs.length<=sizeLine/\Q .non (upd H l (.lst (xs++zs)))
theorem Rp{X:Cx}:MtM X "list.extend" (Vz X.K):=by
 intro pins s σ H x vs v us Q I rx rv h
 obtain⟨l,b,xs,zs,rfl,rfl,hH,hB,hz,q⟩:=h
 cases rx
 obtain⟨u,rfl,ru⟩:=rv.one
 cases ru
 obtain⟨z,its,n,r,hl,e⟩:=I.YU hH
 obtain⟨its2,r2,⟨⟨c,dd,dt,sl⟩,e2,hc,n2,hd⟩,z2⟩:=I.tuple hB
 simp only at hc hd
 subst hc hd
 have hl2:=r2.length
 have hsz:its.toArray.size+its2.toArray.size<=sizeLine:=by rw[sJ,sJ];lia
 have hlong:¬(!its.toArray.isEmpty && uk (its.toArray.size+its2.toArray.size))=true:=by
  rw[NN hsz,yQ]
  exact tq
 refine xV AAI ⟨_,e,rfl⟩ zu (zb _ _)
  (NL l its.toArray n b its2.toArray n2 dd sl hlong (by rw[sJ];lia) (by lia)) ⟨e,e2,?_⟩
 refine⟨.non,_,I.lZ (its':=its++its2) hH e (by simp) (r.append r2) ?_,rfl,q⟩
 rw[tV]
 lia
noncomputable def jc:Mo
 |S,ds,[x]=>match dr S x with
  | .val (.tup zs)=>if ds.length+zs.length<=sizeLine then Gc (.non,ds++zs)else none
  |w=>(asL w).bind λzs=>if ds.length+zs.length<=sizeLine then Gc (.non,ds++zs)else none
 |_,_,_=>none
theorem kY{X:Cx}:MtR X "list.extend" (jZ X.K jc):=by
 intro pins s σ H x vs v us Q I rx rv h
 obtain⟨M,S,n,a,ds,args,d,ds',rfl,hc,hn,e,st,ra,q⟩:=h
 unfold jc at e
 split at e
 .obtain⟨xs,h1,h2⟩:=st.cell n a _ hc hn
  obtain⟨y,rfl,ry⟩:=RC ra
  have sy:=cD st ry
  split at e
  .rename_i ed
   rw[ed]at sy
   split at e
   .rename_i hz
    cases e
    cases sy with
    |tup hx rr=>
     obtain⟨st2,g2⟩:=st.chg hc hn (h2.append rr)
     exact Rp pins s σ H _ _ v us Q I rx rv ⟨a,_,xs,_,rfl,rfl,h1,hx,by rw[h2.length,rr.length];exact hz,q _ _ st2 g2 .non⟩
   .cases e
  .obtain⟨zs,e1,e⟩:=Ak e
   split at e
   .rename_i hz
    cases e
    obtain⟨b,ys,rfl,h3,h4⟩:=sy.l e1
    obtain⟨st2,g2⟩:=st.chg hc hn (h2.append h4)
    exact Ub pins s σ H _ _ v us Q I rx rv ⟨a,b,xs,ys,rfl,rfl,h1,h3,by rw[h2.length,h4.length];exact hz,q _ _ st2 g2 .non⟩
   .cases e
 .cases e
theorem XF{X:Cx}:OpR X (binaryOp .Mult) (λx y H Q=>∃a xs k,x=.ref a/\y=.int k/\SqT X.K H a xs/\xs≠[]/\k<=0/\ -(2^63)<=k/\∀p,H p=none->Q (.ref p) (upd H p (.tup []))):=by
 intro pins s σ H x y v u Q I rx ry h
 obtain⟨a,xs,k,rfl,rfl,hx,hne,hk,hk2,q2⟩:=h
 cases rx
 obtain⟨t,rfl⟩:=ry
 obtain⟨its,r,⟨⟨c,dd,data,sl⟩,ho,hc,n,hd⟩,hzz⟩:=I.tuple hx
 simp only at hc hd
 subst hc hd
 have hl:=r.length
 have hpos:0<xs.length:=zw.mpr hne
 refine wV (T:="tuple") (U:="int") (by decide) ⟨_,ho,rfl⟩ (λs'=>xU s' k t) Gw zH v5 J9 yu.lookup
  (xV v5 (xU s k t) yv (yd _ _) (Hz k t a its.toArray n dd sl) ⟨ho,rfl,⟨_,ho,rfl⟩,?_⟩)
 refine uv xW ⟨_,ho,rfl⟩ F.entry_tuple_mul ?_ (AAK _ _)
 unfold x8.«tuple.__mul__»
 wp_walk using se ho
 rw[sg (show¬(decide (k< -2^63)||decide (k≥2^63))=true by
  rw[uK]
  rintro (z|z)
  .have:=sM z;lia
  .have:=sM z;lia)]
 wp_walk using se ho
 have hemp:its.toArray.isEmpty=false:=by
  cases its with
  |nil=>rw[v7]at hl;lia
  |cons b bs=>rfl
 rw[sg (show¬(its.toArray.isEmpty||k==1)=true by
  rw[hemp,Bool.false_or]
  intro z
  have:=eq_of_beq z
  lia)]
 wp_walk using se ho
 all_goals first
  |exact⟨_,rfl,.ref _,_,I.laid (o:=.tup []) (t':=s.toks) (λb ob q=>rV _ q) (sD _) ⟨vv _,[],.nil,vk _ _⟩,rfl,q2 _ (I.hok.fresh (sD _))⟩
  |(exfalso
    rename_i hh
    exact hh (by rw[uK];exact .inl (vK hk)))
noncomputable def Dx:Op2:=λa b=>match asT a with
 |some xs=>match asI b with
  |some k=>if(!xs.isEmpty && decide (k<=0) && decide (-(2^63)<=k))=true then Gc (.val (.tup []))else d9 (.val (.tup xs)) (.val (.int k))
  |none=>d9 a b
 |none=>d9 a b
theorem QU{X:Cx}:OpR X (binaryOp .Mult) (rOp X.K Dx):=by
 intro pins s σ H x y v u Q I rx ry h
 obtain⟨M,w1,w2,r,e,mo,s1,s2,q⟩:=h
 have no:d9 w1 w2=Gc r->wpAny (model X.prog X.w) X.A (binaryOp .Mult v u) (EP X pins σ Q) X.xe s:=λe=>cV pins s σ H x y v u Q I rx ry ⟨M,_,_,r,e,mo,s1,s2,q⟩
 unfold Dx at e
 cases e1:asT w1 with
 |none=>rw[e1]at e;exact no e
 |some xs=>
  rw[e1]at e
  dsimp only at e
  cases e2:asI w2 with
  |none=>rw[e2]at e;exact no e
  |some k=>
   rw[e2]at e
   obtain rfl:=Qf e1
   obtain rfl:=O1 e2
   by_cases hk:(!xs.isEmpty && decide (k<=0) && decide (-(2^63)<=k))=true
   .dsimp only at e
    rw[sZ hk]at e
    rw[sA,sA]at hk
    cases e
    obtain rfl:=BX.iv s2
    obtain⟨a,ys,rfl,h1,r1⟩:=BX.iv s1
    have hne:ys≠[]:=λzz=>by
     subst zz
     cases r1
     exact absurd hk.1.1 (by decide)
    exact XF pins s σ H _ _ v u Q I rx ry ⟨a,ys,k,rfl,rfl,h1,hne,sM hk.1.2,sM hk.2,λp hp=>q _ _ (.tup mo hp .nil)⟩
   .dsimp only at e
    rw[sg hk]at e
    exact no e
theorem II{A:tN}{k:Nat}(hr:CZ k A):A.units+100<cLine:=by have:=hr.un;lia
section
variable{P:sf}{w:tU}{K:W1}{mg:Str->rW rS}{base:tT}
theorem Qu{x:Str}{st:tE}{k np:Nat}{ps:Wp Str}(S:St.Src K mg x st)(hbi:∀f fd,Fun K x x st f fd->Binds K fd ps []):St.Dfn P w K mg base x k ps (spD K np λ_ _=>none):=by
 obtain⟨f,fd,Fu,hm⟩:=S.ex
 refine⟨f,fd,hm,Fu.kp,hbi f fd Fu,⟨λvs H Q E h=>?_,λA outer s H args us vs Q E hr h0 hb hv h=>?_⟩⟩
 .obtain⟨_,_,_,_,_,_,e,_⟩:=h;cases e
 .obtain⟨_,_,_,_,_,_,e,_⟩:=h;cases e
end
noncomputable def scE:Nat->sW->Wp uT
 |0,_=>[]
 |n+1,.ListComp e gs s _=>s::(gs.flatMap λg=>scE n g.iter)++scE n e++(gs.flatMap λg=>g.ifs.flatMap (scE n))
 |n+1,.BoolOp _ vs _=>vs.flatMap (scE n)
 |n+1,.Call f as _ _=>scE n f++as.flatMap (scE n)
 |n+1,.BinOp a _ b _=>scE n a++scE n b
 |n+1,.UnaryOp _ a _=>scE n a
 |n+1,.Compare a _ cs _=>scE n a++cs.flatMap (scE n)
 |n+1,.Subscript a b _=>scE n a++scE n b
 |n+1,.Tuple es _ _=>es.flatMap (scE n)
 |n+1,.List es _=>es.flatMap (scE n)
 |n+1,.IfExp c a b _=>scE n c++scE n a++scE n b
 |n+1,.Dict _ vs _=>vs.flatMap (scE n)
 |n+1,.Slice a b c _=>(a.toList++b.toList++c.toList).flatMap (scE n)
 |n+1,.Attribute v _ _=>scE n v
 |_,_=>[]
noncomputable def scS:Nat->tE->Wp uT
 |0,_=>[]
 |n+1,.Return (Gc e) _=>scE 30 e
 |n+1,.Assign ts e _=>ts.flatMap (scE 30)++scE 30 e
 |n+1,.AugAssign t _ e _=>scE 30 t++scE 30 e
 |n+1,.Expr e _=>scE 30 e
 |n+1,.If t a b _=>scE 30 t++a.flatMap (scS n)++b.flatMap (scS n)
 |n+1,.For _ it a b _=>scE 30 it++a.flatMap (scS n)++b.flatMap (scS n)
 |n+1,.While t a b _=>scE 30 t++a.flatMap (scS n)++b.flatMap (scS n)
 |_,_=>[]
noncomputable def MF(st:tE)(k:Nat):uT:=((A3 st).flatMap (scS 20)).getD k (AD st)
structure lO(P:sf)(w:tU)(K:W1)(mg:Str->rW rS)(base:tT)(x:Str)(k np:Nat)(tbl:Wp (Str×Fn)):Prop where
 ex:∃a kvs,mg x=Gc (.ref a)/\TopD K w a kvs/\∀p G,tbl.lookup p=Gc G->∃f fd ps,kvs.lookup p=Gc (.ref f)/\KR P w K mg base CX0 k f fd ps (spD K np G)/\uL K (.ref f)=true/\Binds K fd ps []
noncomputable def fe(tbl:Wp (Str×Fn))(i j:Nat)(fs:Wp Ev):Ex:=λE S=>if((at? E i).isNone && decide (i<E.length))=true then(at? E j).bind λw=>match w with
 | .str p=>(tbl.lookup p).bind λG=>Ah (AF G fs) E S
 |_=>none
 else none
theorem EnR.aY{K:W1}{M:Ms}{E:En}{σ:Sg}{H:Hp}{i:Nat}{v:V}(r:EnR K M E σ H)(h:at? E i=none):EnR K M E (σ.set i (Gc v)) H:=by
 refine⟨by rw[u6];exact r.len,λj d e=>?_⟩
 have ne:i≠j:=λz=>by
  subst z
  unfold at? at h
  rw[e]at h
  cases h
 obtain⟨u,h1,h2⟩:=r.val j d e
 exact⟨u,by rw[rm ne];exact h1,h2⟩
theorem aA{X:Cx}{k np:Nat}{tbl:Wp (Str×Fn)}{x h y:Str}{px ph ph2 py pr p1 p2 pc:Pos}{e:sW}{es:Wp sW}{fs:Wp Ev}(i j:Nat)(T:lO X.prog X.w X.K X.mg X.base x k np tbl)(hr:CZ k X.A)(ha:DEs X (e::es) fs)(hnp:fs.length=np)(hN:X.N.Nodup)(hg:Gl X x:=by rfl)(hi:X.N[i]?=Gc h:=by rfl)(hil:X.env.scope.names.lookup h=Gc .local:=by rfl)(hj:X.N[j]?=Gc y:=by rfl)(hv:Vis X.env.scope y:=by first|exact Or.inl rfl|exact Or.inr (Or.inl rfl)|exact Or.inr (Or.inr rfl))(hdx:(x==("__debug__":Str))=false:=by decide)(hdy:(y==("__debug__":Str))=false:=by decide)(hcy:(y==("__classdict__":Str))=false:=by decide)(hdh:(h==("__debug__":Str))=false:=by decide)(hch:(h==("__classdict__":Str))=false:=by decide)(hs:swapsWith (.Subscript (.Name x px) (.Name y py) p1) (Gc (.Name h ph)) p2.line X.env=pure false:=by rfl)(hpl:Nq (.Name y py):=by exact λ_ _=>rfl)(he:sE (e::es) X.env=(false,eval e X.env)::sE es X.env:=by rfl)(hpa:(backTo pc (sE es X.env)).any (·.1)=false:=by rfl):DSs X [.Assign [.Name h ph] (.Subscript (.Name x px) (.Name y py) p1) p2,.Return (Gc (.Call (.Name h ph2) (e::es) [] pc)) pr] (fe tbl i j fs):=⟨by
 obtain⟨a,kvs,t1,t2,t3⟩:=T.ex
 refine NR (RI (Yn (i:=i) hN hi (.inl hil) (bV Yf (Nc (v:=.ref a) hg t1 rfl hdx) (PF hj hv hdy hcy) hpl) hs (.inr hil)) (Nh (SW (WZ (k:=k) (i:=i) hi (.inl hil) hr ha.pe hdh hch he hpa)))) λDn σ H z=>?_
 obtain⟨M,E,S,fl,E',S',e,r,st,q⟩:=z
 unfold fe at e
 split at e
 .rename_i hnone
  rw[sA]at hnone
  have hlt:=sM hnone.2
  have hnone:at? E i=none:=by simpa using hnone.1
  obtain⟨w,e1,e⟩:=Ak e
  split at e
  .rename_i p
   obtain⟨G,e2,e⟩:=Ak e
   obtain⟨⟨d4,S4⟩,e3,e⟩:=Hu e
   cases e
   obtain⟨v,hv1,hv2⟩:=r.val j _ (at?_some e1)
   cases hv2
   obtain⟨f,fd,ps,l1,l2,l3,l4⟩:=t3 p G e2
   refine⟨_,hv1,a,kvs,p,_,rfl,rfl,t2,l1,?_⟩
   have r1:=r.aY (v:=.ref f) hnone
   have hlen:i<σ.length:=by
    have:=r.len
    lia
   refine⟨f,spD X.K np G,sP hlen,⟨fd,ps,l2,l3,l4⟩,?_⟩
   exact Vh (σ:=σ.set i (Gc (.ref f))) hnp ⟨M,_,S,d4,S4,e3,r1,st,q⟩
  .cases e
 .cases e⟩
section
variable{P:sf}{w:tU}{K:W1}{mg:Str->rW rS}{base h:tT}
theorem gh{x:Str}{st:tE}{f:rY}{oc:rS}{od an:rW rY}{osl:uE (rW rS)}{kV doc pm cdv ct:rS}(X:K.In h)(G:h.Ns mainGlobals mg)(a:tS K mainGlobals x=Gc (Gc (.ref f)))(l:K.lookup f=Gc ⟨oc,od,.func (vG x x (Gp st) (A3 st) (AD st) .none kV doc pm an cdv ct),osl⟩)(c:wH K cdv x=true)(k:uL K (.ref f)=true):St.Src K mg x st:=
 ⟨f,_,U0 l c k,vI X G a⟩
def IsD(K:W1)(u:rS)(d:D):Prop:=∃v,RelV v u/\∀M H,BX K M H v d
theorem Zp{i:Int}{t:Tok}:IsD K (.int i t) (.int i):=⟨.int i,⟨t,rfl⟩,λ_ _=>.int i⟩
theorem Zf{x:Str}{t:Tok}:IsD K (.str x t) (.str x):=⟨.str x,⟨t,rfl⟩,λ_ _=>.str x⟩
theorem gM{b:sx}:IsD K (.bool b) (.bl b):=⟨.bl b,rfl,λ_ _=>.bl b⟩
theorem bE:IsD K .none .non:=⟨.non,rfl,λ_ _=>.non⟩
theorem RD:∀{us:Wp rS} {ds:Wp D},Paired (λd u=>IsD K u d) ds us->∃xs,Vals xs us/\∀M H,Ae K M H xs ds
 |_,_,.nil=>⟨[],.nil,λ_ _=>.nil⟩
 |_,_,.cons h t=>by
  obtain⟨v,h1,h2⟩:=h
  obtain⟨xs,h3,h4⟩:=RD t
  exact⟨v::xs,.cons h1 h3,λM H=>.cons (h2 M H) (h4 M H)⟩
theorem aN{a:rY}{od:rW rY}{osl:uE (rW rS)}{its:Wp rS}{n:Nat}{ds:Wp D}(l:K.lookup a=Gc ⟨.type "tuple",od,.seq its.toArray n,osl⟩)(hz:its.length<=sizeLine)(r:Paired (λd u=>IsD K u d) ds its):IsD K (.ref a) (.tup ds):=by
 obtain⟨xs,h1,h2⟩:=RD r
 exact⟨.ref a,rfl,λM H=>.tup (.inr ⟨_,its.toArray,n,l,rfl,rfl,by simpa using hz,by simpa using h1⟩) (h2 M H)⟩
theorem iF{x:Str}{u:rS}{d:D}(X:K.In h)(G:h.Ns mainGlobals mg)(e:tS K mainGlobals x=Gc (Gc u))(r:IsD K u d):PV K mg x d:=by
 obtain⟨v,h1,h2⟩:=r
 exact⟨v,u,vI X G e,h1,h2⟩
theorem Sl:∀{tbl:Wp (Str×D)} {es:Wp vM},Paired (λ(p:Str×D) (e:vM)=>(∃t,e.key=.str p.1 t)/\IsD K e.val p.2) tbl es->∃kvs:Wp (Str×V),Paired (λ(p:Str×V) (e:vM)=>(∃t,e.key=.str p.1 t)/\RelV p.2 e.val) kvs es/\∀k,(tbl.lookup k=none->kvs.lookup k=none)/\∀d,tbl.lookup k=Gc d->∃v,kvs.lookup k=Gc v/\∀M H,BX K M H v d
 |_,_,.nil=>⟨[],.nil,λk=>⟨λ_=>rfl,λd e=>by cases e⟩⟩
 |(k0,d0)::tbl,_::es,.cons hh t=>by
  obtain⟨hk,v,h1,h2⟩:=hh
  obtain⟨kvs,h3,h4⟩:=Sl t
  refine⟨(k0,v)::kvs,.cons ⟨hk,h1⟩ h3,λk=>?_⟩
  rw[tY,tY]
  cases e:k==k0 with
  |true=>exact⟨λz=>(nomatch z),λd z=>by cases z;exact⟨v,rfl,h2⟩⟩
  |false=>exact h4 k
theorem aq{x:Str}{a:rY}{n:Nat}{es:Wp vM}{tbl:Wp (Str×D)}(X:K.In h)(G:h.Ns mainGlobals mg)(e:tS K mainGlobals x=Gc (Gc (.ref a)))(l:K.lookup a=Gc ⟨.type "dict",none,.dict es.toArray n, #[]⟩)(hk:xn w.params es)(hne:(a==sysModules)=false)(hp:Paired (λ(p:Str×D) (e:vM)=>(∃t,e.key=.str p.1 t)/\IsD K e.val p.2) tbl es):gd K w mg x tbl:=by
 obtain⟨kvs,h1,h2⟩:=Sl hp
 exact⟨a,kvs,vI X G e,Ym l hk hne h1,h2⟩
structure ju(w:tU)(K:W1)(mg:Str->rW rS)(x:Str)(ns:Wp (Str×Str)):Prop where
 ex:∃a kvs,mg x=Gc (.ref a)/\TopD K w a kvs/\Paired (λ(n:Str×Str) (q:Str×V)=>n.1=q.1/\∃f,q.2=.ref f/\mg n.2=Gc (.ref f)) ns kvs
theorem Ob(X:K.In h)(G:h.Ns mainGlobals mg):∀{ns:Wp (Str×Str)} {es:Wp vM},Paired (λ(n:Str×Str) (e:vM)=>(∃t,e.key=.str n.1 t)/\∃f,e.val=.ref f/\tS K mainGlobals n.2=Gc (Gc (.ref f))) ns es->∃kvs:Wp (Str×V),Paired (λ(p:Str×V) (e:vM)=>(∃t,e.key=.str p.1 t)/\RelV p.2 e.val) kvs es/\Paired (λ(n:Str×Str) (q:Str×V)=>n.1=q.1/\∃f,q.2=.ref f/\mg n.2=Gc (.ref f)) ns kvs
 |_,_,.nil=>⟨[],.nil,.nil⟩
 |(k0,g0)::ns,_::es,.cons hh t=>by
  obtain⟨hk,f,h1,h2⟩:=hh
  obtain⟨kvs,h3,h4⟩:=Ob X G t
  exact⟨(k0,.ref f)::kvs,.cons ⟨hk,h1⟩ h3,.cons ⟨rfl,f,rfl,vI X G h2⟩ h4⟩
theorem bp{x:Str}{a:rY}{n:Nat}{es:Wp vM}{ns:Wp (Str×Str)}(X:K.In h)(G:h.Ns mainGlobals mg)(e:tS K mainGlobals x=Gc (Gc (.ref a)))(l:K.lookup a=Gc ⟨.type "dict",none,.dict es.toArray n, #[]⟩)(hk:xn w.params es)(hne:(a==sysModules)=false)(hp:Paired (λ(n:Str×Str) (e:vM)=>(∃t,e.key=.str n.1 t)/\∃f,e.val=.ref f/\tS K mainGlobals n.2=Gc (Gc (.ref f))) ns es):ju w K mg x ns:=by
 obtain⟨kvs,h1,h2⟩:=Ob X G hp
 exact⟨a,kvs,vI X G e,Ym l hk hne h1,h2⟩
theorem VD{k np:Nat}:∀{ns:Wp (Str×Str)} {kvs:Wp (Str×V)} {tbl:Wp (Str×Fn)},Paired (λ(n:Str×Str) (q:Str×V)=>n.1=q.1/\∃f,q.2=.ref f/\mg n.2=Gc (.ref f)) ns kvs->Paired (λ(n:Str×Str) (q:Str×Fn)=>n.1=q.1/\∃j ps,j<=k/\St.Dfn P w K mg base n.2 j ps (spD K np q.2)) ns tbl->∀p G,tbl.lookup p=Gc G->∃f fd ps,kvs.lookup p=Gc (.ref f)/\KR P w K mg base CX0 k f fd ps (spD K np G)/\uL K (.ref f)=true/\Binds K fd ps []
 |_,_,_,.nil,.nil,p,G,e=>by cases e
 |_::_,(k1,v1)::kvs,(k2,G2)::tbl,.cons h1 t1,.cons h2 t2,p,G,e=>by
  obtain⟨e1,f,e2,e3⟩:=h1
  obtain⟨e4,j,ps,hj,hd⟩:=h2
  have e5:k1=k2:=e1.symm.trans e4
  subst e5
  rw[tY]at e⊢
  cases eq:p==k1 with
  |true=>
   rw[eq]at e
   cases e
   obtain⟨f',fd,m1,m2,m3,m4⟩:=hd.ex
   have:f'=f:=by
    have:=m1.symm.trans e3
    cases this;rfl
   subst this
   exact⟨f',fd,ps,by rw[show v1=.ref f' from e2],m4.mono hj,m2,m3⟩
  |false=>
   rw[eq]at e
   exact VD t1 t2 p G e
theorem au{x:Str}{k np:Nat}{ns:Wp (Str×Str)}{tbl:Wp (Str×Fn)}(T:ju w K mg x ns)(h:Paired (λ(n:Str×Str) (q:Str×Fn)=>n.1=q.1/\∃j ps,j<=k/\St.Dfn P w K mg base n.2 j ps (spD K np q.2)) ns tbl):lO P w K mg base x k np tbl:=by
 obtain⟨a,kvs,h1,h2,h3⟩:=T.ex
 exact⟨a,kvs,h1,h2,VD h3 h⟩
end
noncomputable def putD(kvs:Wp (Key×D))(k:Key)(v:D):Wp (Key×D):=
 if(kvs.any λkv=>decide (kv.1=k))=true then kvs.map (λkv=>if kv.1=k then(kv.1,v)else kv)else kvs++[(k,v)]
noncomputable def MN(kvs more:Wp (Key×D)):Wp (Key×D):=more.foldl (λacc kv=>putD acc kv.1 kv.2) kvs
noncomputable def jX:D->rW Key
 | .int i=>Gc (.inl i)
 | .str x=>Gc (.inr x)
 |_=>none
noncomputable def W7:sx->Wp (Key×D)->Sto->D×Sto
 |false,es,S=>(.dct es,S)
 |true,es,S=>(.ref S.length,S++[.dct es])
section
variable{K:W1}{M M':Ms}{H:Hp}{S:Sto}{E:En}{σ:Sg}
theorem CY.any(k:Key){kvs:Wp (Key×V)}{es:Wp (Key×D)}(h:CY K M H kvs es):(kvs.any λkv=>decide (kv.1=k))=es.any λkv=>decide (kv.1=k):=h.ind (P:=λv d=>(v.any λkv=>decide (kv.1=k))=d.any λkv=>decide (kv.1=k)) rfl λ_ t=>by rw[vR,vR,t]
theorem CY.app{kvs kvs':Wp (Key×V)}{es es':Wp (Key×D)}(h:CY K M H kvs es)(s:CY K M H kvs' es'):CY K M H (kvs++kvs') (es++es'):=h.ind (P:=λv d=>CY K M H (v++kvs') (d++es')) s λh t=>.cons h t
theorem CY.dz{k:Key}{v:V}{d:D}(r:BX K M H v d):∀{kvs:Wp (Key×V)} {es:Wp (Key×D)},CY K M H kvs es->CY K M H (kvs.map λkv=>if kv.1=k then(kv.1,v)else kv) (es.map λkv=>if kv.1=k then(kv.1,d)else kv)
 |_,_,.nil=>.nil
 |_,_,.cons (k:=k') h t=>by
  rw[sV,sV]
  by_cases e:k'=k
  .rw[sZ e,sZ e];exact .cons r (CY.dz r t)
  .rw[sg e,sg e];exact .cons h (CY.dz r t)
theorem CY.put{k:Key}{v:V}{d:D}{kvs:Wp (Key×V)}{es:Wp (Key×D)}(r:BX K M H v d)(h:CY K M H kvs es):CY K M H (putK kvs k v) (putD es k d):=by
 unfold putK putD
 rw[h.any k]
 split
 .exact h.dz r
 .exact h.app (.cons r .nil)
theorem CY.merge{more:Wp (Key×V)}{more':Wp (Key×D)}{kvs:Wp (Key×V)}{es:Wp (Key×D)}(h:CY K M H more more')(g:CY K M H kvs es):CY K M H (K8 kvs more) (MN es more'):=
 h.ind (P:=λv d=>∀kvs es,CY K M H kvs es->CY K M H (K8 kvs v) (MN es d)) (λ_ _ g=>g) (λr t _ _ g=>t _ _ (g.put r)) _ _ g
theorem dX{v:V}{d:D}{k:Key}(r:BX K M H v d)(e:jX d=Gc k):v=kV k:=by
 cases r<;>cases e<;>rfl
theorem StR.dn(r:StR K M S H){a:rY}(e:H a=none):StR K ⟨M.cel,a::M.tmp⟩ S (upd H a (.dK []))/\Sp1 M H ⟨M.cel,a::M.tmp⟩ (upd H a (.dK [])):=by
 have k:∀b o,H b=Gc o->upd H a (.dK []) b=Gc o:=FR e
 have na:¬M.mem a:=λz=>r.mo.some z e
 have s1:Sp1 M H ⟨M.cel,a::M.tmp⟩ (upd H a (.dK [])):=⟨r.mo,uG,λb z=>by
  rcases z with z|z
  .exact .inl (.inl z)
  .rcases rZ.mp z with z|z
   .subst z;exact .inr e
   .exact .inl (.inr z),λb o eb _=>k b o eb⟩
 refine⟨⟨λb z=>?_,r.nd,λb hb z=>?_,r.len,λn b c h1 h2=>?_⟩,s1⟩
 .by_cases h:b=a
  .subst h;exact⟨_,Ac,trivial⟩
  .rw[AU h]
   refine r.mo b ?_
   rcases z with z|z
   .exact .inl z
   .rcases rZ.mp z with z|z
    .exact absurd z h
    .exact .inr z
 .rcases rZ.mp hb with hb|hb
  .subst hb;exact na (.inl z)
  .exact r.nt b hb z
 .exact(r.cell n b c h1 h2).step s1 λo e=>k _ _ e
theorem StR.pK{c t:Wp rY}{a:rY}{kvs:Wp (Key×V)}{es:Wp (Key×D)}(cf:sx)(r:StR K ⟨c,a::t⟩ S H)(nt:a∉t)(rr:CY K ⟨c,a::t⟩ H kvs es):∃c',StR K ⟨c',t⟩ (W7 cf es S).2 (upd H a (.dK kvs))/\BX K ⟨c',t⟩ (upd H a (.dK kvs)) (.ref a) (W7 cf es S).1/\c <+: c'/\(∀b∈c',b∈c\/b=a):=by
 have nc:a∉c:=r.nt a sN
 have hl:c.length=S.length:=r.len
 have ne:∀b∈c,b≠a:=λb hb z=>nc (by rw[<-z];exact hb)
 have kp:∀b o,H b=Gc o->¬Ms.mem ⟨c,a::t⟩ b->upd H a (.dK kvs) b=Gc o:=λb o eb nb=>by rw[AU (λz=>nb (.inr (by rw[z];exact sN)))];exact eb
 have old:∀{c':Wp rY},Sp1 ⟨c,a::t⟩ H ⟨c',t⟩ (upd H a (.dK kvs))->∀(n:Nat) (b:rY) (cl:Cl),c[n]?=Gc b->S[n]?=Gc cl->Pt K ⟨c',t⟩ (upd H a (.dK kvs)) b cl:=λs1 n b cl h1 h2=>by
  have hb:=ne b (sQ h1)
  exact(r.cell n b cl h1 h2).step s1 λo e=>by rw[AU hb];exact e
 have mo:∀b,Ms.mem ⟨c,t⟩ b\/b=a->∃o,upd H a (.dK kvs) b=Gc o/\Mob o:=λb z=>by
  by_cases h:b=a
  .subst h;exact⟨_,Ac,trivial⟩
  .rw[AU h]
   rcases z with z|z
   .exact r.mo b (z.imp id (rg _))
   .exact absurd z h
 cases cf with
 |false=>
  have s1:Sp1 ⟨c,a::t⟩ H ⟨c,t⟩ (upd H a (.dK kvs)):=⟨r.mo,uG,λb z=>.inl (z.imp id (rg _)),kp⟩
  exact⟨c,⟨λb z=>mo b (.inl z),r.nd,λb hb=>r.nt b (rg _ hb),r.len,old s1⟩,.dct Ac (λz=>z.elim nc nt) (rr.step s1),uG,λb z=>.inl z⟩
 |true=>
  have s1:Sp1 ⟨c,a::t⟩ H ⟨c++[a],t⟩ (upd H a (.dK kvs)):=⟨r.mo,vY _ _,λb z=>by
   rcases z with z|z
   .rcases sX.mp z with z|z
    .exact .inl (.inl z)
    .exact .inl (.inr (by rw[sj.mp z];exact sN))
   .exact .inl (.inr (rg _ z)),kp⟩
  refine⟨c++[a],⟨λb z=>mo b ?_,?_,λb hb z=>?_,by simp[W7,hl],λn b cl h1 h2=>?_⟩,.ref (by rw[<-hl];exact sU),vY _ _,λb z=>?_⟩
  .rcases z with z|z
   .rcases sX.mp z with z|z
    .exact .inl (.inl z)
    .exact .inr (sj.mp z)
   .exact .inl (.inr z)
  .rw[wG]
   refine⟨r.nd,by simp,λx hx y hy z=>?_⟩
   simp at hy;subst hy
   exact nc (by rw[<-z];exact hx)
  .rcases sX.mp z with z|z
   .exact r.nt b (rg _ hb) z
   .rw[sj.mp z]at hb;exact nt hb
  .have h2:(S++[Cl.dct es])[n]?=Gc cl:=h2
   by_cases h:n<S.length
   .rw[rf (by rw[hl];exact h)]at h1
    rw[rf h]at h2
    exact old s1 n b cl h1 h2
   .have hm:n=S.length:=by
     have:=(r9.mp h2).1
     simp at this;lia
    subst hm
    rw[tK (by rw[hl];exact sD _)]at h1
    rw[tK (sD _)]at h2
    rw[hl]at h1
    simp at h1 h2
    subst h1 h2
    exact⟨kvs,Ac,rr.step s1⟩
  .rcases sX.mp z with z|z
   .exact .inl z
   .exact .inr (sj.mp z)
noncomputable def evP:Wp (Ev×Ev)->En->Sto->rW (Wp (Key×D)×Sto)
 | [],_,S=>Gc ([],S)
 |(k,v)::r,E,S=>(k E S).bind λa=>(jX a.1).bind λkk=>(v E a.2).bind λb=>(evP r E b.2).map λq=>((kk,b.1)::q.1,q.2)
theorem Yo:∀{fs:Wp (Ev×Ev)} {M:Ms} {S:Sto} {es:Wp (Key×D)} {S':Sto} {H:Hp} {Q:Wp (V×V)->Hp->Prop},evP fs E S=Gc (es,S')->EnR K M E σ H->StR K M S H->(∀kvs H' M',Gr M H M' H'->StR K M' S' H'->CY K M' H' kvs es->kvs.length=fs.length->Q (kvs.map λkv=>(kV kv.1,kv.2)) H')->Qn (fs.map λx=>(tD K x.1,tD K x.2)) σ H Q
 | [],M,S,es,S',H,Q,e,r,st,q=>by
   cases e
   exact q [] H M (.refl st.mo) st .nil rfl
 |(fk,fv)::fs,M,S,es,S',H,Q,e,r,st,q=>by
  obtain⟨⟨dk,S1⟩,e1,e⟩:=Ak e
  obtain⟨kk,ek,e⟩:=Ak e
  obtain⟨⟨dv,S2⟩,e2,e⟩:=Ak e
  obtain⟨⟨es',S3⟩,e3,e⟩:=Hu e
  cases e
  refine⟨M,E,S,dk,S1,e1,r,st,λv H1 M1 g1 st1 d1=>?_⟩
  refine⟨M1,E,S1,dv,S2,e2,r.step g1.st,st1,λv2 H2 M2 g2 st2 d2=>?_⟩
  refine Yo e3 ((r.step g1.st).step g2.st) st2 λkvs H3 M3 g3 st3 rk hl=>?_
  rw[dX d1 ek]
  exact q ((kk,v2)::kvs) H3 M3 ((g1.trans g2).trans g3) st3 (.cons (d2.step g3.st) rk) (by simp[hl])
end
noncomputable def Vb(cf:sx)(fs:Wp (Ev×Ev)):Ev:=λE S=>(evP fs E S).map λr=>W7 cf (MN [] r.1) r.2
abbrev d8:=Vb false
section
variable{X:Cx}{pos:Pos}
structure DPs(X:Cx)(pos:Pos)(ks:Wp (rW sW))(vs:Wp sW)(fs:Wp (Ev×Ev)):Prop where
 pe:PPs X pos ks vs (fs.map λx=>(tD X.K x.1,tD X.K x.2))
 all:ks.all (·.isSome)=true
 len:ks.length=vs.length
 num:fs.length=vs.length
theorem bZ:DPs X pos [] [] []:=⟨aB,rfl,rfl,rfl⟩
theorem X8{k v:sW}{ks:Wp (rW sW)}{vs:Wp sW}{fk fv:Ev}{fs:Wp (Ev×Ev)}(hk:DE X k fk)(hv:DE X v fv)(h:DPs X pos ks vs fs):DPs X pos (Gc k::ks) (v::vs) ((fk,fv)::fs):=
 ⟨W6 hk.pe hv.pe h.pe,by rw[vm,h.all];rfl,by rw[sk,sk,h.len],by rw[sk,sk,h.num]⟩
theorem ZS{K:W1}{M:Ms}{H:Hp}{S S':Sto}{Q:VK}{cf:sx}{p:rY}{M2:Ms}{H2:Hp}{S2:Sto}{kvs:Wp (Key×V)}{es:Wp (Key×D)}(st:StR K M S H)(hp:H p=none)(g:Gr ⟨M.cel,p::M.tmp⟩ (upd H p (.dK [])) M2 H2)(st2:StR K M2 S2 H2)(rk:CY K M2 H2 kvs es)(q:∀v H' M',Gr M H M' H'->StR K M' (W7 cf es S2).2 H'->BX K M' H' v (W7 cf es S2).1->Q v H'):Q (.ref p) (upd H2 p (.dK kvs)):=by
 obtain⟨c2,t2⟩:=M2
 have ht:t2=p::M.tmp:=g.tmp
 subst ht
 have np:p∉M.tmp:=λz=>st.mo.some (.inr z) hp
 obtain⟨c',st',rd,pr,sub⟩:=st2.pK cf np rk
 refine q _ _ ⟨c',M.tmp⟩ ⟨st.mo,(show M.cel <+: c2 from g.pre).trans pr,rfl,λb z=>?_,λb o eb nb=>?_,λb eb=>?_⟩ st' rd
 .rcases sub b z with z|z
  .rcases g.fresh b z with z|z
   .exact .inl z
   .right
    by_cases h:b=p
    .rw[h];exact hp
    .rw[AU h]at z;exact z
  .right;rw[z];exact hp
 .have h:b≠p:=λz=>by rw[z,hp]at eb;cases eb
  rw[AU h]
  exact g.keep b o (by rw[AU h];exact eb) nb
 .by_cases h:b=p
  .subst h;rw[Ac];intro z;cases z
  .rw[AU h]
   exact g.some b (by rw[AU h];exact eb)
theorem dy{cf:sx}{ks:Wp (rW sW)}{vs:Wp sW}{fs:Wp (Ev×Ev)}(h:DPs X pos ks vs fs)(h0:ks≠[])(h15:ks.length<=15):DE X (.Dict ks vs pos) (Vb cf fs):=⟨
 BA (cC h.pe h.all h.len h0 h15) λσ H Q z=>by
  obtain⟨M,E,S,d,S',e,r,st,q⟩:=z
  obtain⟨⟨es,S2⟩,e1,e⟩:=Hu e
  intro p hp
  obtain⟨st0,s0⟩:=st.dn hp
  refine Yo e1 (r.step s0) st0 λkvs H2 M2 g st2 rk hl=>⟨g.keep p _ Ac (st0.nt p sN),kvs,rfl,by rw[hl,h.num,<-h.len];exact h15,?_⟩
  refine ZS (cf:=cf) (S':=S') st hp g st2 (rk.merge .nil) ?_
  have e':W7 cf (MN [] es) S2=(d,S'):=e
  rw[e']
  exact q⟩
end
def Tb(old:rY->Prop)(H:Hp)(h:tT)(e:rY)(v:rS):Prop:=
 v=.none\/∃T oT ts,v=.ref T/\T≠e/\h.get? T=Gc oT/\oT.data=.fields ts/\ts[3]?=Gc .none/\H T=none/\¬old T
structure Fly(old:rY->Prop)(H:Hp)(h:tT)(e C:rY)(od:rW rY):Prop where
 free:H e=none
 new:¬old e
 ex:∃oe vs a0 v,h.get? e=Gc oe/\oe.cls=.ref C/\oe.data=.fields vs/\vs[0]?=Gc a0/\vs[1]?=Gc v/\Tb old H h e v/\∀dx,od=Gc dx->oe.dict=Gc dx
theorem Fly.imp{old old':rY->Prop}{H:Hp}{h:tT}{e C:rY}{od:rW rY}(f:Fly old H h e C od)(m:∀b,old' b->old b):Fly old' H h e C od:=by
 obtain⟨oe,vs,a0,v,h1,h2,h3,h4,h5,t,hd⟩:=f.ex
 refine⟨f.free,λz=>f.new (m _ z),oe,vs,a0,v,h1,h2,h3,h4,h5,?_,hd⟩
 rcases t with t|⟨T,oT,ts,t1,t2,t3,t4,t5,t6,t7⟩
 .exact .inl t
 .exact .inr ⟨T,oT,ts,t1,t2,t3,t4,t5,t6,λz=>t7 (m _ z)⟩
structure gY(old:rY->Prop)(H:Hp)(h:tT)(e C:rY)(od:rW rY):Prop where
 free:H e=none
 new:¬old e
 ex:∃oe vs a0 T oT ts,h.get? e=Gc oe/\oe.cls=.ref C/\oe.data=.fields vs/\vs[0]?=Gc a0/\vs[1]?=Gc (.ref T)/\(T≠e/\h.get? T=Gc oT/\oT.data=.fields ts/\ts[3]?=Gc .none/\H T=none/\¬old T)/\∀dx,od=Gc dx->oe.dict=Gc dx
theorem gY.fly{old:rY->Prop}{H:Hp}{h:tT}{e C:rY}{od:rW rY}(f:gY old H h e C od):Fly old H h e C od:=by
 obtain⟨oe,vs,a0,T,oT,ts,h1,h2,h3,h4,h5,r,hd⟩:=f.ex
 exact⟨f.free,f.new,oe,vs,a0,.ref T,h1,h2,h3,h4,h5,.inr ⟨T,oT,ts,rfl,r⟩,hd⟩
structure Trn(X:Cx)(old:rY->Prop)(H:Hp)(h h':tT)(e C:rY)(od:rW rY):Prop where
 keep:∀b o,h.get? b=Gc o->b∉frs X.stack->(H b≠none\/old b\/∀vs,o.data≠.fields vs)->h'.get? b=Gc o
 slot:∀b o,h.get? b=Gc o->(∀vs,o.data≠.fields vs)->∃sl,h'.get? b=Gc {o with slots:=sl}
 fly:gY old H h' e C od
theorem C0.there{P:sf}{w:tU}{H:Hp}{h:tT}{a:rY}{o:HO}(x:C0 P w H h a o):∃ob,h.get? a=Gc ob:=by
 cases o with
 |lst xs=>obtain⟨_,_,_,_,e⟩:=x;exact⟨_,e⟩
 |tup xs=>obtain⟨_,_,_,ob,e,_⟩:=x;exact⟨_,e⟩
 |dK kvs=>obtain⟨_,_,_,_,o,_,_,e,_⟩:=x;exact⟨_,e⟩
 |dT kvs=>obtain⟨_,_,_,_,o,_,_,e,_⟩:=x;exact⟨_,e⟩
 |set S n=>obtain⟨o,_,_,_,e,_⟩:=x;exact⟨_,e⟩
 |ins C dx fs=>obtain⟨_,_,_,e,_⟩:=x;exact⟨_,e⟩
 |own y=>obtain⟨_,e⟩:=x;exact⟨_,e⟩
 |xd fs=>obtain⟨_,⟨_,_,_,e,_⟩,_⟩:=x;exact⟨_,e⟩
 |rng lo hi=>obtain⟨_,_,_,e⟩:=x;exact⟨_,e⟩
 |frz ob u=>obtain⟨e,_⟩:=x;exact⟨_,e⟩
 |tbl ps=>exact⟨_,(show h.get? a=Gc _ from x)⟩
 |met f y=>exact⟨_,(show h.get? a=Gc _ from x)⟩
 |ext φ=>obtain⟨_,⟨_,e⟩,_⟩:=x;exact⟨_,e⟩
section
variable{X:Cx}{pins:Wp (rY×Obj)}{σ:St}{H:Hp}{s:rX}{old:rY->Prop}{e C:rY}{od:rW rY}{Q:Unit->rX->Prop}{E:rS->rX->Prop}{A:tN}
theorem VW{h:tT}{a b:rY}{oa o:Obj}{vs:uE rS}(ha:h.get? a=Gc oa)(hd:oa.data=.fields vs)(hb:h.get? b=Gc o)(n:∀vs,o.data≠.fields vs):b≠a:=λz=>by
 rw[z,ha]at hb
 cases hb
 exact n _ hd
theorem bO{H:Hp}{h:tT}{a b:rY}{oa o:Obj}{vs:uE rS}(ha:h.get? a=Gc oa)(hd:oa.data=.fields vs)(fr:H a=none)(nw:¬old a)(hb:h.get? b=Gc o)(k:H b≠none\/old b\/∀vs,o.data≠.fields vs):b≠a:=λz=>by
 subst z
 rcases k with k|k|k
 .exact k fr
 .exact nw k
 .exact VW ha hd hb k rfl
theorem RH{ts:uE rS}{i:Nat}{v:rS}(h:ts[i]?=Gc v):ts.setIfInBounds i v=ts:=by
 apply Array.ext (by simp)
 intro j h1 h2
 rw[Array.getElem_setIfInBounds]
 split
 .rename_i z
  subst z
  obtain⟨_,q⟩:=vZ.mp h
  exact q.symm
 .rfl
theorem Oe{M:Model}(I:Inv X pins σ H s)(hA:A.frames=Gc X.stack)(hst:X.stack=X.env::X.outer)(hf:X.env.frame=Gc X.env.locals)(free:H e=none)(new:¬old e)(ho:∀b,old b->s.heap.get? b≠none){oe:Obj}{vs:uE rS}{a0 head:rS}{hadNext:sx}(he:s.heap.get? e=Gc oe)(hc:oe.cls=.ref C)(hd:oe.data=.fields vs)(h0:vs[0]?=Gc a0)(hz:1<vs.size)(hdx:∀dx,od=Gc dx->oe.dict=Gc dx)(hQ:∀h',Trn X old H s.heap h' e C od->Q () {s with heap:=h'}):wpAny M A (do let a<-frameOf X.env;let pl<-entryPlaceOf X.env.locals hadNext;let b<-zy head a .none (rawInt X.env.locals) .none pl;setField (.ref e) 1 b) (λ_ s2=>wpAny M A (setFlight (.ref e) none) Q E s2) E s:=by
 have st:=I.stack
 have ef:e∉frs X.stack:=λm=>by
  obtain⟨_,o,q,n⟩:=st.mem m
  exact VW he hd q n rfl
 have hfr:A.frames=Gc (X.env::X.outer):=by rw[hA,hst]
 rw[hst]at st
 refine rT (wpAny_frameOf_fun hfr st hf λh1 hs=>?_)
 obtain⟨sz,out,sl⟩:=hs
 refine rT (wpAny_entryPlaceOf λpl hpl=>?_)
 unfold zy newFields
 refine rT (uN ?_ (hpl.sizeOk5 _ _ _ _ _))
 generalize hob:({cls:=.type "traceback",data:=.fields ([head,.ref X.env.locals,.none,rawInt X.env.locals,.none]++(if pl.isEmpty then sH 6 tP else pl)).toArray}:Obj)=tb
 have ef':e∉(X.env::X.outer).filterMap (·.frame):=by rw[<-hst];exact ef
 have e1:h1.get? e=Gc oe:=(out e ef').trans he
 have e2:(h1.push tb).get? e=Gc oe:=rV _ e1
 refine wJ e2 hd hz ?_
 have Te:h1.objs.size≠e:=xv (sO e1)
 have d3:=vV hd (·.setIfInBounds 1 (si h1.objs.size))
 have e3:=u9 (uZ (·.setIfInBounds 1 (si h1.objs.size))) e2 (vA d3)
 have tbd:∃ts:uE rS,tb.data=.fields ts/\3<ts.size:=⟨_,by rw[<-hob],by simp only[sJ,tV,sk,v7]<;>lia⟩
 obtain⟨ts,td,tz⟩:=tbd
 have T3:((h1.push tb).update e (uZ (·.setIfInBounds 1 (si h1.objs.size)))).get? h1.objs.size=Gc tb:=(uS _ _ Te.symm).trans (sS h1 (vA td))
 unfold setFlight
 refine rT (uP e3 d3 (x:=.ref h1.objs.size) (by simp[hz]) ?_)
 rw[sZ (show(si h1.objs.size !=tP)=true from by simp)]
 refine wJ T3 td tz (hQ _ ?_)
 have T4:=u9 (uZ (·.setIfInBounds 3 ((none:rW rY).elim tP λf=>rawInt f))) T3 (vA (vV td _))
 have all:∀b o,b≠e->h1.get? b=Gc o->(((h1.push tb).update e (uZ (·.setIfInBounds 1 (si h1.objs.size)))).update h1.objs.size (uZ (·.setIfInBounds 3 ((none:rW rY).elim tP λf=>rawInt f)))).get? b=Gc o:=λb o n q=>by
  rw[uS _ _ (xv (sO q)),uS _ _ (uX n)]
  exact rV _ q
 have Tn:s.heap.get? h1.objs.size=none:=by
  cases q:s.heap.get? h1.objs.size with
  |none=>rfl
  |some o=>
   obtain⟨sl',z⟩:=sl _ o q
   exact absurd (sO z) (uY _)
 refine⟨λb o q nf k=>all b o (bO he hd free new q k) ((out b (by rw[<-hst];exact nf)).trans q),λb o q n=>?_,free,new,_,_,a0,h1.objs.size,_,_,(uS _ _ Te).trans e3,(Obj.cls_mapFields _ _).trans hc,d3,by rw[Array.getElem?_setIfInBounds_ne (by decide)];exact h0,by simp[hz],⟨Te,T4,vV td _,by simp[tz],?_,λz=>ho _ z Tn⟩,λdx z=>?_⟩
 .obtain⟨sl',z⟩:=sl b o q
  exact⟨sl',all b _ (VW he hd q n) z⟩
 .cases q:H h1.objs.size with
  |none=>rfl
  |some o=>
   obtain⟨ob,z⟩:=C0.there (I.hok _ o q)
   rw[Tn]at z;cases z
 .rw[<-hdx dx z]
  obtain⟨c,dd,da,sl⟩:=oe
  cases da<;>first|rfl|(simp[uZ];done)
theorem Nb{M:Model}(I:Inv X pins σ H s)(hA:A.frames=Gc X.stack)(hst:X.stack=X.env::X.outer)(hf:X.env.frame=Gc X.env.locals)(f:Fly old H s.heap e C od)(ho:∀b,old b->s.heap.get? b≠none)(hQ:∀h',Trn X old H s.heap h' e C od->Q () {s with heap:=h'}):wpAny M A (noteFrame (.ref e) X.env) (λ_ s2=>wpAny M A (setFlight (.ref e) none) Q E s2) E s:=by
 obtain⟨oe,vs,a0,v,h1,h2,h3,h4,h5,t,hd⟩:=f.ex
 have hz:=(vZ.mp h5).1
 unfold noteFrame
 simp only[hf]
 refine rT (uP h1 h3 h5 ?_)
 rcases t with t|⟨T,oT,ts,t1,t2,t3,t4,t5,t6,t7⟩
 .subst t
  rw[sg (by decide)]
  exact Oe I hA hst hf f.free f.new ho h1 h2 h3 h4 hz hd hQ
 .subst t1
  rw[sZ (show(si T !=tP)=true from by simp)]
  refine rT (uP t3 t4 t5 ?_)
  rw[sg (show¬((tP==rawInt X.env.locals)=true)from by simp[rawInt])]
  refine rT (wJ t3 t4 (vZ.mp t5).1 ?_)
  have oth:∀b,b≠T->(s.heap.update T (uZ (·.setIfInBounds 3 tP))).get? b=s.heap.get? b:=λb n=>uS _ _ (uX n)
  have sm:=RH t5
  have up:(s.heap.update T (uZ (·.setIfInBounds 3 tP))).get? T=Gc oT:=by
   rw[u9 _ t3 (vA (vV t4 _))]
   obtain⟨c,dd,da,sl⟩:=oT
   cases t4
   show Gc ({cls:=c,dict:=dd,data:=.fields (ts.setIfInBounds 3 .none),slots:=sl}:Obj)=_
   rw[sm]
  have same:∀b,(s.heap.update T (uZ (·.setIfInBounds 3 tP))).get? b=s.heap.get? b:=λb=>by
   by_cases z:b=T
   .rw[z,up,t3]
   .exact oth b z
  have I':Inv X pins σ H {s with heap:=s.heap.update T (uZ (·.setIfInBounds 3 tP))}:=I.kept (t':=s.toks) λb u q=>(same b).trans q
  refine Oe (s:={s with heap:=s.heap.update T (uZ (·.setIfInBounds 3 tP))}) I' hA hst hf f.free f.new (λb z q=>ho b z ((same b).symm.trans q)) ((same e).trans h1) h2 h3 h4 hz hd λh' t=>hQ h' ⟨λb o q=>t.keep b o ((same b).trans q),λb o q=>t.slot b o ((same b).trans q),t.fly⟩
theorem UT{M:Model}(I:Inv X pins σ H s)(f:gY old H s.heap e C od)(hQ:∀h',Trn X old H s.heap h' e C od->Q () {s with heap:=h'}):wpAny M A (setFlight (.ref e) none) Q E s:=by
 obtain⟨oe,vs,a0,T,oT,ts,h1,h2,h3,h4,h5,⟨t2,t3,t4,t5,t6,t7⟩,hd⟩:=f.ex
 unfold setFlight
 refine rT (uP h1 h3 h5 ?_)
 rw[sZ (show(si T !=tP)=true from by simp)]
 refine wJ t3 t4 (vZ.mp t5).1 (hQ _ ?_)
 have up:(s.heap.update T (uZ (·.setIfInBounds 3 ((none:rW rY).elim tP λf=>rawInt f)))).get? T=Gc oT:=by
  rw[u9 _ t3 (vA (vV t4 _))]
  obtain⟨c,dd,da,sl⟩:=oT
  cases t4
  show Gc ({cls:=c,dict:=dd,data:=.fields (ts.setIfInBounds 3 .none),slots:=sl}:Obj)=_
  rw[RH t5]
 have same:∀b,(s.heap.update T (uZ (·.setIfInBounds 3 ((none:rW rY).elim tP λf=>rawInt f)))).get? b=s.heap.get? b:=λb=>by
  by_cases z:b=T
  .rw[z,up,t3]
  .exact uS _ _ (uX z)
 exact⟨λb o q _ _=>(same b).trans q,λb o q _=>⟨o.slots,(same b).trans q⟩,f.free,f.new,oe,vs,a0,T,oT,ts,(same e).trans h1,h2,h3,h4,h5,⟨t2,up,t4,t5,t6,t7⟩,hd⟩
end
def cj(X:Cx)(pins:Wp (rY×Obj))(b:rY):Prop:=X.s₀.heap.get? b≠none\/∃p∈X.pn++pins,p.1=b
section
variable{X:Cx}{pins:Wp (rY×Obj)}{σ:St}{H:Hp}{s:rX}{old:rY->Prop}{e C:rY}{od:rW rY}{h':tT}
theorem Ts(hst:X.stack=X.env::X.outer)(hf:X.env.frame=Gc X.env.locals):frs X.stack=X.env.locals::X.fs:=by
 rw[hst];unfold frs Cx.fs frs;rw[tQ,hf]
theorem EE(I:Inv X pins σ H s)(hx:X.ex=[]):∀b,cj X pins b->s.heap.get? b≠none:=λb z=>by
 rcases z with z|⟨p,m,rfl⟩
 .cases q:X.s₀.heap.get? b with
  |none=>exact absurd q z
  |some o=>
   obtain⟨o',e'⟩:=I.base.there b o q (by rw[hx];exact λz=>nomatch z)
   rw[e'];exact λz=>nomatch z
 .rw[(I.pin p m).1];exact λz=>nomatch z
theorem QB(I:Inv X pins σ H s)(t:Trn X old H s.heap h' e C od):HOk X.prog X.w H h':=λa o q=>by
 refine(I.hok a o q).Vt (λb u hb e1=>?_) (λ_ z=>z) λ_ _ z=>z
 have hn:H b≠none:=by
  rcases hb with z|z
  .subst z;rw[q];exact λz=>nomatch z
  .rw[z];exact λz=>nomatch z
 exact t.keep b u e1 (λz=>hn (I.Ph b z)) (.inl hn)
theorem UG(I:Inv X pins σ H s)(hst:X.stack=X.env::X.outer)(hf:X.env.frame=Gc X.env.locals)(hx:X.ex=[])(t:Trn X (cj X pins) H s.heap h' e C od):Un X.fs X.ex X.H₀ H X.s₀.heap h':=by
 have hs:=Ts hst hf
 have nL:∀b o,X.s₀.heap.get? b=Gc o->b≠X.env.locals:=λb o e1=>tJ (rz (sO e1) I.ok.above)
 have od:∀b o,X.s₀.heap.get? b=Gc o->cj X pins b:=λb o e1=>.inl (by rw[e1];exact λz=>nomatch z)
 have fd:∀b o,b∈X.fs->X.s₀.heap.get? b=Gc o->∀vs,o.data≠.fields vs:=λb o hb e1 vs=>by
  obtain⟨_,o',e2,q⟩:=I.ok.Pp.mem hb
  rw[e1]at e2;cases e2
  exact q vs
 refine⟨λb o e1 n hb hx'=>?_,λb o e1 n hb hx'=>?_,I.base.free,λb o e1 hx'=>?_,I.base.Xn,I.base.UB,I.base.Vs⟩
 .refine t.keep b o (I.base.keep b o e1 n hb hx') (λz=>?_) (.inr (.inl (od b o e1)))
  rw[hs]at z
  exact(rZ.mp z).elim (nL b o e1) hb
 .obtain⟨sl,q⟩:=I.base.slot b o e1 n hb hx'
  obtain⟨sl',q'⟩:=t.slot b _ q (fd b o hb e1)
  exact⟨sl',q'⟩
 .obtain⟨o',q⟩:=I.base.there b o e1 hx'
  by_cases hb:b∈frs X.stack
  .obtain⟨_,o2,q2,d⟩:=I.stack.mem hb
   obtain⟨sl,z⟩:=t.slot b o2 q2 d
   exact⟨_,z⟩
  .exact⟨o',t.keep b o' q hb (.inr (.inl (od b o e1)))⟩
theorem Uk(I:Inv X pins σ H s)(hst:X.stack=X.env::X.outer)(hf:X.env.frame=Gc X.env.locals)(hx:X.ex=[])(t:Trn X (cj X pins) H s.heap h' e C od):Inv X pins σ H {s with heap:=h'}:=by
 have hs:=Ts hst hf
 have cl:∀c v,s.heap.IsCell c v->h'.IsCell c v:=λc v ⟨o,ho,hd⟩=>by
  obtain⟨sl,q⟩:=t.slot c o ho λvs z=>by rw[hd]at z;cases z
  exact⟨_,q,hd⟩
 refine⟨I.ok,I.os,I.bare,UG I hst hf hx t,?_,λx c e1=>?_,I.free,I.JD,λp m=>?_,QB I t,I.len⟩
 .obtain⟨m,hn,hl⟩:=I.loc
  refine⟨m,Heap.UpToSlots.ns (λb o e1 e2=>t.slot b o e1 e2) hn,λi x v e1 e2 e3=>?_⟩
  obtain⟨u,r,l⟩:=hl i x v e1 e2 e3
  refine⟨u,r,?_⟩
  rcases l with l|⟨k,c,e4,z⟩
  .exact .inl l
  .exact .inr ⟨k,c,e4,cl c _ z⟩
 .obtain⟨v,z⟩:=I.cell x c e1
  exact⟨v,cl c v z⟩
 .obtain⟨p1,p2,p3,p4,p5⟩:=I.pin p m
  refine⟨t.keep _ _ p1 (λz=>?_) (.inr (.inl (.inr ⟨p,m,rfl⟩))),p2,p3,p4,p5⟩
  rw[hs]at z
  exact(rZ.mp z).elim p3 p4
end
abbrev Rk:=rY->rW rY->St->Hp->Prop
abbrev TR:=St->Hp->Rk->Prop
inductive XP(X:Cx)(pins:Wp (rY×Obj))(Z:Rk)(ev:rS)(s':rX):Prop
 |mk (e C:rY) (od:rW rY) (σ':Sg) (H':Hp) (h:ev=.ref e) (I:Inv X pins σ' H' s') (z:Z C od σ' H') (fl:Fly (cj X pins) H' s'.heap e C od)
def PX(X:Cx)(st:tE)(t:TR):Prop:=∀(pins:Wp (rY×Obj)) (s:rX) (σ:St) (H:Hp) (Z:Rk),Inv X pins σ H s->t σ H Z->wpAny (model X.prog X.w) X.A (exec st X.env) (λ_ _=>ur) (XP X pins Z) s
def PXs(X:Cx)(sts:Wp tE)(t:TR):Prop:=∀(pins:Wp (rY×Obj)) (s:rX) (σ:St) (H:Hp) (Z:Rk),Inv X pins σ H s->t σ H Z->wpAny (model X.prog X.w) X.A (execs sts X.env) (λ_ _=>ur) (XP X pins Z) s
def PXe(X:Cx)(e:sW)(t:TR):Prop:=∀(pins:Wp (rY×Obj)) (s:rX) (σ:St) (H:Hp) (Z:Rk),Inv X pins σ H s->t σ H Z->wpAny (model X.prog X.w) X.A (eval e X.env) (λ_ _=>ur) (XP X pins Z) s
noncomputable def CXr(P:sf)(w:tU):CXT:=λouter H s E ev s'=>∃e C od H',ev=.ref e/\s'.os=s.os/\wo s'.gens/\Un (frs outer) [] H H' s.heap s'.heap/\HOk P w H' s'.heap/\Fly (λb=>s.heap.get? b≠none) H' s'.heap e C od/\E (.ref C) od H'
theorem Qy{P:sf}{w:tU}{K:W1}{mg:Str->rW rS}{base:tT}{N:Wp Str}{qual:Str}{scope:uT}{f:rY}{cd:rS}{A:tN}{outer:Wp uM}{s:rX}{H:Hp}{E:XK}{pins:Wp (rY×Obj)}{Z:Rk}{ev:rS}{s':rX}(h:XP (Hw (CXr P w) P w K mg base N qual scope f cd A outer s H E).nox pins Z ev s')(hZ:∀C od σ' H',Z C od σ' H'->E (.ref C) od H'):(Hw (CXr P w) P w K mg base N qual scope f cd A outer s H E).xe ev s':=by
 obtain⟨e,C,od,σ',H',rfl,I,z,fl⟩:=h
 show wpAny _ _ (leaving _ (.ref e)) _ _ s'
 unfold leaving
 refine rT (Nb I I.ok.frames rfl rfl fl (EE I rfl) λh' t=>?_)
 exact⟨e,C,od,H',rfl,I.os,I.bare,UG I rfl rfl rfl t,QB I t,t.fly.fly.imp λb z=>.inl z,hZ _ _ _ _ z⟩
structure Tg where
 nm:Str
 pay:rW Int
instance:Coe Str Tg:=⟨λx=>⟨x,none⟩⟩
def jg(mg:Str->rW rS)(x:Tg)(C:rY)(od:rW rY)(H:Hp):Prop:=mg x.nm=Gc (.ref C)/\∀n,x.pay=Gc n->∃dx,od=Gc dx/\H dx=Gc (.xd [("at",.int n)])
abbrev Rx:=En->Sto->rW (Tg×En×Sto)
abbrev Rf:=Wp D->Sto->rW (Tg×Sto)
inductive tR(K:W1)(mg:Str->rW rS)(r:Rx)(σ:Sg)(H:Hp)(Z:Rk):Prop
 |mk (M:Ms) (E:En) (S:Sto) (x:Tg) (E':En) (S':Sto) (e:r E S=Gc (x,E',S')) (rr:EnR K M E σ H) (st:StR K M S H) (q:∀C od σ' H' M',jg mg x C od H'->Gr M H M' H'->EnR K M' E' σ' H'->StR K M' S' H'->Z C od σ' H')
structure RS(X:Cx)(st:tE)(r:Rx):Prop where
 pe:PX X st (tR X.K X.mg r)
structure RSs(X:Cx)(st:Wp tE)(r:Rx):Prop where
 pe:PXs X st (tR X.K X.mg r)
structure RE(X:Cx)(e:sW)(r:Rx):Prop where
 pe:PXe X e (tR X.K X.mg r)
inductive spR(K:W1)(mg:Str->rW rS)(np:Nat)(R:Rf)(vs:Wp V)(H:Hp)(Q:VK)(E:XK):Prop
 |mk (M:Ms) (ds:Wp D) (S:Sto) (x:Tg) (S':Sto) (l:ds.length=np) (e:R ds S=Gc (x,S')) (r:Ae K M H vs ds) (st:StR K M S H) (q:∀C od H' M',jg mg x C od H'->Gr M H M' H'->StR K M' S' H'->E (.ref C) od H')
noncomputable def Iy(N:Nat)(r:Rx):Rf:=λds S=>(r (ds.map Gc++sH (N-ds.length) none) S).map λq=>(q.1,q.2.2)
structure bQ(P:sf)(w:tU)(K:W1)(mg:Str->rW rS)(base:tT)(x:Str)(k:Nat)(ps:Wp Str)(sp:Sp):Prop where
 ex:∃f fd,mg x=Gc (.ref f)/\uL K (.ref f)=true/\Binds K fd ps []/\KR P w K mg base (CXr P w) k f fd ps sp
section
variable{P:sf}{w:tU}{K:W1}{mg:Str->rW rS}{base:tT}
theorem iM{x:Str}{st:tE}{f:rY}{fd:uf}{N ps:Wp Str}{k np:Nat}{r:Rx}(Fu:Fun K x x st f fd)(S:Ar N ps (AD st))(hp:ps.length=np)(hb:∀(cdv:rS) (A:tN) (outer:Wp uM) (s:rX) (H:Hp) (E:XK),CZ k (A.deeper (sR x (AD st) s.heap.objs.size f cdv))->RSs (Hw CX0 P w K mg base N x (AD st) f cdv A outer s H E).nox (A3 st) r):KR P w K mg base (CXr P w) (k+1) f fd ps (spR K mg np (AW (Iy N.length r))):=by
 rw[IY]
 obtain⟨oc,od,kV,doc,pm,an,cdv,ct,osl,rfl,lk,hcd⟩:=Fu.ex
 refine X5 lk hcd S (λvs H Q E h=>?_) λA outer s H vs Q E hr h=>?_
 .obtain⟨M,ds,S0,d,S',hl,_,r,_⟩:=h
  have:=r.length
  lia
 .obtain⟨M,ds,S0,y,S',hl,e,rr,st,q⟩:=h
  have hlen:=rr.length
  refine⟨λ_ σ H=>tR K mg r σ H λC od _ H'=>E (.ref C) od H',λpins s1 σ1 H1 D I h=>?_,?_⟩
  .exact ub ((hb cdv A outer s H E hr).pe pins s1 σ1 H1 _ (I.R6 _) h) (λ_ _ z=>z.elim) λev s' z=>Qy z λ_ _ _ _ z=>z
  .obtain⟨⟨y',E',S1⟩,e1,e⟩:=Hu e
   cases e
   refine⟨M,_,S0,y',E',S1,e1,?_,st,λC od σ' H' M' hm g _ st'=>q C od H' M' hm g st'⟩
   rw[show L2.start N vs=vs.map Gc++sH (N.length-ds.length) none from by unfold L2.start;rw[hlen]]
   exact .args rr _
theorem aR{x:Str}{st:tE}{N ps:Wp Str}{k np:Nat}{r:Rx}(S:St.Src K mg x st)(sc:Ar N ps (AD st))(hp:ps.length=np)(hbi:∀f fd,Fun K x x st f fd->Binds K fd ps [])(hb:∀(f:rY) (cdv:rS) (A:tN) (outer:Wp uM) (s:rX) (H:Hp) (E:XK),CZ k (A.deeper (sR x (AD st) s.heap.objs.size f cdv))->RSs (Hw CX0 P w K mg base N x (AD st) f cdv A outer s H E).nox (A3 st) r):bQ P w K mg base x (k+1) ps (spR K mg np (AW (Iy N.length r))):=by
 obtain⟨f,fd,Fu,hm⟩:=S.ex
 exact⟨f,fd,hm,Fu.kp,hbi f fd Fu,iM Fu sc hp λcdv A outer s H E hr=>hb f cdv A outer s H E hr⟩
end
theorem EK{X:Cx}{α:Type}{M:Model}{A:tN}{t:Sem α}{Q Q':α->rX->Prop}{E:rS->rX->Prop}{s:rX}(hn:X.xe=λ_ _=>ur)(h:wpAny M A t Q X.xe s)(hQ:∀a s,Q a s->Q' a s):wpAny M A t Q' E s:=
 ub h hQ λ_ _ z=>by rw[hn]at z;exact z.elim
noncomputable def Pb(R:Rf)(fs:Wp Ev):Rx:=λE S=>(evs fs E S).bind λq=>(R q.1 q.2).map λz=>(z.1,E,z.2)
theorem Ua{X:Cx}{k np:Nat}{x:Str}{ps:Wp Str}{R:Rf}{e:sW}{es:Wp sW}{fs:Wp Ev}{p pos:Pos}(d:bQ X.prog X.w X.K X.mg X.base x k ps (spR X.K X.mg np R))(hr:CZ k X.A)(hg:Gl X x)(ha:DEs X (e::es) fs)(hn:fs.length=np:=by rfl)(hxe:X.xe=λ_ _=>ur:=by rfl)(hx:X.ex=[]:=by rfl)(hdb:(x==("__debug__":Str))=false:=by decide)(he:sE (e::es) X.env=(false,eval e X.env)::sE es X.env:=by rfl)(hpl:(backTo pos (sE es X.env)).any (·.1)=false:=by rfl):RE X (.Call (.Name x p) (e::es) [] pos) (Pb R fs):=⟨by
 intro pins s σ H Z I h
 obtain⟨f,fd,hm,hk,hb,F⟩:=d.ex
 obtain⟨M,E,S,y,E',S',e0,r,st,q⟩:=h
 obtain⟨⟨ds,S1⟩,e1,e2⟩:=Ak e0
 obtain⟨⟨y',S2⟩,e3,e4⟩:=Hu e2
 cases e4
 refine uR (IX I hg hm ?_ hdb)
 have ha':=ha.pe pos pins s σ H (λvs H1=>∃M1,Gr M H M1 H1/\StR X.K M1 S1 H1/\Ae X.K M1 H1 vs ds) I (EU e1 r st λvs H1 M1 g1 st1 r1=>⟨M1,g1,st1,r1⟩)
 refine uq (h₀:=X.base) I.ok.mod.kin hk (EK hxe ha' λus s1 ⟨vs,H1,I1,rv,M1,g1,st1,r1⟩=>⟨I1.kIn,?_⟩) he hpl
 have sp:spR X.K X.mg np R vs H1 (λ_ _=>ur) (λv od H'=>∃C,v=.ref C/\Z C od σ H'):=
  ⟨M1,ds,S1,y',S2,by rw[GZ e1];exact hn,e3,r1,st1,λC od H' M' hc g2 st2=>⟨C,rfl,q C od σ H' M' hc (g1.trans g2) ((r.step g1.st).step g2.st) st2⟩⟩
 have hl:(us++[]).length=ps.length:=by rw[uB,<-rv.length];exact F.len _ _ _ _ sp
 have hbs:=hb s1 us I1.kIn hl
 rw[uB]at hbs
 refine wj (wQ (F.run X.A X.stack s1 H1 ⟨us,[]⟩ us vs _ _ hr I1.Yi hbs rv sp) λrs s' hq=>?_)
 cases rs with
 |error ev=>
  obtain⟨e,C,od,H',rfl,os,bare,un,hok,fly,C',hC,z⟩:=hq
  cases hC
  exact⟨e,C,od,σ,H',rfl,I1.SV os un hok bare (λb z=>nomatch z),z,fly.imp λb z=>EE I1 hx b z⟩
 |ok fl=>
  cases fl with
  |ret u=>
   obtain⟨v,H',_,_,_,_,_,q⟩:=hq
   exact q.elim
  |next=>exact tu hq
  |brk=>exact tu hq
  |cont=>exact tu hq⟩
section
variable{X:Cx}{st:tE}{rest a b:Wp tE}{f g:Ex}{r r1 r2:Rx}{c e:sW}{k:Ev}{pos:Pos}
theorem mZ(h:RE X e r)(hs:swapsWith e none pos.line X.env=pure false:=by rfl):RS X (.Expr e pos) r:=⟨λpins s σ H Z I q=>wpAny_Expr_any (ub (h.pe pins s σ H Z I q) (λ_ _ z=>z) λ_ _ z=>z) I.quiet hs⟩
theorem ZK(h:RE X e r):RS X (.Return (Gc e) pos) r:=⟨λpins s σ H Z I q=>yZ (ub (h.pe pins s σ H Z I q) (λ_ _ z=>z) λ_ _ z=>z)⟩
noncomputable def rNo:Rx:=λ_ _=>none
theorem YM:RS X st rNo:=⟨λ_ _ _ _ _ _ z=>by
 obtain⟨M,E,S,x,E',S',e,_⟩:=z
 cases e⟩
theorem OZ:RSs X rest rNo:=⟨λ_ _ _ _ _ _ z=>by
 obtain⟨M,E,S,x,E',S',e,_⟩:=z
 cases e⟩
noncomputable def Kw(r:Rx)(f:Ex)(r2:Rx):Rx:=λE S=>match r E S with
 |some z=>Gc z
 |none=>(f E S).bind λq=>match q.1 with
  | .nx=>r2 q.2.1 q.2.2
  | .ret _=>none
theorem Fp(h1:RS X st r)(hb:DS X st f)(h2:RSs X rest r2)(hxe:X.xe=λ_ _=>ur:=by rfl):RSs X (st::rest) (Kw r f r2):=⟨λpins s σ H Z I z=>by
 obtain⟨M,E,S,x,E',S',e,rr,ss,q⟩:=z
 unfold Kw at e
 split at e
 .rename_i z' e1
  cases e
  refine vp (ub (h1.pe pins s σ H Z I ⟨M,E,S,x,E',S',e1,rr,ss,q⟩) (λ_ _ z=>z.elim) λ_ _ z=>z)
 .obtain⟨⟨fl,E1,S1⟩,e1,e⟩:=Ak e
  dsimp only at e
  split at e
  .refine vp (EK hxe (hb.pe pins s σ H {nx:=λσ' H'=>tR X.K X.mg r2 σ' H' Z,rt:=λ_ _=>ur} I ⟨M,E,S,.nx,E1,S1,e1,rr,ss,λσ' H' M' g' r' st'=>⟨M',E1,S1,x,E',S',e,r',st',λC od σ2 H2 M2 hm g2=>q C od σ2 H2 M2 hm (g'.trans g2)⟩⟩) λfl s1 w=>?_)
   cases fl with
   |next=>
    obtain⟨σ',H',I',q'⟩:=w
    exact h2.pe pins s1 σ' H' Z I' q'
   |ret v=>obtain⟨_,_,_,_,_,q'⟩:=w;exact q'.elim
   |brk=>obtain⟨_,_,_,q'⟩:=w;exact q'.elim
   |cont=>obtain⟨_,_,_,q'⟩:=w;exact q'.elim
  .cases e⟩
theorem Jj(h1:RS X st r):RSs X [st] r:=⟨λpins s σ H Z I z=>vp (ub (h1.pe pins s σ H Z I z) (λ_ _ z=>z.elim) λ_ _ z=>z)⟩
noncomputable def rIf(k:Ev)(r1 r2:Rx):Rx:=λE S=>(k E S).bind λq=>match q.1 with
 | .bl true=>r1 E q.2
 | .bl false=>r2 E q.2
 |_=>none
theorem V6(hc:DT X c k)(ha:RSs X a r1)(hb:RSs X b r2)(hxe:X.xe=λ_ _=>ur:=by rfl):RS X (.If c a b pos) (rIf k r1 r2):=⟨λpins s σ H Z I z=>by
 obtain⟨M,E,S,x,E',S',e,rr,ss,q⟩:=z
 obtain⟨⟨w1,S1⟩,e1,e⟩:=Ak e
 dsimp only at e
 split at e
 .refine wpAny_If (EK hxe (hc.pe pins s σ H (λd H1=>d=true/\tR X.K X.mg r1 σ H1 Z) I ⟨M,E,S,_,S1,e1,rr,ss,λH1 M1 g1 st1=>⟨rfl,M1,E,S1,x,E',S',e,rr.step g1.st,st1,λC od σ2 H2 M2 hm g2=>q C od σ2 H2 M2 hm (g1.trans g2)⟩⟩) λd s1 w=>?_)
  obtain⟨H1,I1,rfl,q1⟩:=w
  exact ha.pe pins s1 σ H1 Z I1 q1
 .refine wpAny_If (EK hxe (hc.pe pins s σ H (λd H1=>d=false/\tR X.K X.mg r2 σ H1 Z) I ⟨M,E,S,_,S1,e1,rr,ss,λH1 M1 g1 st1=>⟨rfl,M1,E,S1,x,E',S',e,rr.step g1.st,st1,λC od σ2 H2 M2 hm g2=>q C od σ2 H2 M2 hm (g1.trans g2)⟩⟩) λd s1 w=>?_)
  obtain⟨H1,I1,rfl,q1⟩:=w
  exact hb.pe pins s1 σ H1 Z I1 q1
 .cases e⟩
end
abbrev VEm:Wp rS:=[.type "ValueError",.type "Exception",.type "BaseException",.type "object"]
structure XcD(K:W1)(mg:Str->rW rS)(x:Str):Prop where
 ex:∃C,mg x=Gc (.ref C)/\yn K C VEm "ValueError.__new__"=true
theorem lq{K:W1}{h:tT}{mg:Str->rW rS}{x:Str}{C:rY}(X:K.In h)(G:h.Ns mainGlobals mg)(e:tS K mainGlobals x=Gc (Gc (.ref C)))(q:yn K C VEm "ValueError.__new__"=true):XcD K mg x:=⟨C,vI X G e,q⟩
theorem aW{K:W1}{h:tT}{C:rY}{bmB:Wp rS}{newId:vB}(X:K.In h)(q:yn K C bmB newId=true):∃bm N nm q bs hdct sn sub ab col dd k0 k1 k2 k3 k5 mN,h.get? C=Gc (excClassObj nm q C N bs bm hdct sn sub ab col dd k0 k1 k2 k3 k5 newId)/\h.Ns N mN/\mN "__init__"=none/\OwnTail h bmB bm:=by
 unfold yn at q
 split at q
 case h_2=>cases q
 rename_i dd cd sl ho
 split at q
 case h_2=>cases q
 rename_i C' bm k0 k1 k2 k3 n k5 hm hs
 simp only[sA,vC,yg]at q
 obtain⟨⟨⟨⟨⟨rfl,rfl⟩,hdel⟩,ht⟩,hok⟩,hni⟩:=q
 have hsl:sl= #[k0,k1,k2,k3,Gc (.builtin n),k5]:=Array.toList_inj.mp hs
 obtain⟨nm,bs,mro,ns,qn,hd,sn,sub,ab,col,del⟩:=cd
 dsimp only at hm hdel hok hni
 subst hm hdel hsl
 exact⟨bm,ns,nm,qn,bs,hd,sn,sub,ab,col,dd,k0,k1,k2,k3,k5,_,X _ _ ho,.of_isNs (PySem.W.isNs_of_in X hok),PySem.W.nsMap_none_of_in X hok hni,PySem.W.tail_of_in X ht⟩
noncomputable def HM(x:Str)(fs:Wp Ev):Rx:=λE S=>(evs fs E S).map λq=>(⟨x,none⟩,E,q.2)
theorem Kq{X:Cx}{x:Str}{e:sW}{es:Wp sW}{fs:Wp Ev}{np cpos pos:Pos}(hc:X.calm=true)(xc:XcD X.K X.mg x)(hg:Gl X x)(ha:DEs X (e::es) fs)(hl:fs.length<=sizeLine:=by decide)(hxe:X.xe=λ_ _=>ur:=by rfl)(hx:X.ex=[]:=by rfl)(hdb:(x==("__debug__":Str))=false:=by decide)(he:sE (e::es) X.env=(false,eval e X.env)::sE es X.env:=by rfl)(hpl:(backTo cpos (sE es X.env)).any (·.1)=false:=by rfl):RS X (.Raise (Gc (.Call (.Name x np) (e::es) [] cpos)) none pos) (HM x fs):=⟨by
 intro pins s σ H Z I h
 obtain⟨C,hm,hex⟩:=xc.ex
 obtain⟨M,E,S,y,E',S',e0,r,st,q⟩:=h
 obtain⟨⟨ds,S1⟩,e1,e2⟩:=Hu e0
 cases e2
 obtain⟨tl,N,nm,qn,bs,hdct,sn,sub,ab,col,dd,k0,k1,k2,k3,k5,mN,hC,hN,hni,T⟩:=aW I.ok.mod.kin hex
 refine wpAny_Raise_call_subT (C:=C) (nm:=nm) (q:=qn) (N:=N) (bs:=bs) (bm:=tl) (hdct:=hdct) (sn:=sn) (sub:=sub) (ab:=ab) (col:=col) (dd:=dd) (k0:=k0) (k1:=k1) (k2:=k2) (k3:=k3) (k5:=k5)
  zh (mN:=mN) (T.hasType zh.hasBase) (I.ok.hd hc) (by rw[he];show(false||(backTo cpos (sE es X.env)).any (·.1))=false;rw[hpl];rfl) hni (IX I hg hm ⟨rfl,?_⟩ hdb)
 have ha':=ha.pe cpos pins s σ H (λvs H1=>∃M1,Gr M H M1 H1/\StR X.K M1 S1 H1/\Ae X.K M1 H1 vs ds) I (EU e1 r st λvs H1 M1 g1 st1 r1=>⟨M1,g1,st1,r1⟩)
 rw[he]at ha'⊢
 refine zZ (EK hxe ha' λus s1 ⟨vs,H1,I1,rv,M1,g1,st1,r1⟩=>?_)
 refine⟨rfl,by rw[<-rv.length,r1.length,GZ e1];exact hl,I1.bk _ _ hC,hN.keeps I1.bk,T.keeps I1.bk,λh' ea hmd=>?_⟩
 obtain⟨t,w1,w2,w3⟩:=hmd.there
 refine⟨ea,C,none,σ,H1,rfl,I1.kept (t':=s1.toks) hmd.keeps,q C none σ H1 M1 ⟨hm,λ_ z=>nomatch z⟩ g1 (r.step g1.st) st1,?_,λz=>EE I1 hx _ z hmd.new,_,_,.ref t,.none,w1,rfl,rfl,rfl,rfl,.inl rfl,λ_ z=>nomatch z⟩
 cases o:H1 ea with
 |none=>rfl
 |some ho=>
  obtain⟨ob,z⟩:=C0.there (I1.hok ea ho o)
  rw[hmd.new]at z;cases z⟩
abbrev Cx.mrk(X:Cx)(e:rY):Cx:={X with A:=X.A.mark (Gc (.ref e)),calm:=false}
section
variable{X:Cx}{pins:Wp (rY×Obj)}{σ:St}{H:Hp}{s:rX}{e:rY}
theorem de(ok:X.Ok):(Cx.mrk X e).Ok:=⟨ok.mod,ok.kind,ok.glob,ok.blt,ok.above,ok.inj,ok.has,ok.cab,(λz=>nomatch z),ok.frames,ok.stk,ok.exf,ok.bs,ok.bsz,ok.ZF,ok.aV,ok.Pp,ok.frf⟩
theorem cQ(I:Inv X pins σ H s):Inv (Cx.mrk X e) pins σ H s:=⟨de I.ok,I.os,I.bare,I.base,I.loc,I.cell,I.free,I.JD,I.pin,I.hok,I.len⟩
theorem JB(ok:X.Ok)(I:Inv (Cx.mrk X e) pins σ H s):Inv X pins σ H s:=⟨ok,I.os,I.bare,I.base,I.loc,I.cell,I.free,I.JD,I.pin,I.hok,I.len⟩
theorem Xj{D:Ends}{f:Flow}(ok:X.Ok)(h:SP (Cx.mrk X e) pins D f s):SP X pins D f s:=by
 cases f with
 |next=>obtain⟨σ',H',I,q⟩:=h;exact⟨σ',H',JB ok I,q⟩
 |brk=>obtain⟨σ',H',I,q⟩:=h;exact⟨σ',H',JB ok I,q⟩
 |cont=>obtain⟨σ',H',I,q⟩:=h;exact⟨σ',H',JB ok I,q⟩
 |ret u=>obtain⟨v,σ',H',I,r,q⟩:=h;exact⟨v,σ',H',JB ok I,r,q⟩
end
structure HS(X:Cx)(hs:Wp uz)(g:Tg->Ex):Prop where
 pe:∀(x:Tg) (C:rY) (od:rW rY) (pins:Wp (rY×Obj)) (s:rX) (σ:St) (H:Hp) (D:Ends) (e:rY),jg X.mg x C od H->Inv X pins σ H s->gY (cj X pins) H s.heap e C od->tX X.K (g x) D σ H->
  wpAny (model X.prog X.w) X.A (handleBy (.ref e) X.env hs) (SP X pins D) (λ_ _=>ur) s
noncomputable def gNo:Tg->Ex:=λ_ _ _=>none
theorem TF{X:Cx}:HS X [] gNo:=⟨λ_ _ _ _ _ _ _ _ _ _ _ _ z=>by
 obtain⟨M,E,S,fl,E',S',e,_⟩:=z
 cases e⟩
structure XmD(K:W1)(mg:Str->rW rS)(xs:Wp Str)(y:Str):Prop where
 ex:∃C',mg y=Gc (.ref C')/\∀x∈xs,∀C,mg x=Gc (.ref C)->wL K (.ref C) (.ref C')=Gc (x==y)
noncomputable def gOr(xs:Wp Str)(y:Str)(f:Ex)(g:Tg->Ex):Tg->Ex:=λx=>if x.nm∈xs then(if(x.nm==y)=true then f else g x)else B0
theorem By{X:Cx}{xs:Wp Str}{y:Str}{b₀:tE}{suite:Wp tE}{f:Ex}{g:Tg->Ex}{np pos:Pos}{rest:Wp uz}(xm:XmD X.K X.mg xs y)(hg:Gl X y)(hf:∀e,DSs (Cx.mrk X e) (b₀::suite) f)(hr:HS X rest g)(hxe:X.xe=λ_ _=>ur:=by rfl)(hx:X.ex=[]:=by rfl)(hst:X.stack=X.env::X.outer:=by rfl)(hfr:X.env.frame=Gc X.env.locals:=by rfl)(hdb:(y==("__debug__":Str))=false:=by decide):HS X (.ExceptHandler (Gc (.Name y np)) none (b₀::suite) pos::rest) (gOr xs y f g):=⟨by
 intro x C od pins s σ H D e tg I fl z
 have hm:=tg.1
 obtain⟨C',hm',hex⟩:=xm.ex
 have hin:x.nm∈xs:=by
  by_cases h:x.nm∈xs
  .exact h
  .obtain⟨M,E,S,fl,E',S',e,_⟩:=z
   unfold gOr at e
   rw[sg h]at e
   cases e
 have z':tX X.K (if(x.nm==y)=true then f else g x) D σ H:=by
  unfold gOr at z
  rw[sZ hin]at z
  exact z
 have ex:=hex x.nm hin C hm
 obtain⟨oe,vs,a0,T,oT,ts,h1,h2,_⟩:=id fl.ex
 have LT:PySem.W.Looks (model X.prog X.w) s.heap (typeOf (.ref e)) (.ref C):=by
  rw[<-h2];exact(PySem.W.Looks.ld h1).andThen .now
 refine z5 (zS (vS I.ok.kind hg (wq (by rw[I.ok.glob];exact I.mod.glob.keeps I.bk) hm' ?_) hdb)) (by intro q;cases q)
 refine PySem.W.exm_one I.kIn LT ex _ _ _ _ (λ_ _ q=>q) ?_
 cases hb:(x.nm==y)with
 |true=>
  rw[sZ hb]at z'
  refine codeAny_handlers_suite (wpAny_passesOwnAt PassesOwnAt.never (UT I fl λh' t=>?_))
  have I':=cQ (e:=e) (Uk I hst hfr hx t)
  exact wpAny_passesOwnAt PassesOwnAt.never (EK (X:=Cx.mrk X e) hxe ((hf e).pe pins _ σ H D I' z') λfl s2 w=>Xj I.ok w)
 |false=>
  rw[sg (by rw[hb];decide)]at z'
  exact hr.pe x C od pins s σ H D e tg I fl z'⟩
section
variable{X:Cx}{pos:Pos}
end
theorem kl{K:W1}{h:tT}{mg:Str->rW rS}{xs:Wp Str}{y:Str}{C':rY}(X:K.In h)(G:h.Ns mainGlobals mg)(e:tS K mainGlobals y=Gc (Gc (.ref C')))(t:∀x∈xs,∃C,tS K mainGlobals x=Gc (Gc (.ref C))/\wL K (.ref C) (.ref C')=Gc (x==y)):XmD K mg xs y:=⟨C',vI X G e,λx hx C hm=>by
 obtain⟨C2,e2,q⟩:=t x hx
 have:=hm.symm.trans (vI X G e2)
 cases this
 exact q⟩
theorem all_nil{p:Str->Prop}:∀x∈([]:Wp Str),p x:=λ_ z=>nomatch z
theorem all_cons{p:Str->Prop}{x:Str}{xs:Wp Str}(h:p x)(t:∀x∈xs,p x):∀y∈x::xs,p y:=λy m=>by
 rcases rZ.mp m with rfl|m
 .exact h
 .exact t y m
end Mi
end
noncomputable section
namespace Mi
open PySem PySem.Spec L2 PyProof.Rows
abbrev eIx(a b:Ev):Ev:=eOp (o2 wIx) [a,b]
abbrev eI(n:Int):Ev:=eC (.int n)
theorem scM{N P:Wp Str}{sc:uT}(a:sc.kind=.function:=by rfl)(b:sc.isCoroutine=false:=by rfl)(c:sc.isGenerator=false:=by rfl)(d:N.Nodup:=by decide+kernel)(e:N.take P.length=P:=by rfl)(f:∀x∈P,sc.names.lookup x=Gc .local\/sc.names.lookup x=Gc .cell:=by decide+kernel)(g:∀y∈sc.names,y.2≠.free:=by decide+kernel):Ar N P sc:=⟨a,b,c,d,e,f,g⟩
theorem csM{N:Wp Str}{osc:uT}{N':Wp Str}{ix:Wp (rW Nat)}{scope:uT}(a:scope.kind=.function:=by rfl)(b:∀y∈scope.names,y.2=.cell->scope.names.lookup y.1=Gc .cell:=by decide+kernel)(c:∀y∈scope.names,y.2=.local->scope.names.lookup y.1=Gc .local:=by decide+kernel)(d:∀y∈scope.names,y.2=.free->(osc.names.lookup y.1=Gc .cell\/osc.names.lookup y.1=Gc .free):=by decide+kernel)(e:Qx N osc scope N' ix=true:=by decide+kernel):Ab N osc N' ix scope:=⟨a,b,c,d,e⟩
theorem len0{α:Type}{us:Wp α}(h:us.length=0):us=[]:=List.eq_nil_of_length_eq_zero h
theorem lH{α:Type}{us:Wp α}{n:Nat}(h:us.length=n+1):∃a r,us=a::r/\r.length=n:=by
 cases us with
 |nil=>cases h
 |cons a r=>exact⟨a,r,rfl,Nat.succ.inj h⟩
theorem Ru{α:Type}{us:Wp α}(h:us.length=1):∃a,us=[a]:=by
 obtain⟨a,r,rfl,k⟩:=lH h
 obtain rfl:=len0 k
 exact⟨a,rfl⟩
theorem mK{α:Type}{us:Wp α}(h:us.length=2):∃a b,us=[a,b]:=by
 obtain⟨a,r,rfl,k⟩:=lH h
 obtain⟨b,rfl⟩:=Ru k
 exact⟨a,b,rfl⟩
theorem pD{α:Type}{us:Wp α}(h:us.length=3):∃a b c,us=[a,b,c]:=by
 obtain⟨a,r,rfl,k⟩:=lH h
 obtain⟨b,c,rfl⟩:=mK k
 exact⟨a,b,c,rfl⟩
theorem oO{us:Wp rS}{n:Nat}(h:us.length=n):∃f:Nat->rS,us=(tj n).map f:=by
 refine⟨λi=>us.getD i .none,?_⟩
 subst h
 apply List.ext_getElem
 .simp
 .intro i h1 h2
  rw[List.getElem_map,List.getElem_range,sv,sF h1];rfl
def BnR(x:Str)(st:tE)(ps:Wp Str):Prop:=∀(kV doc pm:rS) (an:rW rY) (cdv ct:rS) (f:Nat->rS),bindArgs (vG x x (Gp st) (A3 st) (AD st) .none kV doc pm an cdv ct) ⟨(tj ps.length).map f,[]⟩=pure (ps.zip ((tj ps.length).map f))
theorem bnR{K:W1}{x:Str}{st:tE}{ps:Wp Str}{f:rY}{fd:uf}(F:Fun K x x st f fd)(h:BnR x st ps):Binds K fd ps []:=F.binds λa b c d e g us hl=>by
 obtain⟨k,rfl⟩:=oO hl
 exact h a b c d e g k
section
variable{P:sf}{w:tU}{K:W1}{mg:Str->rW rS}{base:tT}
theorem dfM{x:Str}{st:tE}{N ps:Wp Str}(k:Nat){np:Nat}{b:Ex}(S:St.Src K mg x st)(sc:Ar N ps (AD st))(hb:∀{f:rY} {cdv:rS} {A:tN} {outer:Wp uM} {s:rX} {H:Hp} {E:XK},CZ k (A.deeper (sR x (AD st) s.heap.objs.size f cdv))->(A.deeper (sR x (AD st) s.heap.objs.size f cdv)).units+100<cLine->DSs (Hw CX0 P w K mg base N x (AD st) f cdv A outer s H E).nox (A3 st) b)(hp:ps.length=np:=by rfl)(hbi:BnR x st ps:=by exact λ_ _ _ _ _ _ _=>rfl):St.Dfn P w K mg base x (k+1) ps (spD K np (AW (Af N.length b))):=gv S sc hp (λ_ _ F=>bnR F hbi) λ_ _ _ _ _ _ _ hr=>hb hr (II hr)
end
theorem deM{X:Cx}{k k' np:Nat}{x:Str}{ps:Wp Str}{f:Fn}{e:sW}{es:Wp sW}{fs:Wp Ev}{p pos:Pos}(d:St.Dfn X.prog X.w X.K X.mg X.base x k ps (spD X.K np f))(hr:CZ k' X.A)(ha:DEs X (e::es) fs)(hk:k<=k':=by first|decide|lia)(hg:Gl X x:=by exact rfl)(hn:fs.length=np:=by rfl)(hdb:(x==("__debug__":Str))=false:=by decide)(he:sE (e::es) X.env=(false,eval e X.env)::sE es X.env:=by rfl)(hpl:(backTo pos (sE es X.env)).any (·.1)=false:=by rfl):DE X (.Call (.Name x p) (e::es) [] pos) (AF f fs):=aH d (hr.mono hk) hg ha hn hdb he hpl
end Mi
end
noncomputable section
namespace Mi
open PySem PySem.Spec L2 PyProof.Rows
def BmB(mg:Str->rW rS)(base:tT):Prop:=
 ∃bm o,mg "__builtins__"=Gc (.ref bm)/\bm≠builtinsNs/\bm≠mainGlobals/\base.get? bm=Gc o/\o.cls=.type "module" /\o.dict=Gc builtinsNs/\o.data=.plain
theorem Jv.hd{K:W1}{h:tT}{c P:rY}(k:Jv K c P)(X:K.In h):PySem.W.CodeHd h c P:=by
 obtain⟨o,vs,file,tf,flags,tg,inF,text,tt,h0,r⟩:=k
 exact⟨o,vs,file,tf,flags,tg,inF,text,tt,X _ _ h0,r⟩
theorem Rg{pos:Pos}{a b:Int}{v cv:rS}{l:Wp rS}(h:TriplesOk l)(e:codeAmong pos (l++[rawInt a,rawInt b,v])=Gc cv):codeAmong pos l=Gc cv\/cv=v:=by
 induction l using TriplesOk.induct with
 |case1=>
  rw[uC,wR]at e
  unfold rawInt at e
  dsimp only at e
  split at e
  .cases e;exact .inr rfl
  .rw[wR]at e;cases e
 |case2 i t1 j t2 w r ih=>
  rw[TriplesOk.eq_def]at h
  rw[ua,ua,ua,wR]at e
  rw[wR]
  dsimp only at e h⊢
  split at e
  .rename_i z;rw[sZ z];exact .inl e
  .rename_i z;rw[sg z];exact ih h e
 |case3 l n1 n2=>
  rw[TriplesOk.eq_def]at h
  split at h
  .exact(n1 rfl).elim
  .exact(n2 _ _ _ _ _ _ rfl).elim
  .exact h.elim
structure Px(X:Cx)(pins:Wp (rY×Obj))(σ:Sg)(H:Hp)(s:rX)(x:Str)(P:rY)(params:yD)(body:sW)(sc:uT)(clos:Wp (Str×rY))(f:rY)(H':Hp)(s':rX):Prop where
 inv:Inv X pins σ H' s'
 fn:∃pm c' ctv o,s'.heap.get? f=Gc (zK "<lambda>" (K0 x) params body sc clos pm c' ctv)/\H' c'=Gc (.frz o (.own 0))/\SR (K0 x) o
 new:s.heap.objs.size<=f
 tab:∃ps,H' P=Gc (.tbl ps)/\SA X.K H' x P ps
 keep:∀b o,H b=Gc o->b≠P->H' b=Gc o
 none:H' f=none
theorem XH{X:Cx}{pins:Wp (rY×Obj)}{σ:Sg}{H:Hp}{s:rX}{params:yD}{body:sW}{sc:uT}{pos:Pos}{x:Str}{c P:rY}{ps:uE rS}{clos:Wp (Str×rY)}{Q:rS->rX->Prop}{E:rS->rX->Prop}(I:Inv X pins σ H s)(hqual:X.env.qual=x++(".<locals>.":Str))(hdf:defaultsOf params X.env=([],[]))(hcl:closureFor sc X.env=pure clos)(hcode:X.env.code=.ref c)(hcd:Jv X.K c P)(bm:BmB X.mg X.base)(hP:H P=Gc (.tbl ps))(tok:SA X.K H x P ps)(hQ:∀f H' s',Px X pins σ H s x P params body sc clos f H' s'->Q (.ref f) s'):wpAny (model X.prog X.w) X.A (eval (.Lambda params body sc pos) X.env) Q E s:=by
 have hG:s.heap.Ns mainGlobals X.mg:=I.mod.glob.keeps I.bk
 have hCH:=hcd.hd I.kIn
 have hT:s.heap.get? P=Gc (xM ps):=I.hok P _ hP
 have hq:X.env.qual++("<lambda>":Str)=K0 x:=by rw[hqual];rfl
 obtain⟨b0,ob,m1,m2,m3,m4,m5,m6,m7⟩:=bm
 have nb:b0≠P:=λz=>by
  have:=(I.bs b0 ob m4).2
  rw[z,hP]at this;cases this
 have hB:s.heap.BuiltinsAt X.mg P:=⟨b0,ob,m1,m2,m3,nb,I.bk _ _ m4,m5,m6,m7⟩
 have gP:mainGlobals≠P:=λz=>by
  obtain⟨o,es,ep,ho,_⟩:=id I.mod.glob
  have:=(I.bs _ o ho).2
  rw[z,hP]at this;cases this
 refine PySem.W.kla_eval hdf ?_
 cases hh:codeAmong pos ps.toList with
 |some cv=>
  refine PySem.W.kla_makeFunctionHit hcl I.ok.glob hG hcode hCH hT tok.tri hh hB λctv h' tk kp sz=>?_
  obtain⟨c',o,rfl,hz,vs,t,n1,n2⟩:=tok.cod pos cv hh
  have hcc:s.heap.get? c'=Gc o:=(I.hok c' _ hz).1
  have kp2:∀b u,s.heap.get? b=Gc u->(h'.push {cls:=yF "function",data:=Data.func (xN "<lambda>" (X.env.qual++("<lambda>":Str)) params body sc clos ((X.mg "__name__").getD tP) (.ref c') ctv)}).get? b=Gc u:=λb u e=>rV _ (kp b u e)
  refine hQ _ H _ ⟨I.kept (t':=tk) kp2,⟨_,c',ctv,o,by rw[<-hq];exact sS _ rfl,hz,vs,t,n1,n2⟩,sz,⟨ps,hP,tok⟩,λ_ _ e _=>e,I.hok.fresh sz⟩
 |none=>
  refine PySem.W.kla_makeFunction hcl I.ok.glob hG hcode hCH hT tok.tri hh gP hB λc' ctv h' tk ext l1 l2 crec ht=>?_
  rw[hq]at crec
  generalize hfo:(zK "<lambda>" (X.env.qual++("<lambda>":Str)) params body sc clos ((X.mg "__name__").getD tP) c' ctv)=fo
  have hfo2:fo=zK "<lambda>" (K0 x) params body sc clos ((X.mg "__name__").getD tP) c' ctv:=by rw[<-hfo,hq]
  obtain⟨c1,o,vs,t,ec,ho,hd,hv⟩:=id crec
  cases ec
  have kp:∀b u,b≠P->s.heap.get? b=Gc u->(h'.push fo).get? b=Gc u:=λb u n e=>rV _ (ext b u n e)
  have nH:H c'=none:=I.hok.fresh l1
  have cP:c'≠P:=λz=>by rw[z,hP]at nH;cases nH
  generalize hmo:ps++ #[rawInt ↑pos.line,rawInt ↑pos.col,si c']=ps2 at ht
  let H':Hp:=upd (upd H c' (.frz o (.own 0))) P (.tbl ps2)
  have hk:∀b u,H b=Gc u->b≠P->H' b=Gc u:=λb u e n=>by
   show upd (upd H c' (.frz o (.own 0))) P (.tbl ps2) b=Gc u
   rw[AU n,AU (λz=>by rw[z,nH]at e;cases e)]
   exact e
  have hc1:H' c'=Gc (.frz o (.own 0)):=by
   show upd (upd H c' (.frz o (.own 0))) P (.tbl ps2) c'=_
   rw[AU cP,Ac]
  have hP':H' P=Gc (.tbl ps2):=Ac
  have hn:∀b,b≠P->b≠c'->H b=none->H' b=none:=λb n1 n2 e=>by
   show upd (upd H c' (.frz o (.own 0))) P (.tbl ps2) b=none
   rw[AU n1,AU n2];exact e
  have pP:(h'.push fo).get? P=Gc (xM ps2):=rV _ ht
  have po:(h'.push fo).get? c'=Gc o:=rV _ ho
  have fz:fo.isFreed=false:=by rw[<-hfo];rfl
  have un:Un X.fs [] H H' s.heap (h'.push fo):=by
   refine⟨λb u e n _ _=>kp b u (λz=>?_) e,λb u e n _ _=>⟨u.slots,kp b u (λz=>?_) e⟩,λb u e n _=>hn b (λz=>?_) (λz=>?_) n,λb u e _=>?_,λb xs e=>hk b _ e (λz=>?_),λb u v e=>hk b _ e (λz=>?_),λb qs e=>?_⟩
   .rw[z,hP]at n;cases n
   .rw[z,hP]at n;cases n
   .rw[z,hP]at n;cases n
   .subst z;exact absurd (rz (sO e) l1) (uY _)
   .by_cases z:b=P
    .subst z;exact⟨_,pP⟩
    .exact⟨u,kp b u z e⟩
   .rw[z,hP]at e;cases e
   .rw[z,hP]at e;cases e
   .by_cases z:b=P
    .subst z
     rw[hP]at e;cases e
     exact⟨_,by rw[hmo];exact hP'⟩
    .exact⟨#[],by rw[Array.append_empty];exact hk b _ e z⟩
  have hok:HOk X.prog X.w H' (h'.push fo):=λa u q=>by
   by_cases z:a=P
   .subst z
    rw[hP']at q;cases q
    exact pP
   .by_cases z2:a=c'
    .subst z2
     rw[hc1]at q;cases q
     exact⟨po,o,po⟩
    .have q0:H a=Gc u:=by
      have:H' a=H a:=by
       show upd (upd H c' (.frz o (.own 0))) P (.tbl ps2) a=_
       rw[AU z,AU z2]
      rw[<-this];exact q
     refine(I.hok a u q0).Vt (λb v hb e=>kp b v (λzz=>?_) e) (λb e=>hk b _ e (λzz=>?_)) λb xs e=>hk b _ e (λzz=>?_)
     .rcases hb with hb|hb
      .exact z (hb.symm.trans zz)
      .rw[zz,hP]at hb;cases hb
     .rw[zz,hP]at e;cases e
     .rw[zz,hP]at e;cases e
  have sz:s.heap.objs.size<=h'.objs.size:=xu (su l1 l2)
  have nF:H' h'.objs.size=none:=hn _ (λz=>by rw[<-z]at ht;exact absurd (sO ht) (uY _)) (λz=>by rw[<-z]at l2;exact uY _ l2) (I.hok.fresh sz)
  refine hQ _ H' _ ⟨I.un (t':=tk) un hok,⟨_,c',ctv,o,by rw[<-hfo2];exact sS _ fz,hc1,vs,t,hd,hv⟩,sz,⟨ps2,hP',?_⟩,hk,nF⟩
  refine⟨by rw[<-hmo];simpa using TriplesOk_snoc pos.line pos.col (.ref c') ps.toList tok.tri,tok.tat,λpos' cv e=>?_⟩
  rw[<-hmo]at e
  rcases Rg (l:=ps.toList) tok.tri (by simpa using e)with z|z
  .obtain⟨c2,o2,z1,z2,z3⟩:=tok.cod pos' cv z
   exact⟨c2,o2,z1,hk _ _ z2 (λzz=>by rw[zz,hP]at z2;cases z2),z3⟩
  .exact⟨c',o,z,hc1,vs,t,hd,hv⟩
end Mi
end
noncomputable section
namespace Mi
open PySem PySem.Spec L2
section
open PyProof.Rows (Below)
structure ME(H:Hp)(h:tT)(x:Str)(body:sW)(sc:uT)(clos:Wp (Str×rY))(N:Wp Str)(σc:Sg)(f:rY):Prop where
 fn:∃params pm c' ctv o oc,h.get? f=Gc o/\o.data=.func (xN "<lambda>" (K0 x) params body sc clos pm (.ref c') ctv)/\H c'=Gc (.frz oc (.own 0))/\SR (K0 x) oc/\bindArgs (xN "<lambda>" (K0 x) params body sc clos pm (.ref c') ctv) ⟨[],[]⟩=pure []
 nof:H f=none
 cell:∀y c,clos.lookup y=Gc c->(∃v,h.IsCell c v)/\H c=none
 inj:∀y z c,clos.lookup y=Gc c->clos.lookup z=Gc c->y=z
 has:∀y,(sc.names.lookup y=Gc .cell\/sc.names.lookup y=Gc .free)->∃c,clos.lookup y=Gc c
 val:∀(i:Nat) (y:Str) (v:V),N[i]?=Gc y->σc[i]?=Gc (Gc v)->Vis sc y->sc.names.lookup y=Gc .free/\∃c u,clos.lookup y=Gc c/\h.IsCell c (Gc u)/\RelV v u
 len:σc.length=N.length
 kind:sc.kind=.function
 co:sc.isCoroutine=false
 gen:sc.isGenerator=false
 Mc:∀y∈sc.names,y.2≠.cell
theorem ME.later{H H':Hp}{h h':tT}{x:Str}{body:sW}{sc:uT}{clos:Wp (Str×rY)}{N:Wp Str}{σc:Sg}{f:rY}{fs:Wp rY}(L:ME H h x body sc clos N σc f)(u:Un fs [] H H' h h'):ME H' h' x body sc clos N σc f:=by
 have cl:∀c v,h.IsCell c v->H c=none->h'.IsCell c v:=λc v ⟨o,ho,hd⟩ n=>by
  obtain⟨sl,q⟩:=u.any ho n (by simp)
  exact⟨_,q,hd⟩
 obtain⟨params,pm,c',ctv,o,oc,h1,h2,h3,h4,h5⟩:=L.fn
 obtain⟨sl,q⟩:=u.any h1 L.nof (by simp)
 refine⟨⟨params,pm,c',ctv,_,oc,q,h2,u.UB _ _ _ h3,h4,h5⟩,u.free f o h1 L.nof (by simp),λy c e=>?_,L.inj,L.has,λi y v e1 e2 e3=>?_,L.len,L.kind,L.co,L.gen,L.Mc⟩
 .obtain⟨⟨v,z⟩,n⟩:=L.cell y c e
  obtain⟨o',ho',_⟩:=id z
  exact⟨⟨v,cl c v z n⟩,u.free c o' ho' n (by simp)⟩
 .obtain⟨k,c,w,e,z,r⟩:=L.val i y v e1 e2 e3
  exact⟨k,c,w,e,cl c _ z (L.cell y c e).2,r⟩
noncomputable def Ly(P:sf)(w:tU)(K:W1)(mg:Str->rW rS)(base:tT)(N:Wp Str)(x:Str)(sc:uT)(clos:Wp (Str×rY))(f c':rY)(A:tN)(outer:Wp uM)(s:rX)(H:Hp):Cx where
 prog:=P
 w:=w
 K:=K
 mg:=mg
 base:=base
 A:=A.deeper (vJ (K0 x) sc s.heap.objs.size f (.ref c') clos)
 N:=N
 s₀:=s
 H₀:=H
 env:=vJ (K0 x) sc s.heap.objs.size f (.ref c') clos
 outer:=outer
 stack:=vJ (K0 x) sc s.heap.objs.size f (.ref c') clos::outer
 ex:=[]
 calm:=true
 fn:=λ_=>false
 pn:=[]
 xe:=λ_ _=>ur
theorem VB{P:sf}{w:tU}{K:W1}{mg:Str->rW rS}{base:tT}{N:Wp Str}{x:Str}{body:sW}{sc:uT}{clos:Wp (Str×rY)}{f c':rY}{A:tN}{outer:Wp uM}{s:rX}{H:Hp}{σc:Sg}{h':tT}{tk:Nat}{m:Str->rW rS}(L:ME H s.heap x body sc clos N σc f)(hd:A.handled=none)(e0:Yy P w K mg base A outer s H)(hns:h'.Ns s.heap.objs.size m)(kp:∀b o,s.heap.get? b=Gc o->h'.get? b=Gc o):Inv (Ly P w K mg base N x sc clos f c' A outer s H) [] σc H {s with heap:=h',toks:=tk}:=by
 have noA:∀b:rY,b∉(Ly P w K mg base N x sc clos f c' A outer s H).ex:=λb z=>absurd (show b∈([]:Wp rY)from z) (by simp)
 have cl:∀c v,s.heap.IsCell c v->h'.IsCell c v:=λc v ⟨o,ho,hd⟩=>⟨o,kp _ _ ho,hd⟩
 refine⟨⟨e0.mod,L.kind,rfl,rfl,sD _,L.inj,L.has,λy c z _=>absurd z (by intro q;cases q),λ_=>hd,zY e0.frames,.inr ⟨rfl,rfl⟩,λb z=>absurd z (noA b),e0.bs,e0.bsz,λb _ _=>noA b,λb z=>absurd z (noA b),e0.Pp,e0.frf⟩,
  rfl,e0.bare,Un.kept kp,⟨m,hns,λi y v e1 e2 e3=>?_⟩,λy c e=>?_,e0.hok.fresh (sD _),λy c e=>(L.cell y c e).2,λp hp=>absurd (show p∈([]:Wp (rY×Obj))from hp) (by simp),e0.hok.kept kp,L.len⟩
 .obtain⟨k,c,u,e,z,r⟩:=L.val i y v e1 e2 e3
  exact⟨u,r,.inr ⟨.inr k,c,e,cl c _ z⟩⟩
 .obtain⟨⟨v,z⟩,_⟩:=L.cell y c e
  exact⟨v,cl c v z⟩
theorem aZ{X:Cx}{pins:Wp (rY×Obj)}{σ:Sg}{H:Hp}{s:rX}{x:Str}{body:sW}{sc:uT}{clos:Wp (Str×rY)}{N:Wp Str}{σc:Sg}{f:rY}{k:Nat}{t:TE}{Q:VK}(I:Inv X pins σ H s)(hr:CZ (k+1) X.A)(L:ME H s.heap x body sc clos N σc f)(hb:∀c',CZ k (X.A.deeper (vJ (K0 x) sc s.heap.objs.size f (.ref c') clos))->PE (Ly X.prog X.w X.K X.mg X.base N x sc clos f c' X.A X.stack s H) body t)(ht:t σc H Q):wpAny (model X.prog X.w) X.A (call (.ref f) []) (EP X pins σ Q) X.xe s:=by
 obtain⟨params,pm,c',ctv,o,oc,h1,h2,h3,h4,h5⟩:=L.fn
 have cr:s.heap.CodeRec (.ref c') (K0 x):=by
  obtain⟨vs,t,n1,n2⟩:=h4
  exact⟨c',oc,vs,t,rfl,(I.hok c' _ h3).1,n1,n2⟩
 refine wj (zi hr.depth h1 h2 L.co L.gen rfl cr ?_)
 rw[h5]
 refine sG (zj L.Mc (λ_ z=>nomatch z) (λh' hns sb=>?_) L.kind)
 have kp:∀b ob,s.heap.get? b=Gc ob->h'.get? b=Gc ob:=λb ob e=>by
  rw[sb.2 b (tJ (sO e))]
  exact rV _ e
 have J:=VB (c':=c') (tk:=s.toks+0) L hr.hd I.Yi hns kp
 refine⟨I.nolimit.keeps kp,zk (ub (hb c' (hr.deeper _) [] _ σc H Q J ht) (λu s' z=>?_) λ_ _ z=>z.elim)⟩
 obtain⟨v,H',J',rv,q⟩:=z
 exact I.after ⟨v,H',J'.os,J'.bare,J'.base,J'.hok,rv,q⟩
theorem XS{X:Cx}{pins:Wp (rY×Obj)}{σ:Sg}{H:Hp}{s:rX}{x:Str}{body:sW}{sc:uT}{clos:Wp (Str×rY)}{N:Wp Str}{σc:Sg}{f:rY}{k:Nat}{t:TR}{Z:Rk}(I:Inv X pins σ H s)(hr:CZ (k+1) X.A)(L:ME H s.heap x body sc clos N σc f)(hx:X.ex=[])(hb:∀c',CZ k (X.A.deeper (vJ (K0 x) sc s.heap.objs.size f (.ref c') clos))->PXe (Ly X.prog X.w X.K X.mg X.base N x sc clos f c' X.A X.stack s H) body t)(ht:t σc H λC od _ H'=>Z C od σ H'):wpAny (model X.prog X.w) X.A (call (.ref f) []) (λ_ _=>ur) (XP X pins Z) s:=by
 obtain⟨params,pm,c',ctv,o,oc,h1,h2,h3,h4,h5⟩:=L.fn
 have cr:s.heap.CodeRec (.ref c') (K0 x):=by
  obtain⟨vs,t,n1,n2⟩:=h4
  exact⟨c',oc,vs,t,rfl,(I.hok c' _ h3).1,n1,n2⟩
 refine wj (zi hr.depth h1 h2 L.co L.gen rfl cr ?_)
 rw[h5]
 refine sG (zj L.Mc (λ_ z=>nomatch z) (λh' hns sb=>?_) L.kind)
 have kp:∀b ob,s.heap.get? b=Gc ob->h'.get? b=Gc ob:=λb ob e=>by
  rw[sb.2 b (tJ (sO e))]
  exact rV _ e
 have J:=VB (c':=c') (tk:=s.toks+0) L hr.hd I.Yi hns kp
 refine⟨I.nolimit.keeps kp,zk (ub (hb c' (hr.deeper _) [] _ σc H _ J ht) (λ_ _ z=>z.elim) λev s' z=>?_)⟩
 obtain⟨e,C,od,σ',H',rfl,J',z,fl⟩:=z
 unfold leaving
 refine rT (Nb J' J'.ok.frames rfl rfl fl (EE J' rfl) λh2 t=>?_)
 have un:=UG J' rfl rfl rfl t
 have ok2:=QB J' t
 have fl2:=t.fly.fly
 show XP X pins Z (.ref e) _
 exact⟨e,C,od,σ,H',rfl,I.SV J'.os un ok2 J'.bare (λb z=>nomatch z),z,fl2.imp λb z=>.inl (EE I hx b z)⟩
theorem Wj{X:Cx}{x:Str}{body:sW}{sc:uT}{clos:Wp (Str×rY)}{N:Wp Str}{σc:Sg}{f:rY}{k i:Nat}{t:TE}{y:Str}{p pos:Pos}(hr:CZ (k+1) X.A)(hx:X.ex=[])(L:ME X.H₀ X.s₀.heap x body sc clos N σc f)(hb:∀c' s H,CZ k (X.A.deeper (vJ (K0 x) sc s.heap.objs.size f (.ref c') clos))->PE (Ly X.prog X.w X.K X.mg X.base N x sc clos f c' X.A X.stack s H) body t)(hN:X.N[i]?=Gc y)(hv:Vis X.env.scope y)(hd:(y==("__debug__":Str))=false:=by decide)(hcd:(y==("__classdict__":Str))=false:=by decide):PE X (.Call (.Name y p) [] [] pos) (λσ H Q=>σ[i]?=Gc (Gc (.ref f))/\t σc H Q):=by
 intro pins s σ H Q I h
 refine uR (thn (PF hN hv hd hcd pins s σ H (λv H1=>v=.ref f/\H1=H) I ⟨.ref f,h.1,rfl,rfl⟩) λu s1 z=>?_)
 obtain⟨v,H1,I1,rv,rfl,rfl⟩:=z
 obtain rfl:u=.ref f:=rv
 have un:=I1.base
 rw[hx]at un
 have L1:=L.later un
 obtain⟨params,pm,c',ctv,o,oc,h1,h2,_⟩:=L1.fn
 refine z6 ⟨o.cls,o.dict,_,o.slots,by rw[h1];obtain⟨c,d,dt,sl⟩:=o;cases h2;rfl⟩ ?_
 exact aZ I1 hr L1 (λc'=>hb c' s1 H1) h.2
theorem Wx{X:Cx}{x:Str}{body:sW}{sc:uT}{clos:Wp (Str×rY)}{N:Wp Str}{σc:Sg}{f:rY}{k i:Nat}{t:TR}{y:Str}{p pos:Pos}(hr:CZ (k+1) X.A)(hx:X.ex=[])(L:ME X.H₀ X.s₀.heap x body sc clos N σc f)(hb:∀c' s H,CZ k (X.A.deeper (vJ (K0 x) sc s.heap.objs.size f (.ref c') clos))->PXe (Ly X.prog X.w X.K X.mg X.base N x sc clos f c' X.A X.stack s H) body t)(hN:X.N[i]?=Gc y)(hv:Vis X.env.scope y)(hxe:X.xe=λ_ _=>ur)(hd:(y==("__debug__":Str))=false:=by decide)(hcd:(y==("__classdict__":Str))=false:=by decide):PXe X (.Call (.Name y p) [] [] pos) (λσ H Z=>σ[i]?=Gc (Gc (.ref f))/\t σc H λC od _ H'=>Z C od σ H'):=by
 intro pins s σ H Z I h
 refine uR (EK hxe (PF hN hv hd hcd pins s σ H (λv H1=>v=.ref f/\H1=H) I ⟨.ref f,h.1,rfl,rfl⟩) λu s1 z=>?_)
 obtain⟨v,H1,I1,rv,rfl,rfl⟩:=z
 obtain rfl:u=.ref f:=rv
 have un:=I1.base
 rw[hx]at un
 have L1:=L.later un
 obtain⟨params,pm,c',ctv,o,oc,h1,h2,_⟩:=L1.fn
 refine z6 ⟨o.cls,o.dict,_,o.slots,by rw[h1];obtain⟨c,d,dt,sl⟩:=o;cases h2;rfl⟩ ?_
 exact XS I1 hr L1 hx (λc'=>hb c' s1 H1) h.2
end
structure Hm(N:Wp Str)(osc:uT)(N':Wp Str)(IE:Wp Nat)(sc:uT):Prop where
 kind:sc.kind=.function
 co:sc.isCoroutine=false
 gen:sc.isGenerator=false
 Mc:∀y∈sc.names,y.2≠.cell
 free:∀y∈sc.names,y.2=.free->osc.names.lookup y.1=Gc .cell
 len:IE.length=N'.length
 IE:∀z∈N'.zip IE,N[z.2]?=Gc z.1/\osc.names.lookup z.1=Gc .cell/\sc.names.lookup z.1=Gc .free
noncomputable def Py{α:Type}(IE:Wp Nat)(σ:Wp (rW α)):Wp (rW α):=IE.map λi=>(σ[i]?).join
theorem Qp{α:Type}{IE:Wp Nat}{σ:Wp (rW α)}{j:Nat}{v:α}(h:(Py IE σ)[j]?=Gc (Gc v)):∃i,IE[j]?=Gc i/\σ[i]?=Gc (Gc v):=by
 unfold Py at h
 rw[sY]at h
 cases e:IE[j]? with
 |none=>rw[e]at h;cases h
 |some i=>
  rw[e]at h
  refine⟨i,rfl,?_⟩
  have h':(σ[i]?).join=Gc v:=by simpa using h
  cases e2:σ[i]? with
  |none=>rw[e2]at h';cases h'
  |some o=>rw[e2]at h';simpa using h'
theorem Xu{α:Type}{IE:Wp Nat}{σ:Wp (rW α)}{i j:Nat}{v:α}(h:IE[j]?=Gc i)(e:σ[i]?=Gc (Gc v)):(Py IE σ)[j]?=Gc (Gc v):=by
 unfold Py
 rw[sY,h]
 simp[e]
theorem EnR.RG{K:W1}{M:Ms}{E:En}{σ:Sg}{H:Hp}(r:EnR K M E σ H)(IE:Wp Nat):EnR K M (Py IE E) (Py IE σ) H:=⟨by simp[Py],λj d e=>by
 obtain⟨i,h1,h2⟩:=Qp e
 obtain⟨v,h3,h4⟩:=r.val i d h2
 exact⟨v,Xu h1 h3,h4⟩⟩
theorem eQ{X:Cx}{pins:Wp (rY×Obj)}{σ:Sg}{H H':Hp}{s s':rX}{x:Str}{P f:rY}{params:yD}{body:sW}{sc:uT}{N':Wp Str}{IE:Wp Nat}(LS:Hm X.N X.env.scope N' IE sc)(M:Px X pins σ H s x P params body sc (FD X.env.cells sc.names []) f H' s')(hp:∀pm c' ctv,bindArgs (xN "<lambda>" (K0 x) params body sc (FD X.env.cells sc.names []) pm (.ref c') ctv) ⟨[],[]⟩=pure []):ME H' s'.heap x body sc (FD X.env.cells sc.names []) N' (Py IE σ) f:=by
 have I:=M.inv
 have hcl:∀y∈sc.names,y.2=.free->∃a,X.env.cells.lookup y.1=Gc a:=λy hy hf=>I.ok.has y.1 (.inl (LS.free y hy hf))
 have sub:∀{y:Str} {c:rY},(FD X.env.cells sc.names []).lookup y=Gc c->X.env.cells.lookup y=Gc c:=λ{y c} h=>by
  rcases JO hcl h with z|z
  .cases z
  .exact z
 obtain⟨pm,c',ctv,o,h1,h2,h3⟩:=M.fn
 refine⟨⟨params,pm,c',ctv,_,o,h1,rfl,h2,h3,hp pm c' ctv⟩,M.none,λy c e=>⟨I.cell y c (sub e),I.JD y c (sub e)⟩,λy z c e1 e2=>I.ok.inj y z c (sub e1) (sub e2),λy h=>?_,λj y v e1 e2 e3=>?_,by simp[Py,LS.len],LS.kind,LS.co,LS.gen,LS.Mc⟩
 .rcases h with h|h
  .exact absurd rfl (LS.Mc _ (tZ h))
  .exact GC (.inl (tZ h))
 .obtain⟨i,q1,q2⟩:=Qp e2
  have hz:(y,i)∈N'.zip IE:=vb.mpr ⟨j,by rw[wW];exact⟨e1,q1⟩⟩
  obtain⟨p1,p2,p3⟩:=LS.IE _ hz
  refine⟨p3,?_⟩
  obtain⟨m,_,hl⟩:=I.loc
  obtain⟨u,ru,lk⟩:=hl i y v p1 q2 (.inr (.inl p2))
  rcases lk with⟨k,_⟩|⟨_,c,ec,ic⟩
  .have:X.env.scope.names.lookup y=Gc .local:=k
   rw[p2]at this;cases this
  .obtain⟨c2,ec2⟩:=GC (cells:=X.env.cells) (cs:=[]) (.inl (tZ p3))
   have:=sub ec2
   rw[ec]at this;cases this
   exact⟨c,u,ec2,ic,ru⟩
theorem bT{X:Cx}{body:Wp tE}{h₀:uz}{hs:Wp uz}{tb:TS}{tr:TR}{g:Tg->Ex}{pos:Pos}(hb:PSs X body tb)(hr:PXs X body tr)(hh:HS X (h₀::hs) g)(hxe:X.xe=λ_ _=>ur)(hx:X.ex=[])(hst:X.stack=X.env::X.outer)(hfr:X.env.frame=Gc X.env.locals):PS X (.Try body (h₀::hs) [] [] pos) (λD σ H=>tb D σ H\/∃x:Tg,tr σ H λC od σ' H'=>jg X.mg x C od H'/\tX X.K (g x) D σ' H'):=by
 intro pins s σ H D I z
 rcases z with z|⟨x,z⟩
 .refine wpAny_Try_except (EK hxe (hb pins s σ H D I z) λf s1 w=>?_)
  cases f with
  |next=>exact wg w
  |ret u=>exact w
  |brk=>exact w
  |cont=>exact w
 .refine wpAny_Try_except (ub (hr pins s σ H _ I z) (λ_ _ z=>z.elim) λev s1 w=>?_)
  obtain⟨ea,C,od,σ',H',rfl,I',⟨hm,z'⟩,fly⟩:=w
  refine Nb I' I'.ok.frames hst hfr fly (EE I' hx) λh' t=>?_
  have I2:=Uk I' hst hfr hx t
  exact ub (hh.pe x C od pins _ σ' H' D ea hm I2 t.fly z') (λ_ _ z=>z) λ_ _ z=>z.elim
theorem dR{X:Cx}{pins:Wp (rY×Obj)}{σ:Sg}{H:Hp}{s:rX}{k:Nat}{f:rY}{fd:uf}{x:Str}{st:tE}{N ps:Wp Str}{us:Wp rS}{vs:Wp V}{Q:VK}(Fu:Fun X.K x x st f fd)(S:Ar N ps (AD st))(Bi:Binds X.K fd ps [])(hr:CZ (k+1) X.A)(I:Inv X pins σ H s)(r:Vals vs us)(hl:vs.length=ps.length)(hbody:∀cdv,CZ k (X.A.deeper (sR x (AD st) s.heap.objs.size f cdv))->∃t,PSs (Hw CX0 X.prog X.w X.K X.mg X.base N x (AD st) f cdv X.A X.stack s H E0).nox (A3 st) t/\t {nx:=λ_ H'=>Q .non H',rt:=Q} (L2.start N vs) H):wpAny (model X.prog X.w) X.A (call (.ref f) us) (EP X pins σ Q) X.xe s:=by
 obtain⟨oc,od,kV,doc,pm,an,cdv,ct,osl,rfl,lk,hcd⟩:=Fu.ex
 have hl2:(us++[]).length=ps.length:=by rw[uB,<-r.length];exact hl
 have hb:=Bi s us I.kIn hl2
 rw[uB]at hb
 have lim:=I.nolimit
 have hkind:∀y∈ps.zip us,(AD st).names.lookup y.1=Gc .local\/((AD st).names.lookup y.1=Gc .cell/\((cellsFrom (s.heap.objs.size+1) (AD st).names []).lookup y.1).isSome=true):=λ⟨n,v⟩ hy=>by
  rcases S.par n (vP hy).1 with q|q
  .exact .inl q
  .exact .inr ⟨q,xD _ _ _ (.inl q)⟩
 refine wj (zP hr.depth (I.kIn _ _ lk) rfl S.co S.gen rfl (AAF I.kIn hcd) (hb _ _ _ _ ?_))
 refine yK S.kind hkind λenv he s1 x1=>?_
 subst he
 refine⟨lim.keeps x1.toInCall.keep,codeAny_func ?_⟩
 obtain⟨t,ht,hq⟩:=hbody cdv (hr.deeper _)
 have J:Inv (Hw CX0 X.prog X.w X.K X.mg X.base N x (AD st) f cdv X.A X.stack s H E0) [] (L2.start N vs) H s1:=OY S hr.hd I.Yi hl r x1
 have J':Inv (Hw CX0 X.prog X.w X.K X.mg X.base N x (AD st) f cdv X.A X.stack s H E0).nox [] (L2.start N vs) H s1:=J.R6 _
 refine ub (ht [] s1 (L2.start N vs) H _ J' hq) (λfl s' hs=>?_) λe s' hs=>hs.elim
 have fin:∀{σ':Sg} {H':Hp} {v:V} {u:rS},Inv (Hw CX0 X.prog X.w X.K X.mg X.base N x (AD st) f cdv X.A X.stack s H E0).nox [] σ' H' s'->RelV v u->Q v H'->EP X pins σ Q u s':=
  λ{σ' H' v u} J rv q=>I.after ⟨v,H',J.os,J.bare,J.base,J.hok,rv,q⟩
 cases fl with
 |ret u=>
  obtain⟨v,σ',H',J,rv,q⟩:=hs
  exact fin J rv q
 |next=>
  obtain⟨σ',H',J,q⟩:=hs
  exact fin (v:=V.non) (u:=tP) J rfl q
 |brk=>
  obtain⟨_,_,_,q⟩:=hs
  exact tu q
 |cont=>
  obtain⟨_,_,_,q⟩:=hs
  exact tu q
noncomputable def Lp(x:Str):Cl->sx
 | .tab y=>y==x
 |_=>false
theorem Uc{x:Str}:∀{S:Sto},S.any (Lp x)=true->∃n:Nat,S[n]?=Gc (Cl.tab x)
 | [],h=>by cases h
 |c::S,h=>by
  rw[vR,uK]at h
  rcases h with h|h
  .cases c with
   |tab y=>have e:y=x:=eq_of_beq h;exact⟨0,by rw[e];rfl⟩
   |lst ds=>cases h
   |dct ds=>cases h
   |ins C fs=>cases h
  .obtain⟨n,e⟩:=Uc h
   exact⟨n+1,e⟩
theorem gS{X:Cx}{pins:Wp (rY×Obj)}{σ:Sg}{H H':Hp}{s s':rX}{x:Str}{P f:rY}{params:yD}{body:sW}{sc:uT}{clos:Wp (Str×rY)}{M:Ms}{S:Sto}{n:Nat}(st:StR X.K M S H)(h1:M.cel[n]?=Gc P)(h2:S[n]?=Gc (Cl.tab x))(k:Px X pins σ H s x P params body sc clos f H' s'):StR X.K M S H'/\Gr M H M H':=by
 have hP:P∈M.cel:=sQ h1
 obtain⟨ps,t1,t2⟩:=k.tab
 have g:Gr M H M H':=⟨st.mo,uG,rfl,λ_ z=>.inl z,λa o e na=>k.keep a o e λz=>na (by rw[z];exact hP),λa e=>by
  by_cases z:a=P
  .subst z;rw[t1];intro z;cases z
  .cases q:H a with
   |none=>exact absurd q e
   |some o=>rw[k.keep a o q z];intro z;cases z⟩
 refine⟨⟨λb z=>?_,st.nd,st.nt,st.len,λm b c e1 e2=>?_⟩,g⟩
 .by_cases hb:b=P
  .subst hb;exact⟨_,t1,trivial⟩
  .exact(st.mo b z).imp λo q=>⟨k.keep _ _ q.1 hb,q.2⟩
 .by_cases hb:b=P
  .subst hb
   have hm:n=m:=(wF (r9.mp h1).1 st.nd).mp (h1.trans e1.symm)
   subst hm
   rw[h2]at e2;cases e2
   exact⟨ps,t1,t2⟩
  .exact(st.cell m b c e1 e2).step g.st λo e=>k.keep _ _ e hb
def Uj(X:Cx)(x:Str):Prop:=∀P,TabAt X.K x P->X.K.In X.base->X.base.Ns mainGlobals X.mg->∃c,X.env.code=.ref c/\Jv X.K c P
section
variable{P:sf}{w:tU}{K:W1}{mg:Str->rW rS}{base:tT}
theorem fnL{x:Str}{st:tE}{f:rY}{fd:uf}{N ps:Wp Str}{k np:Nat}{b:Ex}(Fu:Fun K x x st f fd)(hm:mg x=Gc (.ref f))(S:Ar N ps (AD st))(hp:ps.length=np)(hb:∀{cdv:rS} {A:tN} {outer:Wp uM} {s:rX} {H:Hp} {E:XK},Uj (Hw CX0 P w K mg base N x (AD st) f cdv A outer s H E).nox x->CZ k (A.deeper (sR x (AD st) s.heap.objs.size f cdv))->(A.deeper (sR x (AD st) s.heap.objs.size f cdv)).units+100<cLine->DSs (Hw CX0 P w K mg base N x (AD st) f cdv A outer s H E).nox (A3 st) b):KR P w K mg base CX0 (k+1) f fd ps (spD K np (AW (Af N.length b))):=by
 rw[IY]
 obtain⟨oc,od,kV,doc,pm,an,cdv,ct,osl,rfl,lk,hcd⟩:=Fu.ex
 refine X5 lk hcd S (λvs H Q E h=>?_) (λA outer s H vs Q E hr h=>?_)
 .obtain⟨M,ds,S0,d,S',hl,_,r,_⟩:=h
  have:=r.length
  lia
 .obtain⟨M,ds,S0,d,S',hl,e,r,st,q⟩:=h
  have hlen:=r.length
  refine⟨_,(hb (cdv:=cdv) (A:=A) (outer:=outer) (s:=s) (H:=H) (E:=E) (λP0 ta kin glob=>?_) hr (II hr)).pe.nox,?_⟩
  .obtain⟨f0,oc0,od0,fd0,osl0,c,t1,t2,t3,t4⟩:=ta
   have:=vI kin glob t1
   have e0:Gc (si f0)=Gc (si f):=this.symm.trans hm
   cases e0
   have t2':K.lookup f=_:=t2
   rw[lk]at t2'
   cases t2'
   exact⟨c,t3,t4⟩
  obtain⟨⟨fl,E',S1⟩,e1,e⟩:=Hu e
  cases e
  refine⟨M,_,S0,fl,E',S1,e1,?_,st,?_⟩
  .rw[show L2.start N vs=vs.map Gc++sH (N.length-ds.length) none from by unfold L2.start;rw[hlen]]
   exact .args r _
  .cases fl with
   |nx=>exact λσ' H' M' g _ st'=>q _ _ M' g st' .non
   |ret d=>exact λv H' M' g st' r'=>q _ _ M' g st' r'
theorem dfL{x:Str}{st:tE}{N ps:Wp Str}(k:Nat){np:Nat}{b:Ex}(S:St.Src K mg x st)(sc:Ar N ps (AD st))(hb:∀{f:rY} {cdv:rS} {A:tN} {outer:Wp uM} {s:rX} {H:Hp} {E:XK},Uj (Hw CX0 P w K mg base N x (AD st) f cdv A outer s H E).nox x->CZ k (A.deeper (sR x (AD st) s.heap.objs.size f cdv))->(A.deeper (sR x (AD st) s.heap.objs.size f cdv)).units+100<cLine->DSs (Hw CX0 P w K mg base N x (AD st) f cdv A outer s H E).nox (A3 st) b)(hp:ps.length=np:=by rfl)(hbi:BnR x st ps:=by exact λ_ _ _ _ _ _ _=>rfl):St.Dfn P w K mg base x (k+1) ps (spD K np (AW (Af N.length b))):=by
 obtain⟨f,fd,Fu,hm⟩:=S.ex
 exact⟨f,fd,hm,Fu.kp,bnR Fu hbi,fnL Fu hm sc hp λci hr hu=>hb ci hr hu⟩
end
end Mi
end
noncomputable section
namespace Mi
open PySem PySem.Spec L2 PyProof.Rows
theorem P8{K:W1}{h:tT}{c P:rY}(k:Jv K c P)(X:K.In h):isCodeTable h P:=by
 obtain⟨o,vs,file,tf,flags,tg,inF,text,tt,h0,h1,h2,h3,_⟩:=k
 exact⟨c,o,vs,X _ _ h0,h1,h2,h3⟩
noncomputable def RJ(T:Wp (Str×rY)):Sto:=T.map λz=>Cl.tab z.1
theorem Uw{P:sf}{w:tU}{K:W1}{mg mb:Str->rW rS}{k:Nat}{fa a:rY}{fd:uf}{x:Str}{Fn0:Fn}{s₁:rX}{vs:Wp rS}{ns:Wp Int}{T:Wp (Str×rY)}(KX:K.In s₁.heap)(hns:s₁.heap.Ns mainGlobals mg)(hb:s₁.heap.Ns builtinsNs mb)(hbb:∀x:Str,x≠ "__name__"->mb x=bootBuiltins x)(hlim:s₁.heap.NoLimit)(hg:s₁.gens= #[])(ha:s₁.heap.get? a=Gc {cls:=.type "list",data:=.seq vs.toArray})(hi:IntsAre vs ns)(hl:ns.length<=sizeLine)(hr:CZ k callerA)(hT:∀z∈T,TabAt K z.1 z.2/\K.lookup z.2=none/\s₁.heap.get? z.2=Gc (xM #[]))(nd:(T.map (·.2)).Nodup)(bmn:∃bm ob,mg "__builtins__"=Gc (.ref bm)/\bm≠builtinsNs/\s₁.heap.get? bm=Gc ob/\ob.cls=.type "module" /\ob.dict=Gc builtinsNs/\ob.data=.plain)(F:∀base:tT,K.In base->base.Ns mainGlobals mg->BmB mg base->KR P w K mg base CX0 k fa fd [x] (spD K 1 Fn0))(hbind:∀(s:rX) (u:rS),BindsTo s fd ⟨[u],[]⟩ [(x,u)])(hlaw:∃S,Fn0 [.scr ns] (RJ T)=Gc (.bl true,S)):codeAny (model P w) callerA (.call (.ref fa) ⟨[.ref a],[]⟩) (λr s'=>r=.ok (.ret (.bool true))/\OldK s₁.heap s'.heap/\s'.os=s₁.os/\wo s'.gens) s₁:=by
 have rv:=PM hi
 have lenV:=hi.length
 have aT:∀z∈T,z.2≠a:=λz hz e=>by
  have:=(hT z hz).2.2
  rw[e,ha]at this;cases this
 have core:∀H:Hp,SqL K H a (ns.map V.int)->HOk P w H s₁.heap->(∀b,H b≠none->b=a\/∃z∈T,z.2=b)->(∀b,H b≠none->K.lookup b=none)->(∀z∈T,H z.2=Gc (.tbl #[]))->(H a=none\/∃o xs,H a=Gc (.frz o (.lst xs)))->
   codeAny (model P w) callerA (.call (.ref fa) ⟨[.ref a],[]⟩) (λr s'=>r=.ok (.ret (.bool true))/\OldK s₁.heap s'.heap/\s'.os=s₁.os/\wo s'.gens) s₁:=by
  intro H hS hok hA hK hTb hF
  have base_of:∀{b:rY} {o:Obj},s₁.heap.get? b=Gc o->H b=none->(Vr s₁.heap H).get? b=Gc o:=λe n=>X0 e n
  have noA:∀{b:rY} {o:Obj},s₁.heap.get? b=Gc o->(∀x n,o.data≠.seq x n)->(∀x,o.data≠.fields x)->H b=none:=λ{b o} e d1 d2=>by
   cases q:H b with
   |none=>rfl
   |some u=>
    rcases hA b (by rw[q];simp)with z|⟨z,hz,z2⟩
    .subst z
     rw[ha]at e;cases e
     exact absurd rfl (d1 _ _)
    .subst z2
     rw[(hT z hz).2.2]at e;cases e
     exact absurd rfl (d2 _)
  have nsK:∀{b:rY} {m:Str->rW rS},s₁.heap.Ns b m->(Vr s₁.heap H).Ns b m:=λ{b m} ⟨o,es,ep,e,d,r⟩=>⟨o,es,ep,base_of e (noA e (λ_ _ z=>by rw[d]at z;cases z) λ_ z=>by rw[d]at z;cases z),d,r⟩
  have hKb:K.In (Vr s₁.heap H):=λb o e=>base_of (KX b o e) (by
   cases q:H b with
   |none=>rfl
   |some u=>rw[hK b (by rw[q];simp)]at e;cases e)
  have hM:Mod K mg (Vr s₁.heap H):=⟨hKb,nsK hns,⟨mb,nsK hb,hbb⟩,let⟨mc,h1,h2⟩:=hlim;⟨mc,nsK h1,h2⟩⟩
  have e0:Yy P w K mg (Vr s₁.heap H) callerA [] s₁ H:=⟨rfl,hM,λb o e=>Zt e,Nat.le_of_eq (UZ _ _),trivial,λb hb=>absurd (show b∈([]:Wp rY)from hb) (by simp),hok,.of_eq hg⟩
  have hbm:BmB mg (Vr s₁.heap H):=by
   obtain⟨bm,ob,m1,m2,m3,m4,m5,m6⟩:=bmn
   refine⟨bm,ob,m1,m2,λz=>?_,base_of m3 (noA m3 (λ_ _ z=>by rw[m6]at z;cases z) λ_ z=>by rw[m6]at z;cases z),m4,m5,m6⟩
   obtain⟨o,es,ep,e,d,_⟩:=hns
   rw[z,e]at m3;cases m3
   rw[d]at m6;cases m6
  obtain⟨S',hS'⟩:=hlaw
  have nm:¬Ms.mem ⟨T.map (·.2),[]⟩ a:=λz=>by
   rcases z with z|z
   .obtain⟨q,hq,e⟩:=uA.mp z
    exact aT q hq e
   .cases z
  have st:StR K ⟨T.map (·.2),[]⟩ (RJ T) H:=by
   refine⟨λb z=>?_,nd,λb z=>(nomatch z),by simp[RJ],λn b c e1 e2=>?_⟩
   .rcases z with z|z
    .obtain⟨q,hq,e⟩:=uA.mp z
     subst e
     exact⟨_,hTb q hq,trivial⟩
    .cases z
   .have e1':(T.map (·.2))[n]?=Gc b:=e1
    have e2':(T.map λz=>Cl.tab z.1)[n]?=Gc c:=e2
    rw[sY]at e1' e2'
    cases q:T[n]? with
    |none=>rw[q]at e1';cases e1'
    |some z=>
     rw[q]at e1' e2'
     cases e1';cases e2'
     have hz:=sQ q
     exact⟨#[],hTb z hz,trivial,(hT z hz).1,λpos cv e=>by rw[wR]at e;cases e⟩
  refine wQ ((F _ hKb (nsK hns) hbm).run callerA [] s₁ H ⟨[.ref a],[]⟩ [.ref a] [.ref a] (λv _=>v=.bl true) (λ_ _ _=>ur) hr e0 (hbind s₁ (.ref a)) (.cons rfl .nil) ⟨⟨T.map (·.2),[]⟩,[.scr ns],RJ T,_,S',rfl,hS',.cons (.scr ?_) .nil,st,λv H' M' g st' r'=>by cases r';rfl⟩) λr s' h=>?_
  .rcases hS with z|z
   .exact .inl ⟨z,nm⟩
   .exact .inr z
  cases r with
  |error e=>exact tu h
  |ok fl=>
   cases fl with
   |next=>exact tu h
   |brk=>exact tu h
   |cont=>exact tu h
   |ret u=>
    obtain⟨v,H',os,bare,un,hok',r',q⟩:=h
    have q':v=.bl true:=q
    subst q'
    obtain rfl:u=yE true:=r'
    refine⟨rfl,⟨λb o e=>?_,λb o e=>un.there b o e (by simp)⟩,os,bare⟩
    cases q:H b with
    |none=>exact .inl (un.keep b o e q (by intro z;exact absurd (show b∈([]:Wp rY)from z) (by simp)) (by simp))
    |some u=>
     rcases hA b (by rw[q];simp)with z|⟨z,hz,z2⟩
     .subst z
      rcases hF with z|⟨ob,xs,z⟩
      .rw[q]at z;cases z
      .have z2:=un.UB b ob _ z
       obtain⟨e1,_⟩:=hok b _ z
       obtain⟨e2,_⟩:=hok' b _ z2
       rw[e]at e1;cases e1
       exact .inl e2
     .subst z2
      obtain⟨t1,t2,t3⟩:=hT z hz
      rw[t3]at e;cases e
      obtain⟨more,em⟩:=un.Vs _ _ (hTb z hz)
      have e2:s'.heap.get? z.2=Gc (xM (#[]++more)):=hok' _ _ em
      obtain⟨_,_,_,_,_,c,_,_,_,hc⟩:=t1
      exact .inr (.inl ⟨P8 hc KX,rfl, #[],more,rfl,e2⟩)
 cases hk:K.lookup a with
 |some o=>
  have e:=KX a o hk
  rw[ha]at e
  cases e
  refine core (λb=>if∃z∈T,z.2=b then Gc (.tbl #[])else none) (.inr ⟨_,vs.toArray,_,hk,rfl,rfl,rfl,by rw[sJ,lenV];exact hl,by simpa using rv⟩) (λb u z=>?_) (λb z=>?_) (λb z=>?_) (λz hz=>sZ ⟨z,hz,rfl⟩) (.inl (sg λ⟨z,hz,e⟩=>aT z hz e))
  .by_cases hb:∃z∈T,z.2=b
   .have z':=(sZ hb).symm.trans z
    cases z'
    obtain⟨y,hy,rfl⟩:=hb
    exact(hT y hy).2.2
   .have z':=(sg hb).symm.trans z
    cases z'
  .by_cases hb:∃z∈T,z.2=b
   .exact .inr hb
   .exact absurd (sg hb) z
  .by_cases hb:∃z∈T,z.2=b
   .obtain⟨y,hy,rfl⟩:=hb;exact(hT y hy).2.1
   .exact absurd (sg hb) z
 |none=>
  refine core (λb=>if b=a then Gc (.frz {cls:=.type "list",data:=.seq vs.toArray} (.lst (ns.map V.int)))else if∃z∈T,z.2=b then Gc (.tbl #[])else none) (.inl (.inr ⟨{cls:=.type "list",data:=.seq vs.toArray},sZ rfl⟩)) (λb u z=>?_) (λb z=>?_) (λb z=>?_) (λz hz=>(sg (aT z hz)).trans (sZ ⟨z,hz,rfl⟩)) (.inr ⟨_,_,sZ rfl⟩)
  .by_cases hb:b=a
   .have z':=(sZ hb).symm.trans z
    cases z'
    subst hb
    exact⟨ha,by rw[uJ];exact hl,vs,_,rv,ha⟩
   .have z':=(sg hb).symm.trans z
    by_cases hc:∃z∈T,z.2=b
    .have z'':=(sZ hc).symm.trans z'
     cases z''
     obtain⟨y,hy,rfl⟩:=hc
     exact(hT y hy).2.2
    .have z'':=(sg hc).symm.trans z'
     cases z''
  .by_cases hb:b=a
   .exact .inl hb
   .by_cases hc:∃z∈T,z.2=b
    .exact .inr hc
    .exact absurd ((sg hb).trans (sg hc)) z
  .by_cases hb:b=a
   .rw[hb];exact hk
   .by_cases hc:∃z∈T,z.2=b
    .obtain⟨y,hy,rfl⟩:=hc;exact(hT y hy).2.1
    .exact absurd ((sg hb).trans (sg hc)) z
theorem mh{l:yy}{q:sf}{loose:Wp Str}{XP:(Str->rW rS)->tT->Prop}{YP:tU->tT->Prop}{d:DefRec}{K:Params->W1}{x:Str}{k:Nat}{Fn0:Fn}(T:Wp (Str×rY))(hn:l.most=Gc 63)(hdf:d.params.defaults=[])(hr:CZ k callerA)(hY:∀(w:tU) (h:tT),YP w h->(K w.params).In h/\∀z∈T,h.get? z.2=Gc (xM #[]))(nd:(T.map (·.2)).Nodup)(F:∀(w:tU) (mg:Str->rW rS) (fa:rY) (h:tT),(K w.params).In h->h.Ns mainGlobals mg->mg d.name=Gc (.ref fa)->(∀z∈T,TabAt (K w.params) z.1 z.2/\(K w.params).lookup z.2=none)/\∃fd:uf,(∀(s:rX) (u:rS),BindsTo s fd ⟨[u],[]⟩ [(x,u)])/\∀base:tT,(K w.params).In base->base.Ns mainGlobals mg->BmB mg base->KR l.prog w (K w.params) mg base CX0 k fa fd [x] (spD (K w.params) 1 Fn0))(hlaw:∀ns:Wp Int,ns.length<=63->∃S,Fn0 [.scr ns] (RJ T)=Gc (.bl true,S)):PySem.W.WalkO q loose XP YP l.row.toRowW d [] (λf vs=>PySem.call f vs):=by
 refine Att.attach_call hn hdf λw s₀ s₁ mg mb fa o pm cd doc a vs ns G Y ho hd hcd hmg hobj hints hlen hg=>?_
 obtain⟨KX,Y2⟩:=hY w _ Y
 obtain⟨hT,fd,hb,hF⟩:=F w mg fa _ KX G.T.g hmg
 exact Uw KX G.T.g G.T.b G.T.builtins G.T.nolimit hg hobj hints (sI hlen (by decide)) hr (λz hz=>⟨(hT z hz).1,(hT z hz).2,Y2 z hz⟩) nd G.T.bmain hF hb (hlaw ns hlen)
end Mi
end
noncomputable section
namespace Mi
open PySem PySem.Spec L2
noncomputable def laE:Nat->sW->Wp uT
 |0,_=>[]
 |n+1,.Lambda _ _ s _=>[s]
 |n+1,.BoolOp _ vs _=>vs.flatMap (laE n)
 |n+1,.Call f as _ _=>laE n f++as.flatMap (laE n)
 |n+1,.UnaryOp _ a _=>laE n a
 |n+1,.Compare a _ cs _=>laE n a++cs.flatMap (laE n)
 |n+1,.Tuple es _ _=>es.flatMap (laE n)
 |n+1,.List es _=>es.flatMap (laE n)
 |n+1,.Subscript a _ _=>laE n a
 |_,_=>[]
noncomputable def laS:Nat->tE->Wp uT
 |0,_=>[]
 |n+1,.Return (Gc e) _=>laE 30 e
 |n+1,.Assign ts e _=>laE 30 e
 |n+1,.Expr e _=>laE 30 e
 |n+1,.If t a b _=>laE 30 t++a.flatMap (laS n)++b.flatMap (laS n)
 |n+1,.For _ it a b _=>laE 30 it++a.flatMap (laS n)++b.flatMap (laS n)
 |n+1,.While t a b _=>laE 30 t++a.flatMap (laS n)++b.flatMap (laS n)
 |_,_=>[]
noncomputable def mH(st:tE)(k:Nat):uT:=((A3 st).flatMap (laS 20)).getD k (AD st)
theorem lsM{N:Wp Str}{osc:uT}{N':Wp Str}{IE:Wp Nat}{sc:uT}(a:sc.kind=.function:=by rfl)(b:sc.isCoroutine=false:=by rfl)(c:sc.isGenerator=false:=by rfl)(d:∀y∈sc.names,y.2≠.cell:=by decide+kernel)(e:∀y∈sc.names,y.2=.free->osc.names.lookup y.1=Gc .cell:=by decide+kernel)(f:IE.length=N'.length:=by rfl)(g:∀z∈N'.zip IE,N[z.2]?=Gc z.1/\osc.names.lookup z.1=Gc .cell/\sc.names.lookup z.1=Gc .free:=by decide+kernel):Hm N osc N' IE sc:=⟨a,b,c,d,e,f,g⟩
section
variable{X:Cx}
theorem rC{a:Wp sW}{b:Wp Ev}(h:DEs X a b):DEs X a b:=h
theorem gDE{a:sW}{b:Ev}(h:DE X a b):DE X a b:=h
theorem rQ{a:Wp tE}{b:Ex}(h:DSs X a b):DSs X a b:=h
theorem gDS{a:tE}{b:Ex}(h:DS X a b):DS X a b:=h
theorem gDT{a:sW}{b:Ev}(h:DT X a b):DT X a b:=h
theorem gDG{a:sW}{b:Tf}(h:DG X a b):DG X a b:=h
theorem rK{a:rS->rS->Sem rS}{b:R2}(h:OpR X a b):OpR X a b:=h
theorem oZ{a:rS}{b:Wp V->Hp->VK->Prop}(h:EH X a b):EH X a b:=h
end
section
variable{P:sf}{w:tU}{K:W1}{mg:Str->rW rS}{base:tT}
theorem dfW{x:Str}{st:tE}{N ps:Wp Str}(k:Nat){np:Nat}{b:Ex}(S:St.Src K mg x st)(sc:Ar N ps (AD st))(hb:∀{f:rY} {cdv:rS} {A:tN} {outer:Wp uM} {s:rX} {H:Hp} {E:XK},N.Nodup->CZ k (A.deeper (sR x (AD st) s.heap.objs.size f cdv))->(A.deeper (sR x (AD st) s.heap.objs.size f cdv)).units+100<cLine->DSs (Hw CX0 P w K mg base N x (AD st) f cdv A outer s H E).nox (A3 st) b)(hp:ps.length=np:=by rfl)(hbi:BnR x st ps:=by exact λ_ _ _ _ _ _ _=>rfl):St.Dfn P w K mg base x (k+1) ps (spD K np (AW (Af N.length b))):=dfM k S sc (λhr hu=>hb sc.nd hr hu) hp hbi
theorem ij{x:Str}{st:tE}{N ps:Wp Str}(k:Nat){np:Nat}{r:Rx}(S:St.Src K mg x st)(sc:Ar N ps (AD st))(hb:∀{f:rY} {cdv:rS} {A:tN} {outer:Wp uM} {s:rX} {H:Hp} {E:XK},N.Nodup->CZ k (A.deeper (sR x (AD st) s.heap.objs.size f cdv))->(A.deeper (sR x (AD st) s.heap.objs.size f cdv)).units+100<cLine->RSs (Hw CX0 P w K mg base N x (AD st) f cdv A outer s H E).nox (A3 st) r)(hp:ps.length=np:=by rfl)(hbi:BnR x st ps:=by exact λ_ _ _ _ _ _ _=>rfl):bQ P w K mg base x (k+1) ps (spR K mg np (AW (Iy N.length r))):=aR S sc hp (λ_ _ F=>bnR F hbi) λf cdv A outer s H E hr=>hb sc.nd hr (II hr)
end
noncomputable def Lb(f:Str)(d:D):Wp (Str×D)->Wp (Str×D)
 | []=>[(f,d)]
 |(g,x)::r=>if g=f then(g,d)::r else(g,x)::Lb f d r
section
variable{K:W1}{M M':Ms}{H H':Hp}{S:Sto}
structure FsR(K:W1)(M:Ms)(H:Hp)(fv:Wp (Str×V))(fs:Wp (Str×D)):Prop where
 nm:fv.map (·.1)=fs.map (·.1)
 rel:Ae K M H (fv.map (·.2)) (fs.map (·.2))
theorem FsR.ind{P:Wp (Str×V)->Wp (Str×D)->Prop}(n:P [] [])(c:∀{f:Str} {v:V} {d:D} {fv:Wp (Str×V)} {fs:Wp (Str×D)},BX K M H v d->FsR K M H fv fs->P fv fs->P ((f,v)::fv) ((f,d)::fs)):∀{fs:Wp (Str×D)} {fv:Wp (Str×V)},FsR K M H fv fs->P fv fs:=λ{fs}=>by
 induction fs with
 |nil=>
  intro fv h
  cases fv with
  |nil=>exact n
  |cons a r=>exact absurd h.nm (by simp)
 |cons b fs ih=>
  intro fv h
  cases fv with
  |nil=>exact absurd h.nm (by simp)
  |cons a fv=>
   obtain⟨f,v⟩:=a
   obtain⟨g,d⟩:=b
   have h1:=h.nm
   rw[sV,sV,List.cons.injEq]at h1
   obtain⟨e,h1⟩:=h1
   have e:f=g:=e
   subst e
   have h2:=h.rel
   rw[sV,sV]at h2
   cases h2 with
   |cons r t=>exact c r ⟨h1,t⟩ (ih ⟨h1,t⟩)
theorem FsR.cons{f:Str}{v:V}{d:D}{fv:Wp (Str×V)}{fs:Wp (Str×D)}(r:BX K M H v d)(h:FsR K M H fv fs):FsR K M H ((f,v)::fv) ((f,d)::fs):=⟨by rw[sV,sV,h.nm],.cons r h.rel⟩
theorem FsR.get{f:Str}{fv:Wp (Str×V)}{fs:Wp (Str×D)}(h:FsR K M H fv fs):(∀d,fs.lookup f=Gc d->∃v,fv.lookup f=Gc v/\BX K M H v d)/\(fs.lookup f=none->fv.lookup f=none):=
 FsR.ind (P:=λfv fs=>(∀d,fs.lookup f=Gc d->∃v,fv.lookup f=Gc v/\BX K M H v d)/\(fs.lookup f=none->fv.lookup f=none)) ⟨λ_ e=>(nomatch e),λ_=>rfl⟩ (λ{g v d fv fs} r _ ih=>by
  rw[tY,tY]
  cases q:f==g with
  |true=>exact⟨λy e=>by cases e;exact⟨v,rfl,r⟩,λe=>(nomatch e)⟩
  |false=>exact ih) h
theorem FsR.put{f:Str}{v:V}{d:D}{fv:Wp (Str×V)}{fs:Wp (Str×D)}(r:BX K M H v d)(h:FsR K M H fv fs):FsR K M H (Me f v fv) (Lb f d fs):=
 FsR.ind (P:=λfv fs=>FsR K M H (Me f v fv) (Lb f d fs)) (.cons r ⟨rfl,.nil⟩) (λ{g v' d' fv fs} r' h' ih=>by
  rw[show Me f v ((g,v')::fv)=(if g=f then(g,v)::fv else(g,v')::Me f v fv)from rfl,show Lb f d ((g,d')::fs)=(if g=f then(g,d)::fs else(g,d')::Lb f d fs)from rfl]
  by_cases q:g=f
  .rw[sZ q,sZ q];exact .cons r h'
  .rw[sg q,sg q];exact .cons r' ih) h
theorem StR.qd(r:StR K M S H){n:Nat}{a Ca dx:rY}{C:Str}{fv fv':Wp (Str×V)}{fs fs':Wp (Str×D)}(h1:M.cel[n]?=Gc a)(h2:S[n]?=Gc (.ins C fs))(hN:tS K mainGlobals C=Gc (Gc (.ref Ca)))(ea:H a=Gc (.ins Ca dx fv))(eo:H dx=Gc (.own a))(hy:FsR K M H fv' fs'):StR K M (S.set n (.ins C fs')) (upd H a (.ins Ca dx fv'))/\Gr M H M (upd H a (.ins Ca dx fv')):=by
 have ha:a∈M.cel:=sQ h1
 have hl:n<S.length:=(r9.mp h2).1
 have g:Gr M H M (upd H a (.ins Ca dx fv')):=⟨r.mo,uG,rfl,λ_ z=>.inl z,λb o eb nb=>by rw[AU (λz=>nb (by rw[z];exact ha))];exact eb,λb eb=>by
  by_cases h:b=a
  .subst h;rw[Ac];intro z;cases z
  .rw[AU h];exact eb⟩
 refine⟨⟨λb z=>?_,r.nd,r.nt,by rw[u6];exact r.len,λm b c e1 e2=>?_⟩,g⟩
 .by_cases h:b=a
  .subst h;exact⟨_,Ac,trivial⟩
  .rw[AU h];exact r.mo b z
 .by_cases h:n=m
  .subst h
   rw[h1]at e1;cases e1
   rw[sP hl]at e2;cases e2
   exact⟨Ca,dx,fv',hN,Ac,g.st.Sn eo id,hy.nm,hy.rel.step g.st⟩
  .rw[rm h]at e2
   have hb:b≠a:=λz=>by
    subst z
    exact h ((wF (r9.mp h1).1 r.nd).mp (h1.trans e1.symm))
   exact(r.cell m b c e1 e2).step g.st λo e=>by rw[AU hb];exact e
theorem StR.oG(r:StR K M S H){a:rY}{cl:Cl}{o:HO}(e:H a=none)(k:∀b o,H b=Gc o->H' b=Gc o)(ea:H' a=Gc o)(mb:Mob o)(hc:∀M',Sp1 M H M' H'->Pt K M' H' a cl):StR K ⟨M.cel++[a],M.tmp⟩ (S++[cl]) H'/\Gr M H ⟨M.cel++[a],M.tmp⟩ H':=by
 have g:Gr M H ⟨M.cel++[a],M.tmp⟩ H':=⟨r.mo,vY _ _,rfl,λb z=>by
  rcases sX.mp z with z|z
  .exact .inl z
  .simp at z;subst z;exact .inr e,λb o eb _=>k b o eb,λb eb z=>by
  cases h:H b with
  |none=>exact eb h
  |some o=>rw[k b o h]at z;cases z⟩
 have na:¬M.mem a:=λz=>r.mo.some z e
 refine⟨⟨λb z=>?_,?_,λb hb z=>?_,by simp[r.len],λm b c e1 e2=>?_⟩,g⟩
 .have z':M.mem b\/b=a:=by
   rcases z with z|z
   .rcases sX.mp z with z|z
    .exact .inl (.inl z)
    .simp at z;exact .inr z
   .exact .inl (.inr z)
  rcases z' with z|z
  .exact r.mo.at k z
  .subst z;exact⟨_,ea,mb⟩
 .rw[wG]
  refine⟨r.nd,by simp,λx hx y hy=>?_⟩
  simp at hy;subst hy
  exact λz=>na (.inl (by rw[<-z];exact hx))
 .rcases sX.mp z with z|z
  .exact r.nt b hb z
  .simp at z;subst z;exact na (.inr hb)
 .by_cases h:m<S.length
  .rw[rf (by rw[r.len];exact h)]at e1
   rw[rf h]at e2
   exact(r.cell m b c e1 e2).step g.st λo e=>k _ _ e
  .have hm:m=S.length:=by
    have:=(r9.mp e2).1
    simp at this;lia
   subst hm
   rw[tK (by rw[r.len];exact sD _)]at e1
   rw[tK (sD _)]at e2
   rw[r.len]at e1
   simp at e1 e2
   subst e1 e2
   exact hc _ g.st
end
structure ClD(K:W1)(C:Str)(fs:Wp Str):Prop where
 ex:∃Ca,tS K mainGlobals C=Gc (Gc (.ref Ca))/\Cls K Ca/\∀f∈fs,He K Ca f
noncomputable def Jy(S:Sto)(C:Str):D->rW (Wp (Str×D))
 | .ref n=>match S[n]? with
   |some (.ins C' fs)=>if C'=C then Gc fs else none
   |_=>none
 |_=>none
theorem Js{S:Sto}{C:Str}{d:D}{fs:Wp (Str×D)}(e:Jy S C d=Gc fs):∃n,d=.ref n/\S[n]?=Gc (.ins C fs):=by
 unfold Jy at e
 split at e
 .rename_i n
  split at e
  .rename_i C' fs' h
   split at e
   .rename_i z;cases e;subst z;exact⟨n,rfl,h⟩
   .cases e
  .cases e
 .cases e
theorem Qk{S:Sto}{C:Str}{n:Nat}{fs:Wp (Str×D)}(e:S[n]?=Gc (.ins C fs)):Jy S C (.ref n)=Gc fs:=by
 unfold Jy
 simp[e]
noncomputable def N1(C f:Str)(o:Ev):Ev:=λE S=>(o E S).bind λr=>(Jy r.2 C r.1).bind λfs=>(fs.lookup f).map λd=>(d,r.2)
noncomputable def Xd(C f:Str)(o v:Ev):Ex:=λE S=>(v E S).bind λr=>(o E r.2).bind λq=>(Jy q.2 C q.1).bind λfs=>match q.1 with
 | .ref n=>if fs.length<1000 then Gc (.nx,E,q.2.set n (.ins C (Lb f r.1 fs)))else none
 |_=>none
section
variable{X:Cx}{o v:sW}{fo fv:Ev}{C f:Str}{fs:Wp Str}{pos pos':Pos}
theorem Iu(c:ClD X.K C fs)(hf:f∈fs)(ho:DE X o fo)(hb:attributeBase o f X.env (eval o X.env)=eval o X.env:=by rfl):DE X (.Attribute o f pos) (N1 C f fo):=⟨BA (fG ho.pe hb) λσ H Q z=>by
 obtain⟨M,E,S,d,S',e,r,st,q⟩:=z
 obtain⟨⟨d0,S1⟩,e1,e⟩:=Ak e
 obtain⟨fs0,e2,e⟩:=Ak e
 obtain⟨d1,e3,e⟩:=Hu e
 cases e
 obtain⟨n,rfl,hn⟩:=Js e2
 obtain⟨Ca,hC,cl,na⟩:=c.ex
 refine⟨M,E,S,_,S1,e1,r,st,λu H1 M1 g1 st1 r1=>?_⟩
 cases r1 with
 |ref h=>
  rename_i a
  obtain⟨Ca',dx,fv0,h1,h2,h3,h4,h5⟩:=st1.cell n a _ h hn
  cases hC.symm.trans h1
  obtain⟨u,hu,ru⟩:=((FsR.mk h4 h5).get (f:=f)).1 _ e3
  exact⟨a,Ca,dx,fv0,u,rfl,h2,cl,na f hf,hu,q _ _ M1 g1 st1 ru⟩⟩
theorem U6(c:ClD X.K C fs)(hf:f∈fs)(ho:DE X o fo)(hv:DE X v fv)(hs:swapsWith v (Gc (.Attribute o f pos')) pos.line X.env=pure false:=by rfl):DS X (.Assign [.Attribute o f pos'] v pos) (Xd C f fo fv):=⟨FJ (iP ho.pe hv.pe hs) λDn σ H z=>by
 obtain⟨M,E,S,fl,E',S',e,r,st,q⟩:=z
 obtain⟨⟨d0,S1⟩,e1,e⟩:=Ak e
 obtain⟨⟨d1,S2⟩,e2,e⟩:=Ak e
 obtain⟨fs0,e3,e⟩:=Ak e
 obtain⟨n,rfl,hn⟩:=Js e3
 dsimp only at e hn
 split at e
 case isFalse=>cases e
 rename_i hl
 cases e
 obtain⟨Ca,hC,cl,na⟩:=c.ex
 refine⟨M,E,S,_,S1,e1,r,st,λu H1 M1 g1 st1 r1=>?_⟩
 refine⟨M1,E,S1,_,S2,e2,r.step g1.st,st1,λw H2 M2 g2 st2 r2=>?_⟩
 cases r2 with
 |ref h=>
  rename_i a
  obtain⟨Ca',dx,fv0,h1,h2,h3,h4,h5⟩:=st2.cell n a _ h hn
  cases hC.symm.trans h1
  have F:=FsR.mk h4 h5
  obtain⟨st3,g3⟩:=st2.qd h hn hC h2 h3 (F.put (f:=f) (r1.step g2.st))
  refine⟨a,Ca,dx,fv0,rfl,h2,cl,na f hf,?_,q σ _ M2 ((g1.trans g2).trans g3) (((r.step g1.st).step g2.st).step g3.st) st3⟩
  have:=congrArg List.length h4
  rw[uJ,uJ]at this
  lia⟩
end
section
variable{P:sf}{w:tU}{K:W1}{mg:Str->rW rS}{base:tT}
structure MeS(K:W1)(C m q:Str)(st:tE):Prop where
 ex:∃Ca f fd,tS K mainGlobals C=Gc (Gc (.ref Ca))/\Cls K Ca/\Meth K Ca m f/\Fun K m q st f fd
structure MeD(P:sf)(w:tU)(K:W1)(mg:Str->rW rS)(base:tT)(CX:CXT)(C m:Str)(k:Nat)(ps:Wp Str)(sp:Sp):Prop where
 ex:∃Ca f fd,tS K mainGlobals C=Gc (Gc (.ref Ca))/\Cls K Ca/\Meth K Ca m f/\Binds K fd ps []/\KR P w K mg base CX k f fd ps sp
structure MkS(K:W1)(mg:Str->rW rS)(C q:Str)(st:tE):Prop where
 ex:∃Ca f fd,mg C=Gc (.ref Ca)/\tS K mainGlobals C=Gc (Gc (.ref Ca))/\Mk K Ca f/\Fun K "__init__" q st f fd
structure MkD(P:sf)(w:tU)(K:W1)(mg:Str->rW rS)(base:tT)(CX:CXT)(C:Str)(k:Nat)(ps:Wp Str)(sp:Sp):Prop where
 ex:∃Ca f fd,mg C=Gc (.ref Ca)/\tS K mainGlobals C=Gc (Gc (.ref Ca))/\Mk K Ca f/\Binds K fd ps []/\KR P w K mg base CX k f fd ps sp
theorem Y6{x y:Str}{st:tE}{f:rY}{fd:uf}{N ps:Wp Str}{k np:Nat}{b:Ex}(Fu:Fun K x y st f fd)(S:Ar N ps (AD st))(hp:ps.length=np)(hb:∀(cdv:rS) (A:tN) (outer:Wp uM) (s:rX) (H:Hp) (E:XK),CZ k (A.deeper (sR y (AD st) s.heap.objs.size f cdv))->DSs (Hw CX0 P w K mg base N y (AD st) f cdv A outer s H E).nox (A3 st) b):KR P w K mg base CX0 (k+1) f fd ps (spD K np (AW (Af N.length b))):=by
 rw[IY]
 refine Fu.ok S (λvs H Q E h=>?_) (λcdv A outer s H vs Q E hr h=>?_)
 .obtain⟨M,ds,S0,d,S',hl,_,r,_⟩:=h
  have:=r.length
  lia
 .obtain⟨M,ds,S0,d,S',hl,e,r,st,q⟩:=h
  have hlen:=r.length
  refine⟨_,(hb cdv A outer s H E hr).pe,?_⟩
  obtain⟨⟨fl,E',S1⟩,e1,e⟩:=Hu e
  cases e
  refine⟨M,_,S0,fl,E',S1,e1,?_,st,?_⟩
  .rw[show L2.start N vs=vs.map Gc++sH (N.length-ds.length) none from by unfold L2.start;rw[hlen]]
   exact .args r _
  .cases fl with
   |nx=>exact λσ' H' M' g _ st'=>q _ _ M' g st' .non
   |ret d=>exact λv H' M' g st' r'=>q _ _ M' g st' r'
theorem U4{x y:Str}{st:tE}{f:rY}{fd:uf}{N ps:Wp Str}{k np:Nat}{r:Rx}(Fu:Fun K x y st f fd)(S:Ar N ps (AD st))(hp:ps.length=np)(hb:∀(cdv:rS) (A:tN) (outer:Wp uM) (s:rX) (H:Hp) (E:XK),CZ k (A.deeper (sR y (AD st) s.heap.objs.size f cdv))->RSs (Hw CX0 P w K mg base N y (AD st) f cdv A outer s H E).nox (A3 st) r):KR P w K mg base (CXr P w) (k+1) f fd ps (spR K mg np (AW (Iy N.length r))):=by
 rw[IY]
 obtain⟨oc,od,kV,doc,pm,an,cdv,ct,osl,rfl,lk,hcd⟩:=Fu.ex
 refine X5 lk hcd S (λvs H Q E h=>?_) λA outer s H vs Q E hr h=>?_
 .obtain⟨M,ds,S0,d,S',hl,_,r,_⟩:=h
  have:=r.length
  lia
 .obtain⟨M,ds,S0,y',S',hl,e,rr,st,q⟩:=h
  have hlen:=rr.length
  refine⟨λ_ σ H=>tR K mg r σ H λC od _ H'=>E (.ref C) od H',λpins s1 σ1 H1 D I h=>?_,?_⟩
  .exact ub ((hb cdv A outer s H E hr).pe pins s1 σ1 H1 _ (I.R6 _) h) (λ_ _ z=>z.elim) λev s' z=>Qy z λ_ _ _ _ z=>z
  .obtain⟨⟨y',E',S1⟩,e1,e⟩:=Hu e
   cases e
   refine⟨M,_,S0,y',E',S1,e1,?_,st,λC od σ' H' M' hm g _ st'=>q C od H' M' hm g st'⟩
   rw[show L2.start N vs=vs.map Gc++sH (N.length-ds.length) none from by unfold L2.start;rw[hlen]]
   exact .args rr _
def BnQ(x y:Str)(st:tE)(ps:Wp Str):Prop:=∀(kV doc pm:rS) (an:rW rY) (cdv ct:rS) (f:Nat->rS),bindArgs (vG x y (Gp st) (A3 st) (AD st) .none kV doc pm an cdv ct) ⟨(tj ps.length).map f,[]⟩=pure (ps.zip ((tj ps.length).map f))
theorem bnQ{x y:Str}{st:tE}{ps:Wp Str}{f:rY}{fd:uf}(F:Fun K x y st f fd)(h:BnQ x y st ps):Binds K fd ps []:=F.binds λa b c d e g us hl=>by
 obtain⟨k,rfl⟩:=oO hl
 exact h a b c d e g k
theorem WD{C m q:Str}{st:tE}{N ps:Wp Str}(k:Nat){np:Nat}{b:Ex}(S:MeS K C m q st)(sc:Ar N ps (AD st))(hb:∀{f:rY} {cdv:rS} {A:tN} {outer:Wp uM} {s:rX} {H:Hp} {E:XK},N.Nodup->CZ k (A.deeper (sR q (AD st) s.heap.objs.size f cdv))->(A.deeper (sR q (AD st) s.heap.objs.size f cdv)).units+100<cLine->DSs (Hw CX0 P w K mg base N q (AD st) f cdv A outer s H E).nox (A3 st) b)(hp:ps.length=np:=by rfl)(hbi:BnQ m q st ps:=by exact λ_ _ _ _ _ _ _=>rfl):MeD P w K mg base CX0 C m (k+1) ps (spD K np (AW (Af N.length b))):=by
 obtain⟨Ca,f,fd,h1,h2,h3,Fu⟩:=S.ex
 exact⟨Ca,f,fd,h1,h2,h3,bnQ Fu hbi,Y6 Fu sc hp λcdv A outer s H E hr=>hb sc.nd hr (II hr)⟩
theorem YY{C m q:Str}{st:tE}{N ps:Wp Str}(k:Nat){np:Nat}{r:Rx}(S:MeS K C m q st)(sc:Ar N ps (AD st))(hb:∀{f:rY} {cdv:rS} {A:tN} {outer:Wp uM} {s:rX} {H:Hp} {E:XK},N.Nodup->CZ k (A.deeper (sR q (AD st) s.heap.objs.size f cdv))->(A.deeper (sR q (AD st) s.heap.objs.size f cdv)).units+100<cLine->RSs (Hw CX0 P w K mg base N q (AD st) f cdv A outer s H E).nox (A3 st) r)(hp:ps.length=np:=by rfl)(hbi:BnQ m q st ps:=by exact λ_ _ _ _ _ _ _=>rfl):MeD P w K mg base (CXr P w) C m (k+1) ps (spR K mg np (AW (Iy N.length r))):=by
 obtain⟨Ca,f,fd,h1,h2,h3,Fu⟩:=S.ex
 exact⟨Ca,f,fd,h1,h2,h3,bnQ Fu hbi,U4 Fu sc hp λcdv A outer s H E hr=>hb sc.nd hr (II hr)⟩
end
noncomputable def GU(C m:Str)(F:Fn)(o:Ev)(fs:Wp Ev):Ev:=λE S=>(o E S).bind λr=>(Jy r.2 C r.1).bind λas=>if(as.lookup m).isNone=true then(evs fs E r.2).bind λq=>F (r.1::q.1) q.2 else none
noncomputable def Nu(C m:Str)(R:Rf)(o:Ev)(fs:Wp Ev):Rx:=λE S=>(o E S).bind λr=>(Jy r.2 C r.1).bind λas=>if(as.lookup m).isNone=true then(evs fs E r.2).bind λq=>(R (r.1::q.1) q.2).map λz=>(z.1,E,z.2)else none
section
variable{X:Cx}{k np:Nat}{C m:Str}{ps:Wp Str}{F:Fn}{R:Rf}{o e:sW}{es:Wp sW}{fo:Ev}{fs:Wp Ev}{p pos apos:Pos}{pl:Sem sx}
theorem QH{K:W1}{M:Ms}{H:Hp}{S:Sto}{v:V}{d:D}{Ca:rY}{as:Wp (Str×D)}(st:StR K M S H)(r:BX K M H v d)(hC:tS K mainGlobals C=Gc (Gc (.ref Ca)))(e:Jy S C d=Gc as)(hn:(as.lookup m).isNone=true):∃a dx fv,v=.ref a/\H a=Gc (.ins Ca dx fv)/\fv.lookup m=none:=by
 obtain⟨n,rfl,hn'⟩:=Js e
 cases r with
 |ref h=>
  rename_i a
  obtain⟨Ca',dx,fv0,h1,h2,h3,h4,h5⟩:=st.cell n a _ h hn'
  cases hC.symm.trans h1
  exact⟨a,dx,fv0,rfl,h2,((FsR.mk h4 h5).get (f:=m)).2 (Option.isNone_iff_eq_none.mp hn)⟩
theorem aJ (d : MeD X.prog X.w X.K X.mg X.base CX0 C m k ps (spD X.K np F)) (hr : CZ k X.A) (ho : DE X o fo) (ha : DEs X (e :: es) fs) (hn : fs.length + 1 = np := by rfl) (hst : sE (e :: es) X.env = (false, eval e X.env) :: sE es X.env := by rfl) (hpl : (backTo pos (sE es X.env)).any (·.1) = false := by rfl) (ht : eval (.Call (.Attribute o m apos) (e :: es) [] pos) X.env = (do
      let ov ← eval o X.env
      standAt apos.atName
      let (f, first) ← holding [ov] (getMethod ov m pl)
      callWith pos f first (backTo pos (sE (e :: es) X.env)) (backToKw pos (keywordEach [] X.env))) := by rfl) :
    DE X (.Call (.Attribute o m apos) (e :: es) [] pos) (GU C m F fo fs) := ⟨by
  obtain ⟨Ca, f, fd, hC, cl, hm, hb, Fk⟩ := d.ex
  refine BA (bM (pl := pl) ho.pe cl hm Fk hr hb .nil TU ha.pe hst hpl ht) fun σ H Q z => ?_
  obtain ⟨M, E, S, d0, S', e0, r, st, q⟩ := z
  obtain ⟨⟨d1, S1⟩, e1, e0⟩ := Ak e0
  obtain ⟨as, e2, e0⟩ := Ak e0
  split at e0
  case isFalse => cases e0
  rename_i hno
  obtain ⟨⟨ds, S2⟩, e3, e4⟩ := Ak e0
  refine ⟨M, E, S, d1, S1, e1, r, st, fun u H1 M1 g1 st1 r1 => ?_⟩
  obtain ⟨a, dx, fv, rfl, h2, h3⟩ := QH st1 r1 hC e2 hno
  refine ⟨a, dx, fv, rfl, h2, h3, EU e3 (r.step g1.st) st1 fun vs H2 M2 g2 st2 r2 => ?_⟩
  rw [uB]
  exact ⟨M2, d1 :: ds, S2, d0, S', by rw [sk, GZ e3]; exact hn, e4, .cons (r1.step g2.st) r2, st2, fun v H' M' g st' r' => q _ _ M' ((g1.trans g2).trans g) st' r'⟩⟩
theorem WK (d : MeD X.prog X.w X.K X.mg X.base CX0 C m k ps (spD X.K np F)) (hr : CZ k X.A) (ho : DE X o fo) (hn : 1 = np := by rfl) (ht : eval (.Call (.Attribute o m apos) [] [] pos) X.env = (do
      let ov ← eval o X.env
      standAt apos.atName
      let (f, first) ← holding [ov] (getMethod ov m pl)
      callWith pos f first (backTo pos (sE [] X.env)) (backToKw pos (keywordEach [] X.env))) := by rfl) :
    DE X (.Call (.Attribute o m apos) [] [] pos) (GU C m F fo []) := ⟨by
  obtain ⟨Ca, f, fd, hC, cl, hm, hb, Fk⟩ := d.ex
  refine BA (W8 (pl := pl) ho.pe cl hm Fk hr hb .nil TU ht) fun σ H Q z => ?_
  obtain ⟨M, E, S, d0, S', e0, r, st, q⟩ := z
  obtain ⟨⟨d1, S1⟩, e1, e0⟩ := Ak e0
  obtain ⟨as, e2, e0⟩ := Ak e0
  split at e0
  case isFalse => cases e0
  rename_i hno
  refine ⟨M, E, S, d1, S1, e1, r, st, fun u H1 M1 g1 st1 r1 => ?_⟩
  obtain ⟨a, dx, fv, rfl, h2, h3⟩ := QH st1 r1 hC e2 hno
  exact ⟨a, dx, fv, rfl, h2, h3, M1, [d1], S1, d0, S', hn, e0, .cons r1 .nil, st1, fun v H' M' g st' r' => q _ _ M' (g1.trans g) st' r'⟩⟩
theorem cJ (d : MeD X.prog X.w X.K X.mg X.base (CXr X.prog X.w) C m k ps (spR X.K X.mg np R)) (hr : CZ k X.A) (ho : DE X o fo) (ha : DEs X (e :: es) fs) (hn : fs.length + 1 = np := by rfl) (hxe : X.xe = fun _ _ => ur := by rfl) (hx : X.ex = [] := by rfl) (hst : sE (e :: es) X.env = (false, eval e X.env) :: sE es X.env := by rfl) (hpl : (backTo pos (sE es X.env)).any (·.1) = false := by rfl) (ht : eval (.Call (.Attribute o m apos) (e :: es) [] pos) X.env = (do
      let ov ← eval o X.env
      standAt apos.atName
      let (f, first) ← holding [ov] (getMethod ov m pl)
      callWith pos f first (backTo pos (sE (e :: es) X.env)) (backToKw pos (keywordEach [] X.env))) := by rfl) :
    RE X (.Call (.Attribute o m apos) (e :: es) [] pos) (Nu C m R fo fs) := ⟨by
  intro pins s σ H Z I h
  obtain ⟨Ca, f, fd, hC, cl, hm, hb, Fk⟩ := d.ex
  obtain ⟨M, E, S, y, E', S', e0, r, st, q⟩ := h
  obtain ⟨⟨d1, S1⟩, e1, e0⟩ := Ak e0
  obtain ⟨as, e2, e0⟩ := Ak e0
  split at e0
  case isFalse => cases e0
  rename_i hno
  obtain ⟨⟨ds, S2⟩, e3, e4⟩ := Ak e0
  obtain ⟨⟨y', S3⟩, e5, e6⟩ := Hu e4
  cases e6
  refine xQ (pl := pl) (EK hxe (ho.pe pins s σ H (fun v H1 => ∃ M1, Gr M H M1 H1 /\ StR X.K M1 S1 H1 /\ BX X.K M1 H1 v d1) I ⟨M, E, S, d1, S1, e1, r, st, fun v H1 M1 g1 st1 r1 => ⟨M1, g1, st1, r1⟩⟩) fun u s1 z => ?_) ht
  obtain ⟨v, H1, I1, rv, M1, g1, st1, r1⟩ := z
  obtain ⟨a, dx, fv, rfl, h2, h3⟩ := QH st1 r1 hC e2 hno
  obtain rfl : u = si a := rv
  refine Ji I1 h2 cl hm h3 ?_
  have ha' := ha.pe pos pins s1 σ H1 (fun vs H2 => ∃ M2, Gr M1 H1 M2 H2 /\ StR X.K M2 S2 H2 /\ Ae X.K M2 H2 vs ds) I1 (EU e3 (r.step g1.st) st1 fun vs H2 M2 g2 st2 r2 => ⟨M2, g2, st2, r2⟩)
  refine uq (first := [.ref a]) (h₀ := X.base) I.ok.mod.kin hm.kp (EK hxe ha' fun us s2 ⟨vs, H2, I2, rv, M2, g2, st2, r2⟩ => ⟨I2.kIn, ?_⟩) hst hpl
  have sp : spR X.K X.mg np R (.ref a :: vs) H2 (fun _ _ => ur) (fun v od H' => ∃ C, v = .ref C /\ Z C od σ H') :=
    ⟨M2, d1 :: ds, S2, y', S3, by rw [sk, GZ e3]; exact hn, e5, .cons (r1.step g2.st) r2, st2, fun C od H' M' hc g3 st3 => ⟨C, rfl, q C od σ H' M' hc ((g1.trans g2).trans g3) (((r.step g1.st).step g2.st).step g3.st) st3⟩⟩
  have rv2 : Vals (V.ref a :: vs) (si a :: us) := .cons rfl rv
  have hl : (si a :: us ++ []).length = ps.length := by rw [uB, ← rv2.length]; exact Fk.len _ _ _ _ sp
  have hbs := hb s2 (.ref a :: us) I2.kIn hl
  rw [uB] at hbs
  refine wj (wQ (Fk.run X.A X.stack s2 H2 ⟨.ref a :: us, []⟩ (.ref a :: us) (.ref a :: vs) _ _ hr I2.Yi hbs rv2 sp) fun rs s' hq => ?_)
  cases rs with
  | error ev =>
    obtain ⟨e, C, od, H', rfl, os, bare, un, hok, fly, C', hC, z⟩ := hq
    cases hC
    exact ⟨e, C, od, σ, H', rfl, I2.SV os un hok bare (fun b z => nomatch z), z, fly.imp fun b z => EE I2 hx b z⟩
  | ok fl =>
    cases fl with
    | ret u =>
      obtain ⟨v, H', _, _, _, _, _, q⟩ := hq
      exact q.elim
    | next => exact tu hq
    | brk => exact tu hq
    | cont => exact tu hq⟩
noncomputable def Ke(C:Str)(F:Fn)(fs:Wp Ev):Ev:=λE S=>(evs fs E S).bind λr=>(F (.ref r.2.length::r.1) (r.2++[.ins C []])).bind λq=>match q.1 with
 | .non=>Gc (.ref r.2.length,q.2)
 |_=>none
theorem cX(d:MkD X.prog X.w X.K X.mg X.base CX0 C k ps (spD X.K np F))(hr:CZ (k+1) X.A)(hg:Gl X C)(ha:DEs X (e::es) fs)(hn:fs.length+1=np:=by rfl)(hdb:(C==("__debug__":Str))=false:=by decide)(he:sE (e::es) X.env=(false,eval e X.env)::sE es X.env:=by rfl)(hpl:(backTo pos (sE es X.env)).any (·.1)=false:=by rfl):DE X (.Call (.Name C p) (e::es) [] pos) (Ke C F fs):=⟨by
 obtain⟨Ca,f,fd,hmg,hC,hm,hb,Fk⟩:=d.ex
 refine BA (bN hm Fk hr hg hmg hb .nil TU ha.pe hdb he hpl) λσ H Q z=>?_
 obtain⟨M,E,S,d0,S',e0,r,st,q⟩:=z
 obtain⟨⟨ds,S1⟩,e1,e0⟩:=Ak e0
 obtain⟨⟨w,S2⟩,e2,e0⟩:=Ak e0
 refine EU e1 r st λvs H1 M1 g1 st1 r1=>λx dx hx hdx ne=>?_
 dsimp only at e0 e2
 split at e0
 case h_2=>cases e0
 cases e0
 obtain⟨st2,g2⟩:=st1.oG (a:=x) (cl:=.ins C []) (H':=upd (upd H1 dx (.own x)) x (.ins Ca dx [])) hx (λb o eb=>by rw[AU (λz=>by rw[z,hx]at eb;cases eb),AU (λz=>by rw[z,hdx]at eb;cases eb)];exact eb) Ac trivial λM' g=>⟨Ca,dx,[],hC,Ac,by rw[AU ne,Ac],rfl,.nil⟩
 have hi:(⟨M1.cel++[x],M1.tmp⟩:Ms).cel[S1.length]?=Gc x:=by rw[<-st1.len];exact sU
 rw[uB]
 exact⟨_,.ref S1.length::ds,_,_,_,by rw[sk,GZ e1];exact hn,e2,.cons (.ref hi) (r1.step g2.st),st2,λv H' M' g st' r'=>⟨by cases r';rfl,q _ _ M' ((g1.trans g2).trans g) st' (.ref (La g.pre hi))⟩⟩⟩
end
section
variable{X:Cx}{k j np:Nat}{C m:Str}{ps:Wp Str}{F:Fn}{R:Rf}{o e:sW}{es:Wp sW}{fo:Ev}{fs:Wp Ev}{p pos apos:Pos}{pl:Sem sx}
theorem JP (d : MeD X.prog X.w X.K X.mg X.base CX0 C m k ps (spD X.K np F)) (hr : CZ j X.A) (ho : DE X o fo) (ha : DEs X (e :: es) fs) (hk : k ≤ j := by decide) (hn : fs.length + 1 = np := by rfl) (hst : sE (e :: es) X.env = (false, eval e X.env) :: sE es X.env := by rfl) (hpl : (backTo pos (sE es X.env)).any (·.1) = false := by rfl) (ht : eval (.Call (.Attribute o m apos) (e :: es) [] pos) X.env = (do
      let ov ← eval o X.env
      standAt apos.atName
      let (f, first) ← holding [ov] (getMethod ov m pl)
      callWith pos f first (backTo pos (sE (e :: es) X.env)) (backToKw pos (keywordEach [] X.env))) := by rfl) :
    DE X (.Call (.Attribute o m apos) (e :: es) [] pos) (GU C m F fo fs) := aJ (pl := pl) d (hr.mono hk) ho ha hn hst hpl ht
theorem Um (d : MeD X.prog X.w X.K X.mg X.base CX0 C m k ps (spD X.K np F)) (hr : CZ j X.A) (ho : DE X o fo) (hk : k ≤ j := by decide) (hn : 1 = np := by rfl) (ht : eval (.Call (.Attribute o m apos) [] [] pos) X.env = (do
      let ov ← eval o X.env
      standAt apos.atName
      let (f, first) ← holding [ov] (getMethod ov m pl)
      callWith pos f first (backTo pos (sE [] X.env)) (backToKw pos (keywordEach [] X.env))) := by rfl) :
    DE X (.Call (.Attribute o m apos) [] [] pos) (GU C m F fo []) := WK (pl := pl) d (hr.mono hk) ho hn ht
theorem Qt (d : MeD X.prog X.w X.K X.mg X.base (CXr X.prog X.w) C m k ps (spR X.K X.mg np R)) (hr : CZ j X.A) (ho : DE X o fo) (ha : DEs X (e :: es) fs) (hk : k ≤ j := by decide) (hn : fs.length + 1 = np := by rfl) (hxe : X.xe = fun _ _ => ur := by rfl) (hx : X.ex = [] := by rfl) (hst : sE (e :: es) X.env = (false, eval e X.env) :: sE es X.env := by rfl) (hpl : (backTo pos (sE es X.env)).any (·.1) = false := by rfl) (ht : eval (.Call (.Attribute o m apos) (e :: es) [] pos) X.env = (do
      let ov ← eval o X.env
      standAt apos.atName
      let (f, first) ← holding [ov] (getMethod ov m pl)
      callWith pos f first (backTo pos (sE (e :: es) X.env)) (backToKw pos (keywordEach [] X.env))) := by rfl) :
    RE X (.Call (.Attribute o m apos) (e :: es) [] pos) (Nu C m R fo fs) := cJ (pl := pl) d (hr.mono hk) ho ha hn hxe hx hst hpl ht
theorem Qw(d:MkD X.prog X.w X.K X.mg X.base CX0 C k ps (spD X.K np F))(hr:CZ j X.A)(hg:Gl X C)(ha:DEs X (e::es) fs)(hk:k+1<=j:=by decide)(hn:fs.length+1=np:=by rfl)(hdb:(C==("__debug__":Str))=false:=by decide)(he:sE (e::es) X.env=(false,eval e X.env)::sE es X.env:=by rfl)(hpl:(backTo pos (sE es X.env)).any (·.1)=false:=by rfl):DE X (.Call (.Name C p) (e::es) [] pos) (Ke C F fs):=cX d (hr.mono hk) hg ha hn hdb he hpl
end
theorem nE{P:sf}{w:tU}{K:W1}{mg:Str->rW rS}{base:tT}{C q:Str}{st:tE}{N ps:Wp Str}(k:Nat){np:Nat}{b:Ex}(S:MkS K mg C q st)(sc:Ar N ps (AD st))(hb:∀{f:rY} {cdv:rS} {A:tN} {outer:Wp uM} {s:rX} {H:Hp} {E:XK},N.Nodup->CZ k (A.deeper (sR q (AD st) s.heap.objs.size f cdv))->(A.deeper (sR q (AD st) s.heap.objs.size f cdv)).units+100<cLine->DSs (Hw CX0 P w K mg base N q (AD st) f cdv A outer s H E).nox (A3 st) b)(hp:ps.length=np:=by rfl)(hbi:BnQ "__init__" q st ps:=by exact λ_ _ _ _ _ _ _=>rfl):MkD P w K mg base CX0 C (k+1) ps (spD K np (AW (Af N.length b))):=by
 obtain⟨Ca,f,fd,h1,h2,h3,Fu⟩:=S.ex
 exact⟨Ca,f,fd,h1,h2,h3,bnQ Fu hbi,Y6 Fu sc hp λcdv A outer s H E hr=>hb sc.nd hr (II hr)⟩
section
variable{K:W1}{C m q:Str}{Ca f:rY}{fs:Wp Str}{st:tE}{oc:rS}{od an:rW rY}{osl:uE (rW rS)}{kV doc pm cdv ct:rS}
theorem iN:∀z∈([]:Wp Str),He K Ca z:=λ_ z=>nomatch z
theorem Tp{x:Str}(h:uH K (.ref Ca) x=Gc none)(t:∀z∈fs,He K Ca z):∀z∈x::fs,He K Ca z:=λz m=>by
 rcases rZ.mp m with e|m
 .rw[e];exact h
 .exact t z m
theorem fS(a:tS K mainGlobals C=Gc (Gc (.ref Ca)))(b1:wN K Ca Str.empty=true)(b2:xC K Ca=true)(b3:ya K Ca=true)(b4:uH K (.ref Ca) "__setattr__"=Gc (Gc (.builtin "object.__setattr__")))(n:∀z∈fs,He K Ca z):ClD K C fs:=⟨Ca,a,⟨b1,b2,b3,b4⟩,n⟩
theorem QS(c:ClD K C fs)(a:tS K mainGlobals C=Gc (Gc (.ref Ca)))(m1:uH K (.ref Ca) m=Gc (Gc (.ref f)))(m2:xw K (.ref f)=true)(l:K.lookup f=Gc ⟨oc,od,.func (vG m q (Gp st) (A3 st) (AD st) .none kV doc pm an cdv ct),osl⟩)(cd:wH K cdv q=true)(k:uL K (.ref f)=true):MeS K C m q st:=by
 obtain⟨Ca',h,cl,_⟩:=c.ex
 cases a.symm.trans h
 exact⟨Ca,f,_,a,cl,⟨m1,m2,k⟩,U0 l cd k⟩
theorem fJ{h:tT}{mg:Str->rW rS}(X:K.In h)(G:h.Ns mainGlobals mg)(a:tS K mainGlobals C=Gc (Gc (.ref Ca)))(m0:zG K Ca=true)(m1:uH K (.ref Ca) "__init__"=Gc (Gc (.ref f)))(m2:xw K (.ref f)=true)(m3:uL K (.ref Ca)=true)(l:K.lookup f=Gc ⟨oc,od,.func (vG "__init__" q (Gp st) (A3 st) (AD st) .none kV doc pm an cdv ct),osl⟩)(cd:wH K cdv q=true)(k:uL K (.ref f)=true):MkS K mg C q st:=
 ⟨Ca,f,_,vI X G a,a,⟨m0,m1,m2,m3⟩,U0 l cd k⟩
end
theorem YB{X:Cx}{a b:sW}{ta:TE}{tr:TR}{k:Nat}{pos:Pos}(ha:PE X a ta)(hb:PXe X b tr)(hxe:X.xe=λ_ _=>ur)(hs:sE [a,b] X.env=[(false,eval a X.env),(false,eval b X.env)]):PXe X (.Tuple [a,b] k pos) (λσ H Z=>ta σ H λ_ H1=>tr σ H1 Z):=by
 intro pins s σ H Z I h
 refine zt ?_
 rw[hs]
 show wpAny _ _ (spliced ((false,eval a X.env)::backTo pos [(false,eval b X.env)])) _ _ s
 refine wO (EK hxe (ha pins s σ H _ I h) λu s1 z=>?_)
 obtain⟨x,H1,I1,r1,q1⟩:=z
 exact wO (ub (hb pins s1 σ H1 Z I1 q1) (λ_ _ z=>z.elim) λ_ _ z=>z)
noncomputable def MX(p wd:Str)(ck tk:Nat)(np cp ep kp tp rp:Pos)(h₀:uz)(hs:Wp uz):Wp tE:=[.Try [.Return (Gc (.Tuple [.Constant (.str wd) ck kp,.Call (.Name p np) [] [] cp] tk ep)) rp] (h₀::hs) [] [] tp]
noncomputable def LJ(wd:Str)(x:Str)(IE:Wp Nat)(F:Ev)(R:Rx)(n:Nat)(h:Tg->Ex):Ev:=λE S=>
 if S.any (Lp x)=true then
  match F (Py IE E) S with
  |some q=>Gc ((.tup [.str wd,q.1]),q.2)
  |none=>(R (Py IE E) S).bind λq=>(h q.1 (none::sH n none) q.2.2).bind λz=>match z.1 with| .ret d=>Gc (d,z.2.2)| .nx=>none
 else none
theorem TK{X:Cx}{pins:Wp (rY×Obj)}{σ:Sg}{H:Hp}{s:rX}{k:Nat}{fg f:rY}{fd:uf}{g p x:Str}{st:tE}{body:sW}{sc:uT}{clos:Wp (Str×rY)}{N':Wp Str}{σc:Sg}{Q:VK}{np cp ep kp tp rp:Pos}{rs:Wp Str}{wd:Str}{ck tk:Nat}{h₀:uz}{hs:Wp uz}{hd:Tg->Ex}{F:Ev}{R:Rx}(I:Inv X pins σ H s)(Fu:Fun X.K g g st fg fd)(S:Ar (p::rs) [p] (AD st))(Bi:Binds X.K fd [p] [])(hr:CZ (k+3) X.A)(L:ME H s.heap x body sc clos N' σc f)(eb:A3 st=MX p wd ck tk np cp ep kp tp rp h₀ hs)(hv:Vis (AD st) p)(hd1:(p==("__debug__":Str))=false)(hd2:(p==("__classdict__":Str))=false)(hb:∀(c':rY) (A:tN) (outer:Wp uM) (s:rX) (H:Hp),CZ k (A.deeper (vJ (K0 x) sc s.heap.objs.size f (.ref c') clos))->DE (Ly X.prog X.w X.K X.mg X.base N' x sc clos f c' A outer s H) body F)(hx:∀(c':rY) (A:tN) (outer:Wp uM) (s:rX) (H:Hp),CZ k (A.deeper (vJ (K0 x) sc s.heap.objs.size f (.ref c') clos))->RE (Ly X.prog X.w X.K X.mg X.base N' x sc clos f c' A outer s H) body R)(hh:∀(cdv:rS) (A:tN) (outer:Wp uM) (s:rX) (H:Hp),HS (Hw CX0 X.prog X.w X.K X.mg X.base (p::rs) g (AD st) fg cdv A outer s H E0).nox (h₀::hs) hd)(h:∃M E S,EnR X.K M E σc H/\StR X.K M S H/\((∃d S',F E S=Gc (d,S')/\∀v H' M',Gr M H M' H'->StR X.K M' S' H'->BX X.K M' H' v (.tup [.str wd,d])->Q v H')\/∃y E' S' d E2 S2,R E S=Gc (y,E',S')/\hd y (none::sH rs.length none) S'=Gc (.ret d,E2,S2)/\∀v H' M',Gr M H M' H'->StR X.K M' S2 H'->BX X.K M' H' v d->Q v H')):wpAny (model X.prog X.w) X.A (call (.ref fg) [.ref f]) (EP X pins σ Q) X.xe s:=by
 refine dR (k:=k+2) (vs:=[.ref f]) Fu S Bi hr I (.cons rfl .nil) rfl λcdv hrg=>?_
 have hrl:CZ (k+1) (X.A.deeper (sR g (AD st) s.heap.objs.size fg cdv)):=hrg.mono (by lia)
 let Xg:=(Hw CX0 X.prog X.w X.K X.mg X.base (p::rs) g (AD st) fg cdv X.A X.stack s H E0).nox
 have p1:=Wj (X:=Xg) (t:=tD X.K F) (i:=0) (y:=p) (p:=np) (pos:=cp) hrl rfl L (λc' s H z=>(hb c' Xg.A Xg.stack s H z).pe) rfl hv hd1 hd2
 have p2:=Wx (X:=Xg) (t:=tR X.K X.mg R) (i:=0) (y:=p) (p:=np) (pos:=cp) hrl rfl L (λc' s H z=>(hx c' Xg.A Xg.stack s H z).pe) rfl hv rfl hd1 hd2
 have hst:sE [.Constant (.str wd) ck kp,.Call (.Name p np) [] [] cp] Xg.env=[(false,eval (.Constant (.str wd) ck kp) Xg.env),(false,eval (.Call (.Name p np) [] [] cp) Xg.env)]:=rfl
 have q1:PSs Xg [.Return (Gc (.Tuple [.Constant (.str wd) ck kp,.Call (.Name p np) [] [] cp] tk ep)) rp] _:=Nh (SW (Yx (J3 Uq (J3 p1 Q5 rfl) rfl)))
 have qx:=YB (pos:=ep) (k:=tk) (Uq (X:=Xg) (x:=wd) (j:=ck) (pos:=kp)) p2 rfl hst
 have q2:PXs Xg [.Return (Gc (.Tuple [.Constant (.str wd) ck kp,.Call (.Name p np) [] [] cp] tk ep)) rp] (λσ H Z=>σ[0]?=Gc (Gc (.ref f))/\tR X.K X.mg R σc H λC od _ H'=>Z C od σ H'):=λpins s σ H Z I q=>
  vp (yZ (ub (qx pins s σ H Z I q) (λ_ _ z=>z.elim) λ_ _ z=>z))
 have q3:=Nh (bT (pos:=tp) q1 q2 (hh cdv X.A X.stack s H) rfl rfl rfl rfl)
 refine⟨_,by rw[eb];exact q3,?_⟩
 obtain⟨M,E,S0,r,sr,w⟩:=h
 rcases w with⟨d,S',e,q⟩|⟨y,E',S',d,E2,S2,e,e2,q⟩
 .refine .inl ⟨rfl,M,E,S0,d,S',e,r,sr,λv H' M' gr st' rd=>⟨by rw[zW];simp,λl hl=>?_⟩⟩
  have g2:=FR (o:=HO.tup [V.str wd,v]) hl
  exact q _ _ M' (gr.trans (.grow st'.mo g2)) (st'.grow g2) (.tup (.of Ac) (.cons (.str wd) (.cons (rd.step (Gr.grow st'.mo g2).st) .nil)))
 .refine .inr ⟨y,rfl,M,E,S0,y,E',S',e,r,sr,λC od σ' H' M' hm gr er st'=>⟨hm,?_⟩⟩
  refine⟨M',_,S',.ret d,E2,S2,e2,?_,st',λv2 H2 M2 g2 st2 r2=>q v2 H2 M2 (gr.trans g2) st2 r2⟩
  exact⟨by simp[L2.start],λi d e=>by rw[<-uh,wu]at e;split at e<;>cases e⟩
theorem QK{X:Cx}{k:Nat}{g p x:Str}{st:tE}{body:sW}{sc:uT}{params:yD}{N':Wp Str}{IE:Wp Nat}{gp pl pos np cp ep kp tp rp:Pos}{h₀:uz}{hs:Wp uz}{hd:Tg->Ex}{F:Ev}{R:Rx}{rs:Wp Str}{wd:Str}{ck tk:Nat}(G:St.Src X.K X.mg g st)(S:Ar (p::rs) [p] (AD st))(LS:Hm X.N X.env.scope N' IE sc)(ci:Uj X x)(bm:BmB X.mg X.base)(hr:CZ (k+3) X.A)(hg:Gl X g)(hb:∀(f c':rY) (clos:Wp (Str×rY)) (A:tN) (outer:Wp uM) (s:rX) (H:Hp),CZ k (A.deeper (vJ (K0 x) sc s.heap.objs.size f (.ref c') clos))->DE (Ly X.prog X.w X.K X.mg X.base N' x sc clos f c' A outer s H) body F)(hx:∀(f c':rY) (clos:Wp (Str×rY)) (A:tN) (outer:Wp uM) (s:rX) (H:Hp),CZ k (A.deeper (vJ (K0 x) sc s.heap.objs.size f (.ref c') clos))->RE (Ly X.prog X.w X.K X.mg X.base N' x sc clos f c' A outer s H) body R)(hh:∀(fg:rY) (cdv:rS) (A:tN) (outer:Wp uM) (s:rX) (H:Hp),HS (Hw CX0 X.prog X.w X.K X.mg X.base (p::rs) g (AD st) fg cdv A outer s H E0).nox (h₀::hs) hd)(eb:A3 st=MX p wd ck tk np cp ep kp tp rp h₀ hs:=by rfl)(hv:Vis (AD st) p:=by first|exact Or.inl rfl|exact Or.inr (Or.inl rfl))(hqual:X.env.qual=x++(".<locals>.":Str):=by rfl)(hdf:defaultsOf params X.env=([],[]):=by rfl)(hp:∀clos pm c' ctv,bindArgs (xN "<lambda>" (K0 x) params body sc clos pm (.ref c') ctv) ⟨[],[]⟩=pure []:=by intro _ _ _ _;rfl)(hbi:BnR g st [p]:=by exact λ_ _ _ _ _ _ _=>rfl)(hdb:(g==("__debug__":Str))=false:=by decide)(hd1:(p==("__debug__":Str))=false:=by decide)(hd2:(p==("__classdict__":Str))=false:=by decide)(he:sE [Expr.Lambda params body sc pl] X.env=[(false,eval (.Lambda params body sc pl) X.env)]:=by rfl):DE X (.Call (.Name g gp) [.Lambda params body sc pl] [] pos) (LJ wd x IE F R rs.length hd):=⟨by
 intro pins s σ H Q I h
 obtain⟨M,E,S0,d,S',e,r,sr,q⟩:=h
 unfold LJ at e
 split at e
 case isFalse=>cases e
 rename_i hany
 obtain⟨n,hn⟩:=Uc hany
 obtain⟨P,hc,ps,hP,tok⟩:=sr.at hn
 obtain⟨c,hcode,hcd⟩:=ci P tok.tat I.ok.mod.kin I.ok.mod.glob
 obtain⟨fg,fd,Fu,hm⟩:=G.ex
 have hcl:∀y∈sc.names,y.2=.free->∃a,X.env.cells.lookup y.1=Gc a:=λy hy hf=>I.ok.has y.1 (.inl (LS.free y hy hf))
 refine uR (IX I hg hm ?_ hdb)
 refine uq (h₀:=X.base) I.ok.mod.kin Fu.kp ?_ he rfl
 rw[he]
 show wpAny _ _ (spliced ((false,eval (.Lambda params body sc pl) X.env)::backTo pos [])) _ _ s
 refine wO (XH I hqual hdf (NO hcl) hcode hcd bm hP tok λf H' s1 mk=>?_)
 refine zX ⟨mk.inv.kIn,?_⟩
 obtain⟨sr1,g1⟩:=gS sr hc hn mk
 have L:=eQ LS mk λpm c' ctv=>hp _ pm c' ctv
 refine TK mk.inv Fu S (bnR Fu hbi) hr L eb hv hd1 hd2 (λc'=>hb f c' _) (λc'=>hx f c' _) (hh fg) ⟨M,Py IE E,S0,(r.step g1.st).RG IE,sr1,?_⟩
 split at e
 .rename_i w ew
  cases e
  exact .inl ⟨w.1,w.2,ew,λv H2 M2 g2 st2 rd=>q v H2 M2 (g1.trans g2) st2 rd⟩
 .obtain⟨⟨y,E',S1⟩,e1,e⟩:=Ak e
  obtain⟨⟨fl,E2,S2⟩,e2,e⟩:=Ak e
  cases fl with
  |nx=>cases e
  |ret w=>
   cases e
   exact .inr ⟨y,E',S1,_,E2,S2,e1,e2,λv H2 M2 g2 st2 rd=>q v H2 M2 (g1.trans g2) st2 rd⟩⟩
section
variable{P:sf}{w:tU}{K:W1}{mg:Str->rW rS}{base:tT}
theorem fc{C q:Str}{st:tE}{N ps:Wp Str}(k:Nat){np:Nat}{r:Rx}(S:MkS K mg C q st)(sc:Ar N ps (AD st))(hb:∀{f:rY} {cdv:rS} {A:tN} {outer:Wp uM} {s:rX} {H:Hp} {E:XK},N.Nodup->CZ k (A.deeper (sR q (AD st) s.heap.objs.size f cdv))->(A.deeper (sR q (AD st) s.heap.objs.size f cdv)).units+100<cLine->RSs (Hw CX0 P w K mg base N q (AD st) f cdv A outer s H E).nox (A3 st) r)(hp:ps.length=np:=by rfl)(hbi:BnQ "__init__" q st ps:=by exact λ_ _ _ _ _ _ _=>rfl):MkD P w K mg base (CXr P w) C (k+1) ps (spR K mg np (AW (Iy N.length r))):=by
 obtain⟨Ca,f,fd,h1,h2,h3,Fu⟩:=S.ex
 exact⟨Ca,f,fd,h1,h2,h3,bnQ Fu hbi,U4 Fu sc hp λcdv A outer s H E hr=>hb sc.nd hr (II hr)⟩
end
noncomputable def Ri(C:Str)(R:Rf)(fs:Wp Ev):Rx:=λE S=>(evs fs E S).bind λr=>(R (.ref r.2.length::r.1) (r.2++[.ins C []])).map λz=>(z.1,E,z.2)
section
variable{X:Cx}{k j np:Nat}{C m:Str}{ps:Wp Str}{R:Rf}{o e:sW}{es:Wp sW}{fo:Ev}{fs:Wp Ev}{p pos apos:Pos}{pl:Sem sx}
theorem Xm(d:MkD X.prog X.w X.K X.mg X.base (CXr X.prog X.w) C k ps (spR X.K X.mg np R))(hj:CZ j X.A)(hg:Gl X C)(ha:DEs X (e::es) fs)(hk:k+1<=j:=by decide)(hn:fs.length+1=np:=by rfl)(hxe:X.xe=λ_ _=>ur:=by rfl)(hx:X.ex=[]:=by rfl)(hdb:(C==("__debug__":Str))=false:=by decide)(he:sE (e::es) X.env=(false,eval e X.env)::sE es X.env:=by rfl)(hpl:(backTo pos (sE es X.env)).any (·.1)=false:=by rfl):RE X (.Call (.Name C p) (e::es) [] pos) (Ri C R fs):=⟨by
 intro pins s σ H Z I h
 have hr:CZ (k+1) X.A:=hj.mono hk
 obtain⟨Ca,f,fd,hmg,hC,hm,hb,Fk⟩:=d.ex
 obtain⟨M,E,S,y,E',S',e0,r,st,q⟩:=h
 obtain⟨⟨ds,S1⟩,e1,e2⟩:=Ak e0
 obtain⟨⟨y',S2⟩,e3,e4⟩:=Hu e2
 cases e4
 refine uR (IX I hg hmg ?_ hdb)
 have ha':=ha.pe pos pins s σ H (λvs H1=>∃M1,Gr M H M1 H1/\StR X.K M1 S1 H1/\Ae X.K M1 H1 vs ds) I (EU e1 r st λvs H1 M1 g1 st1 r1=>⟨M1,g1,st1,r1⟩)
 refine uq (h₀:=X.base) I.ok.mod.kin hm.kp (EK hxe ha' λus s1 ⟨vs,H1,I1,rv,M1,g1,st1,r1⟩=>⟨I1.kIn,?_⟩) he hpl
 have hx1:H1 (s1.heap.objs.size+1)=none:=I1.hok.fresh (Nat.le_succ _)
 have hdx:H1 s1.heap.objs.size=none:=I1.hok.fresh (sD _)
 have ne:s1.heap.objs.size≠s1.heap.objs.size+1:=tJ (xS _)
 have I2:=Inv.made (C:=Ca) I1
 obtain⟨st2,g2⟩:=st1.oG (a:=s1.heap.objs.size+1) (cl:=.ins C []) (H':=upd (upd H1 s1.heap.objs.size (.own (s1.heap.objs.size+1))) (s1.heap.objs.size+1) (.ins Ca s1.heap.objs.size [])) hx1 (λb o eb=>by rw[AU (λz=>by rw[z,hx1]at eb;cases eb),AU (λz=>by rw[z,hdx]at eb;cases eb)];exact eb) Ac trivial λM' g=>⟨Ca,s1.heap.objs.size,[],hC,Ac,by rw[AU ne,Ac],rfl,.nil⟩
 have hi:(⟨M1.cel++[s1.heap.objs.size+1],M1.tmp⟩:Ms).cel[S1.length]?=Gc (s1.heap.objs.size+1):=by rw[<-st1.len];exact sU
 have sp:spR X.K X.mg np R (.ref (s1.heap.objs.size+1)::vs) _ (λ_ _=>ur) (λv od H'=>∃C,v=.ref C/\Z C od σ H'):=
  ⟨_,.ref S1.length::ds,_,y',S2,by rw[sk,GZ e1];exact hn,e3,.cons (.ref hi) (r1.step g2.st),st2,λC od H' M' hc g3 st3=>⟨C,rfl,q C od σ H' M' hc ((g1.trans g2).trans g3) (((r.step g1.st).step g2.st).step g3.st) st3⟩⟩
 have rv2:Vals (V.ref (s1.heap.objs.size+1)::vs) (si (s1.heap.objs.size+1)::us):=.cons rfl rv
 have hl:(si (s1.heap.objs.size+1)::us++[]).length=ps.length:=by rw[uB,<-rv2.length];exact Fk.len _ _ _ _ sp
 have hbs:=hb _ (si (s1.heap.objs.size+1)::us) I2.kIn hl
 rw[uB]at hbs
 refine wj (RF (f:=f) I1.kIn hm.makes hm.init (vC.mp hm.fn) (wQ (Fk.run _ X.stack _ _ ⟨si (s1.heap.objs.size+1)::us,[]⟩ (si (s1.heap.objs.size+1)::us) (V.ref (s1.heap.objs.size+1)::vs) _ _ (hr.make Ca us []) (I2.Yi.make Ca us []) hbs rv2 sp) λrs s' hq=>?_))
 cases rs with
 |error ev=>
  obtain⟨e,C,od,H',rfl,os,bare,un,hok,fly,C',hC,z⟩:=hq
  cases hC
  exact⟨e,C,od,σ,H',rfl,I2.SV os un hok bare (λb z=>nomatch z),z,fly.imp λb z=>EE I2 hx b z⟩
 |ok fl=>
  cases fl with
  |ret u=>
   obtain⟨v,H',_,_,_,_,_,q⟩:=hq
   exact q.elim
  |next=>exact tu hq
  |brk=>exact tu hq
  |cont=>exact tu hq⟩
end
theorem Pu{X:Cx}{xs:Wp Str}{y:Str}{nme:rW Str}{suite:Wp tE}{g:Tg->Ex}{np pos:Pos}{rest:Wp uz}(xm:XmD X.K X.mg xs y)(hg:Gl X y)(hr:HS X rest g)(hdb:(y==("__debug__":Str))=false:=by decide):HS X (.ExceptHandler (Gc (.Name y np)) nme suite pos::rest) (gOr xs y B0 g):=⟨by
 intro x C od pins s σ H D e tg I fl z
 have hm:=tg.1
 obtain⟨C',hm',hex⟩:=xm.ex
 have no:¬tX X.K B0 D σ H:=λ⟨_,_,_,_,_,_,e,_,_,_⟩=>nomatch e
 unfold gOr at z
 by_cases hin:x.nm∈xs
 .rw[sZ hin]at z
  by_cases hb:(x.nm==y)=true
  .rw[sZ hb]at z;exact absurd z no
  .rw[sg hb]at z
   have ex:=hex x.nm hin C hm
   obtain⟨oe,vs,a0,T,oT,ts,h1,h2,_⟩:=id fl.ex
   have LT:PySem.W.Looks (model X.prog X.w) s.heap (typeOf (.ref e)) (.ref C):=by
    rw[<-h2];exact(PySem.W.Looks.ld h1).andThen .now
   refine z5 (zS (vS I.ok.kind hg (wq (by rw[I.ok.glob];exact I.mod.glob.keeps I.bk) hm' ?_) hdb)) (by intro q;cases q)
   refine PySem.W.exm_one I.kIn LT ex _ _ _ _ (λ_ _ q=>q) ?_
   rw[show(x.nm==y)=false by simpa using hb]
   exact hr.pe x C od pins s σ H D e tg I fl z
 .rw[sg hin]at z;exact absurd z no⟩
section
open PyProof.Rows (boot_isinstance boot_int boot_bool boot_tuple boot_str boot_list boot_abs boot_all boot_any boot_sum boot_max boot_min boot_range boot_enumerate boot_zip boot_sorted boot_set boot_divmod)
noncomputable def Hc:D:=.tup [.int 0,.int 1]
noncomputable def N9:D:=.tup [.int 1,.int 1]
noncomputable def Cy:D:=.tup [.str "bring",.str "pool",.str "swap",.str "trade"]
def Fj:Ex:=(Ah (D2 (eOp (o2 Lc) [eV 0,eC (.ty "int")]) (Di (eOp (o2 Lc) [eV 0,eC (.ty "bool")]))))
def CD:Fn:=AW (Af 1 Fj)
def Gf:Ex:=(Ah (D2 (AF CD [eV 0]) (eOp (o2 wGe) [eV 0,eV 1])))
def Bm:Fn:=AW (Af 2 Gf)
def DR:Ex:=(Ah (D2 (AF Bm [eV 0,eV 1]) (eOp (o2 wLe) [eV 0,eV 2])))
def AQ:Fn:=AW (Af 3 DR)
def EN:Ex:=(AV (SO 0 1 (eOp (o1 cm) [eV 0]) (eOp (o1 cm) [eV 1]))
    (AV (OI (Vp 1) (eOp (o2 wNe) [eV 1,eI 0]) (SO 0 1 (eV 1) (eOp (o2 PQ) [eV 0,eV 1])))
    (Ah (eV 0))))
def BV:Fn:=AW (Af 2 EN)
def MO:Ex:=(AV (Bs 2 (AF BV [eV 0,eV 1]))
    (Ah (Az [eOp (o2 NC) [eV 0,eV 2],eOp (o2 NC) [eV 1,eV 2]])))
def Hj:Fn:=AW (Af 3 MO)
def NX:Ex:=(Ah (AF Hj [eOp (o2 CP) [eOp (o2 Dx) [eIx (eV 0) (eI 0),eIx (eV 1) (eI 1)],eOp (o2 Dx) [eIx (eV 1) (eI 0),eIx (eV 0) (eI 1)]],eOp (o2 Dx) [eIx (eV 0) (eI 1),eIx (eV 1) (eI 1)]]))
def Fb:Fn:=AW (Af 2 NX)
def Fw:Ex:=(Ah (D2 (eOp (o2 wLt) [eV 1,eOp (o1 F2) [eV 0]]) (eOp (o2 wGe) [eIx (eIx (eV 0) (eV 1)) (eI 1),eV 2])))
def Be:Fn:=AW (Af 3 Fw)
def Ff:Ex:=(Ah (D2 (AF Be [eV 0,eV 1,eI 1]) (D2 (AF Be [eV 0,eV 2,eI 1]) (eOp (o2 wEq) [eIx (eIx (eV 0) (eV 1)) (eI 0),eIx (eIx (eV 0) (eV 2)) (eI 0)]))))
def DF:Fn:=AW (Af 3 Ff)
def HC:Ex:=(Ah (D2 (AF Be [eV 0,eV 1,eV 2]) (eOp (o2 wNe) [eIx (eIx (eV 0) (eV 1)) (eI 0),eV 3])))
def DM:Fn:=AW (Af 4 HC)
def DK:Ex:=(AV (Bs 3 (eIx (eV 2) (eI 0)))
    (AV (xIf (eOp (o2 wEq) [eV 3,eC (.str "pool")]) (Ah (AF DF [eV 0,eIx (eV 2) (eI 1),eIx (eV 2) (eI 2)])) Bo)
    (AV (xIf (eOp (o2 wEq) [eV 3,eC (.str "swap")]) (Ah (AF DM [eV 0,eIx (eV 2) (eI 1),eIx (eV 2) (eI 2),eIx (eV 2) (eI 3)])) Bo)
    (AV (xIf (eOp (o2 wEq) [eV 3,eC (.str "trade")]) (AV (Bs 4 (EA [] 1 (IH (eV 1)) (tNm 0) (eOp (o2 wEq) [eIx (eV 0) (eI 0),eC (.str "trade")]) (eIx (eV 0) (eI 1))))
    (Ah (D2 (eOp (o2 (wIn true)) [eIx (eV 2) (eI 1),eV 4]) (AF DM [eV 0,eIx (eV 2) (eI 2),eIx (eV 2) (eI 3),eIx (eV 2) (eI 4)])))) Bo)
    (AV (xIf (eOp (o2 (wIn false)) [eV 3,Az [eC (.str "spoil"),eC (.str "throw")]]) (Ah (AF Be [eV 0,eIx (eV 2) (eI 1),eIx (eV 2) (eI 2)])) Bo)
    (Ah (eC (.bl true))))))))
def B4:Fn:=AW (Af 5 DK)
def Gy:Ex:=(AV (Mj (tTp [tNm 3,tNm 4]) (eIx (eV 0) (eV 1)))
    (Ah (eOp (o2 CP) [eOp (o2 CP) [eOp (JZ false true) [eV 0,eV 1],G3 [Az [eV 3,eOp (o2 NQ) [eV 4,eV 2]]]],eOp (JZ true false) [eV 0,eOp (o2 CP) [eV 1,eI 1]]])))
def BS:Fn:=AW (Af 5 Gy)
def BM:Ex:=(AV (Bs 2 (eIx (eV 1) (eI 0)))
    (AV (xIf (eOp (o2 wEq) [eV 2,eC (.str "bring")]) (Ah (eOp (o2 CP) [eV 0,G3 [Az [eIx (eV 1) (eI 2),eIx (eV 1) (eI 3)]]])) Bo)
    (AV (xIf (eOp (o2 wEq) [eV 2,eC (.str "pool")]) (AV (Mj (tTp [tNm 3,tNm 4]) (eIx (eV 0) (eIx (eV 1) (eI 1))))
    (AV (Bs 5 (eIx (eIx (eV 0) (eIx (eV 1) (eI 2))) (eI 1)))
    (Ah (eOp (o2 CP) [AF BS [AF BS [eV 0,eIx (eV 1) (eI 1),eV 4],eIx (eV 1) (eI 2),eV 5],G3 [Az [eV 3,eOp (o2 CP) [eV 4,eV 5]]]])))) Bo)
    (AV (xIf (eOp (o2 (wIn false)) [eV 2,Az [eC (.str "swap"),eC (.str "trade")]]) (AV (Mj (tTp [tNm 6,tNm 7,tNm 3,tNm 8]) (eOp (JZ true false) [eV 1,eOp (o1 NA) [eI 4]]))
    (Ah (eOp (o2 CP) [AF BS [eV 0,eV 6,eV 7],G3 [Az [eV 3,eV 8]]]))) Bo)
    (AV (xIf (eOp (o2 (wIn false)) [eV 2,Az [eC (.str "spoil"),eC (.str "throw")]]) (Ah (AF BS [eV 0,eIx (eV 1) (eI 1),eIx (eV 1) (eI 2)])) Bo)
    (Ah (eV 0)))))))
def As:Fn:=AW (Af 9 BM)
def F6:Ex:=(Ah (EA [] 1 (IH (eIx (eV 0) (eI 1))) (tNm 0) C1 (Az [eIx (eV 0) (eI 0),eIx (eV 0) (eI 1)])))
def Cm:Fn:=AW (Af 1 F6)
def Hf:Ex:=(AV (Bs 1 (AF Cm [eV 0]))
    (AV (Bs 2 (eIx (eV 0) (eI 2)))
    (AV (Lw (Z0 (eV 2)) (tTp [tNm 3,tNm 4]) (AV (xIf (Di (AF B4 [eV 1,eOp (JZ false true) [eV 2,eV 3],eV 4])) (Ah (eV 3)) Bo)
    (Bs 1 (AF As [eV 1,eV 4]))))
    (Ah (eC .non)))))
def DU:Fn:=AW (Af 5 Hf)
def F8:Ex:=(AV (Bs 1 (AF DU [eV 0]))
    (xIf (eOp (o2 (jG true)) [eV 1,eC .non]) B0 Bo))
def Al:Fn:=AW (Af 2 F8)
def EO:Ex:=(xIf (Di (AF AQ [eV 1,eI 0,eOp (o1 F2) [eIx (eV 0) (eI 2)]])) B0 Bo)
def BW:Fn:=AW (Af 2 EO)
def Gk:Ex:=(AV (xIf (eOp (o2 wLt) [eV 1,eOp (o1 F2) [eV 0]]) (Ah (eIx (eV 0) (eV 1))) Bo)
    (Ah (eI 0)))
def Cj:Fn:=AW (Af 2 Gk)
def O9:Ex:=(Ah (Jd [eV 0,eOp (o1 WV) [eOp (o2 wGe) [eV 0,eOp (o2 Vv) [eI 10,eI 18]]],eI 0,eOp (o2 PQ) [eV 0,eI 1000000007]]))
def HN:Fn:=AW (Af 1 O9)
def Hi:Ex:=(AV (xIf (D2 (eOp (o2 wEq) [eIx (eV 0) (eI 1),eI 1]) (eOp (o2 wGt) [eIx (eV 0) (eI 0),eI 0])) (AV (Bs 2 (eOp (o2 PQ) [eIx (eV 0) (eI 0),eV 1]))
    (AV (N0 (eOp (o2 NC) [eIx (eV 0) (eI 0),eV 1]) (eV 0) (eI 0))
    (Ah (eV 2)))) Bo)
    (AV (N0 (eOp (o2 CP) [eIx (eV 0) (eI 2),eI 1]) (eV 0) (eI 2))
    (AV (Bs 3 (eOp (o2 PQ) [eOp (o2 Dx) [eOp (o2 CP) [eIx (eV 0) (eI 3),eI 17],eOp (o2 CP) [eI 69621,eOp (o2 Dx) [eI 2,eIx (eV 0) (eI 2)]]],eI 2147483647]))
    (AV (Bs 3 (eOp (o2 PQ) [eOp (o2 CP) [eOp (o2 CP) [eOp (o2 Dx) [eV 3,eV 3],eOp (o2 Dx) [eI 40503,eIx (eV 0) (eI 2)]],eI 5],eI 2147483629]))
    (Ah (eOp (o2 PQ) [eOp (o2 NC) [eOp (o2 PQ) [eOp (o2 Dx) [eV 3,eI 48271],eI 2147483647],eI 32],eV 1]))))))
def AG:Fn:=AW (Af 4 Hi)
def KD:Ex:=(AV (OI (Vp 1) (eOp (o2 wGt) [eV 1,eI 0]) (SO 0 1 (eV 1) (eOp (o2 PQ) [eV 0,eV 1])))
    (Ah (eV 0)))
def FV:Fn:=AW (Af 2 KD)
def MZ:Ex:=(AV (Bs 2 (AF FV [eOp (o1 cm) [eV 0],eV 1]))
    (Ah (Az [eOp (o2 NC) [eV 0,eV 2],eOp (o2 NC) [eV 1,eV 2]])))
def Bh:Fn:=AW (Af 3 MZ)
def Md:Ex:=(Ah (AF Bh [eOp (o2 CP) [eOp (o2 Dx) [eIx (eV 0) (eI 0),eIx (eV 1) (eI 1)],eOp (o2 Dx) [eIx (eV 1) (eI 0),eIx (eV 0) (eI 1)]],eOp (o2 Dx) [eIx (eV 0) (eI 1),eIx (eV 1) (eI 1)]]))
def B5:Fn:=AW (Af 2 Md)
def K9:Ex:=(Ah (AF Bh [eOp (o2 Dx) [eIx (eV 0) (eI 0),eIx (eV 1) (eI 0)],eOp (o2 Dx) [eIx (eV 0) (eI 1),eIx (eV 1) (eI 1)]]))
def Aw:Fn:=AW (Af 2 K9)
def Ma:Ex:=(Ah (AF B5 [eV 0,Az [eOp (o2 NQ) [eI 0,eIx (eV 1) (eI 0)],eIx (eV 1) (eI 1)]]))
def DJ:Fn:=AW (Af 2 Ma)
def Ia:Ex:=(AV (Bs 2 (ZL [0] 1 (QZ [eV 1]) (tNm 1) C1 (eIx (G3 [eI 0,eI 1,AF AG [eV 0,eI 4],AF AG [eV 0,eI 9]]) (AF AG [eV 0,eI 4]))))
    (AV (xIf (eOp (o2 wEq) [eOp (o1 Y7) [eV 2],eI 0]) (N0 (eI 1) (eV 2) (AF AG [eV 0,eV 1])) Bo)
    (Ah (eOp (o1 Fi) [EA [2] 1 (IH (eV 2)) (tNm 1) C1 (AF Bh [eV 1,eOp (o1 Y7) [eV 0]])]))))
def C6:Fn:=AW (Af 3 Ia)
def Ha:Ex:=(AV (Bs 1 (eOp (o2 CP) [eOp (o2 Vv) [eI 10,eI 30],AF AG [eV 0,eI 99]]))
    (Ah (eIx (G3 [eOp (o2 CP) [eI 1,AF AG [eV 0,eI 4]],eOp (o2 CP) [eI 1,AF AG [eV 0,eI 40]],eOp (o2 CP) [eI 1,AF AG [eV 0,eI 999]],eV 1]) (eOp (o2 NC) [AF AG [eV 0,eI 7],eI 2]))))
def BF:Fn:=AW (Af 2 Ha)
def Kv:Ex:=(AV (SO 1 2 (eOp (o2 CP) [eI 1,AF AG [eV 0,eI 4]]) (eOp (o2 CP) [eI 1,AF AG [eV 0,eI 5]]))
    (AV (Bs 3 (eIx (G3 [eOp (o2 CP) [eI 1,AF AG [eV 0,eI 3]],eOp (o2 CP) [eI 1,AF AG [eV 0,eI 20]]]) (AF AG [eV 0,eI 2])))
    (Ah (Az [eV 1,eV 2,eV 3,AF C6 [eV 0,eV 1],AF AG [eV 0,eI 10],AF AG [eV 0,eI 10]]))))
def Er:Fn:=AW (Af 4 Kv)
def LU:Ex:=(AV (Bs 2 (Jd []))
    (AV (Lw (QZ [eIx (G3 [eI 0,eI 1,AF AG [eV 0,eI 5]]) (AF AG [eV 0,eI 3])]) (tNm 3) (CM (Nz Ou (eV 2) [Az [AF AG [eV 0,eIx (eV 1) (eI 1)],AF BF [eV 0],AF C6 [eV 0,eIx (eV 1) (eI 0)]]])))
    (Ah (eOp (o1 Fi) [eV 2]))))
def Eu:Fn:=AW (Af 4 LU)
def Li:Ex:=(AV (Bs 1 (eOp (o2 CP) [eI 1,AF AG [eV 0,eI 12]]))
    (Ah (AF Bh [eOp (o2 CP) [eI 1,AF AG [eV 0,eV 1]],eV 1])))
def Es:Fn:=AW (Af 2 Li)
def KG:Ex:=(Ah (eOp (o1 Fi) [EA [0] 1 (QZ [eV 1]) (tNm 1) C1 (eOp (o2 CP) [eI 1,eIx (G3 [AF AG [eV 0,eI 3],AF AG [eV 0,eI 99]]) (AF AG [eV 0,eI 2])])]))
def DB:Fn:=AW (Af 2 KG)
def Lf:Ex:=(Ah (Jd [ZL [] 1 (IH (eIx (eV 0) (eI 1))) (tNm 0) C1 (kH (o1 Lq) [eV 0]),eOp (o1 Fi) [eIx (eIx (eV 0) (eI 0)) (eI 3)],Jd []]))
def GR:Fn:=AW (Af 1 Lf)
def KO:Ex:=(AV (Bs 2 (Jd []))
    (AV (Lw (dw (eIx (eV 0) (eI 2)) (eIx (eV 1) (eI 2))) (tTp [tNm 3,tNm 4]) (AV (Bs 5 (AF B5 [AF Aw [Az [eIx (eV 0) (eI 1),eI 1],eV 3],AF Aw [Az [eIx (eV 1) (eI 1),eI 1],eV 4]]))
    (CM (Nz Ou (eV 2) [AF Aw [eV 5,AF Bh [eI 1,eOp (o2 CP) [eIx (eV 0) (eI 1),eIx (eV 1) (eI 1)]]]]))))
    (Ah (eOp (o1 Fi) [eV 2]))))
def Fo:Fn:=AW (Af 6 KO)
def MR:Ex:=(AV (Bs 3 (eIx (eV 2) (eI 3)))
    (AV (Bs 4 (eOp (o2 CP) [eOp (o1 Y7) [EA [3] 3 (IH (eV 1)) (tTp [tNm 1,tNm 2,tNm 3]) C1 (eOp (o2 Dx) [eV 2,eIx (eV 0) (eV 1)])],eOp (o2 Dx) [eIx (eV 0) (eI 2),eIx (eV 3) (eOp (o1 NA) [eI 1])]]))
    (Ah (AF Bh [eOp (o2 Dx) [eIx (eV 2) (eI 2),eIx (eV 3) (eIx (eIx (eV 1) (eIx (eV 2) (eI 1))) (eI 0))],eV 4]))))
def Hs:Fn:=AW (Af 5 MR)
def K6:Ex:=(AV (Bs 3 (Jd []))
    (AV (Lw (dw (eV 0) (eV 2)) (tTp [tNm 4,tNm 5]) (CM (Nz Ou (eV 3) [AF B5 [AF Aw [eV 4,AF DJ [Az [eI 1,eI 1],eV 1]],AF Aw [eV 5,eV 1]]])))
    (Ah (eOp (o1 Fi) [eV 3]))))
def Dw:Fn:=AW (Af 6 K6)
def Mq:Ex:=(AV (Bs 2 (kH (o1 Lq) [eV 0]))
    (AV (Bs 3 (AF Aw [eIx (eV 2) (eIx (eV 1) (eI 1)),eIx (eV 1) (eI 3)]))
    (AV (N0 (AF DJ [eIx (eV 2) (eIx (eV 1) (eI 1)),eV 3]) (eV 2) (eIx (eV 1) (eI 1)))
    (AV (N0 (AF B5 [eIx (eV 2) (eIx (eV 1) (eI 2)),eV 3]) (eV 2) (eIx (eV 1) (eI 2)))
    (Ah (eOp (o1 Fi) [eV 2]))))))
def Eg:Fn:=AW (Af 4 Mq)
def Jw:Ex:=(AV (Mj (tTp [tNm 3,tNm 4,tNm 5]) (eV 1))
    (xIf (eOp (o2 wEq) [eIx (eV 2) (eI 0),eC (.str "throw")]) (AV (SO 6 7 (AF Hs [eV 0,eV 3,eV 2]) (eIx (eIx (eV 3) (eIx (eV 2) (eI 1))) (eI 2)))
    (AV (N0 (eOp (o2 NQ) [eIx (eIx (eV 3) (eIx (eV 2) (eI 1))) (eI 1),eIx (eV 2) (eI 2)]) (eIx (eV 3) (eIx (eV 2) (eI 1))) (eI 1))
    (AV (Lw (IH (eV 3)) (tNm 8) (N0 (AF Dw [eIx (eV 8) (eI 2),eV 6,eV 7]) (eV 8) (eI 2)))
    (N0 (AF Dw [eV 4,eV 6,eV 7]) (eV 1) (eI 1))))) (AV (Lw (IH (eV 3)) (tNm 8) (N0 (AF Eg [eIx (eV 8) (eI 2),eV 2]) (eV 8) (eI 2)))
    (N0 (AF Eg [eV 4,eV 2]) (eV 1) (eI 1)))))
def Eh:Fn:=AW (Af 9 Jw)
def Fc:Ex:=(AV (Mj (tTp [tNm 3,tNm 4,tNm 5]) (eV 1))
    (AV (Bs 6 (eIx (eV 2) (eI 0)))
    (xIf (eOp (o2 wEq) [eV 6,eC (.str "bring")]) (CM (Nz Ou (eV 3) [Jd [eIx (eV 2) (eI 2),eIx (eV 2) (eI 3),eOp (o1 Fi) [EA [2] 1 (QZ [eIx (eV 0) (eI 0)]) (tNm 1) C1 (Az [eOp (o1 WV) [eOp (o2 wEq) [eV 1,eIx (eV 0) (eI 1)]],eI 1])]]])) (xIf (eOp (o2 wEq) [eV 6,eC (.str "pool")]) (AV (SO 7 8 (eIx (eV 3) (eIx (eV 2) (eI 1))) (eIx (eV 3) (eIx (eV 2) (eI 2))))
    (AV (CM (Nz Ou (eV 3) [Jd [eIx (eV 7) (eI 0),eOp (o2 CP) [eIx (eV 7) (eI 1),eIx (eV 8) (eI 1)],AF Fo [eV 7,eV 8]]]))
    (AV (N0 (eI 0) (eV 7) (eI 1))
    (N0 (eI 0) (eV 8) (eI 1))))) (xIf (eOp (o2 (wIn false)) [eV 6,Az [eC (.str "swap"),eC (.str "trade")]]) (AV (Mj (tTp [tNm 9,tNm 10,tNm 11,tNm 12]) (eOp (JZ true false) [eV 2,eOp (o1 NA) [eI 4]]))
    (AV (N0 (eOp (o2 NQ) [eIx (eIx (eV 3) (eV 9)) (eI 1),eV 10]) (eIx (eV 3) (eV 9)) (eI 1))
    (AV (CM (Nz Ou (eV 3) [Jd [eV 11,eV 12,eIx (eIx (eV 3) (eV 9)) (eI 2)]]))
    (CM (Nz jc (eV 5) [eOp (o2 Dx) [eOp (JZ true true) [eV 2,eI 1,eI 2],eOp (o1 WV) [eOp (o2 wEq) [eV 6,eC (.str "trade")]]]]))))) (xIf (eOp (o2 wEq) [eV 6,eC (.str "spoil")]) (N0 (eOp (o2 NQ) [eIx (eIx (eV 3) (eIx (eV 2) (eI 1))) (eI 1),eIx (eV 2) (eI 2)]) (eIx (eV 3) (eIx (eV 2) (eI 1))) (eI 1)) (CM (AF Eh [eV 0,eV 1,eV 2]))))))))
def Dg:Fn:=AW (Af 13 Fc)
def Mp:Ex:=(AV (Mj (tTp [tNm 3,tNm 4,tNm 5]) (eV 2))
    (AV (Bs 6 (EA [] 2 (Z0 (eV 3)) (tTp [tNm 0,tNm 1]) (eOp (o2 wGt) [eIx (eV 1) (eI 1),eI 0]) (eV 0)))
    (AV (Bs 7 (AF AG [eV 0,eI 12]))
    (AV (xIf (eOr (eOp (o2 wLt) [eV 7,eI 2]) (eOp (o2 wEq) [eV 6,G3 []])) (Ah (Az [eC (.str "bring"),AF AG [eV 0,eIx (eV 1) (eI 0)],AF AG [eV 0,eIx (eV 1) (eI 1)],AF BF [eV 0]])) Bo)
    (AV (Bs 8 (eIx (eV 6) (AF AG [eV 0,eOp (o1 F2) [eV 6]])))
    (AV (Bs 9 (eOp (o2 CP) [eI 1,AF AG [eV 0,eOp (o2 js) [eIx (eIx (eV 3) (eV 8)) (eI 1),eI 2000]]]))
    (AV (xIf (eOp (o2 wLt) [eV 7,eI 5]) (AV (Bs 10 (EA [3,8] 1 (IH (eV 6)) (tNm 2) (D2 (eOp (o2 wNe) [eV 2,eV 1]) (eOp (o2 wEq) [eIx (eIx (eV 0) (eV 2)) (eI 0),eIx (eIx (eV 0) (eV 1)) (eI 0)])) (eV 2)))
    (xIf (eOp (o2 wNe) [eV 10,G3 []]) (Ah (Az [eC (.str "pool"),eV 8,eIx (eV 10) (AF AG [eV 0,eOp (o1 F2) [eV 10]])])) Bo)) Bo)
    (AV (xIf (D2 (eOp (o2 wLt) [eV 7,eI 8]) (eOp (o2 wGt) [eIx (eV 1) (eI 1),eI 1])) (AV (Bs 11 (eOp (o2 PQ) [eOp (o2 CP) [eOp (o2 CP) [eIx (eIx (eV 3) (eV 8)) (eI 0),eI 1],AF AG [eV 0,eOp (o2 NQ) [eIx (eV 1) (eI 1),eI 1]]],eIx (eV 1) (eI 1)]))
    (AV (Bs 12 (EA [5] 1 (QZ [eI 10]) (tNm 1) (eOp (o2 (wIn true)) [eV 1,eV 0]) (eV 1)))
    (AV (xIf (D2 (eOp (o2 wEq) [eV 7,eI 7]) (eOp (o2 wNe) [eV 12,G3 []])) (Ah (Az [eC (.str "trade"),eIx (eV 12) (AF AG [eV 0,eOp (o1 F2) [eV 12]]),eV 8,eV 9,eV 11,AF BF [eV 0]])) Bo)
    (Ah (Az [eC (.str "swap"),eV 8,eV 9,eV 11,AF BF [eV 0]]))))) Bo)
    (AV (xIf (eOp (o2 wEq) [eV 7,eI 8]) (Ah (Az [eC (.str "spoil"),eV 8,eV 9])) Bo)
    (AV (xIf (D2 (eOp (o2 wEq) [eV 7,eI 9]) (eOp (o2 wGt) [eIx (eV 1) (eI 0),eI 1])) (AV (Bs 13 (AF AG [eV 0,eIx (eV 1) (eI 0)]))
    (Ah (Az [eC (.str "sell"),eV 13,eOp (o2 PQ) [eOp (o2 CP) [eOp (o2 CP) [eV 13,eI 1],AF AG [eV 0,eOp (o2 NQ) [eIx (eV 1) (eI 0),eI 1]]],eIx (eV 1) (eI 0)],AF Es [eV 0]]))) Bo)
    (Ah (Az [eC (.str "throw"),eV 8,eV 9,AF DB [eV 0,eOp (o2 CP) [eIx (eV 1) (eI 1),eI 1]]]))))))))))))
def Dk:Fn:=AW (Af 14 Mp)
def Mu:Ex:=(AV (Bs 2 (AF Er [eV 0]))
    (AV (Bs 3 (AF Eu [eV 0,eV 2]))
    (AV (SO 4 5 (AF GR [Az [eV 2,eV 3,Az []]]) (Jd []))
    (AV (Lw (QZ [AF AG [eV 0,eOp (o2 CP) [eV 1,eI 1]]]) (tNm 6) (AV (Bs 7 (AF Dk [eV 0,eV 2,eV 4]))
    (xIf (eOr (eOp (o2 wNe) [eIx (eV 7) (eI 0),eC (.str "throw")]) (eOp (o2 wLt) [eOp (o1 F2) [EA [] 1 (IH (eV 5)) (tNm 0) (eOp (o2 wEq) [eIx (eV 0) (eI 0),eC (.str "throw")]) (eV 0)],eI 3])) (AV (CM (AF Dg [eV 2,eV 4,eV 7]))
    (CM (Nz Ou (eV 5) [eV 7]))) Bo)))
    (Ah (Az [eV 2,eV 3,eOp (o1 Fi) [eV 5]]))))))
def Ek:Fn:=AW (Af 8 Mu)
def K4:Ex:=(AV (Bs 1 (AF Er [eV 0]))
    (Ah (Az [eV 1,AF Eu [eV 0,eV 1]])))
def Et:Fn:=AW (Af 2 K4)
def DY:Ex:=(AV (xIf (eOr (Di (eOp (o2 Lc) [eV 0,eC (.ty "tuple")])) (eOp (o2 wNe) [eOp (o1 F2) [eV 0],eI 2])) (Ah (eC (.bl false))) Bo)
    (AV (Mj (tTp [tNm 1,tNm 2]) (eV 0))
    (Ah (D2 (AF CD [eV 1]) (D2 (AF Bm [eV 2,eI 1]) (eOp (o2 wEq) [AF BV [eV 1,eV 2],eI 1]))))))
def Bq:Fn:=AW (Af 3 DY)
def FW:Ex:=(Ah (D2 (AF Bq [eV 0]) (Ni (eI 0) (eIx (eV 0) (eI 0)) (eIx (eV 0) (eI 1)))))
def BJ:Fn:=AW (Af 1 FW)
def B8:Ex:=(Ah (D2 (eOp (o2 Lc) [eV 0,eC (.ty "tuple")]) (eOp (o2 wEq) [eOp (o1 F2) [eV 0],eV 1])))
def Ad:Fn:=AW (Af 2 B8)
def Lm:Ex:=(AV (Bs 1 (eC Hc))
    (AV (Lw (IH (eV 0)) (tNm 2) (Bs 1 (AF Fb [eV 1,eV 2])))
    (Ah (eV 1))))
def FC:Fn:=AW (Af 3 Lm)
def CQ:Ex:=(AV (xIf (Di (AF Ad [eV 1,eV 0])) (Ah (eC (.bl false))) Bo)
    (Ah (D2 (eOp (o1 UP) [EA [] 1 (IH (eV 1)) (tNm 0) C1 (AF BJ [eV 0])]) (eOp (o2 wEq) [AF FC [eV 1],eC N9]))))
def A9:Fn:=AW (Af 2 CQ)
def IZ:Ex:=(Ah (AF AQ [eV 1,eI 0,eOp (o2 NQ) [eIx (eV 0) (eI 1),eI 1]]))
def Cd:Fn:=AW (Af 2 IZ)
def Ey:Ex:=(AV (xIf (Di (AF Ad [eV 1,eI 3])) (Ah (eC (.bl false))) Bo)
    (AV (Mj (tTp [tNm 2,tNm 3,tNm 4]) (eV 1))
    (Ah (D2 (AF Cd [eV 0,eV 2]) (D2 (AF Bm [eV 3,eI 0]) (AF A9 [eIx (eV 0) (eI 0),eV 4]))))))
def BU:Fn:=AW (Af 5 Ey)
def MA:Ex:=(AV (xIf (eOr (Di (eOp (o2 Lc) [eV 1,eC (.ty "tuple")])) (eOp (o2 wGt) [eOp (o1 F2) [eV 1],eI 4])) (Ah (eC (.bl false))) Bo)
    (Ah (eOp (o1 UP) [EA [0] 1 (IH (eV 1)) (tNm 1) C1 (D2 (AF BU [eV 0,eV 1]) (eOp (o2 wGt) [eIx (eV 1) (eI 1),eI 0]))])))
def CS:Fn:=AW (Af 2 MA)
noncomputable def DL:D:=.int 4
def Dh:Ex:=(AV (xIf (eOr (Di (eOp (o2 Lc) [eV 1,eC (.ty "tuple")])) (eOp (o2 wGt) [eOp (o1 F2) [eV 1],eC DL])) (Ah (eC (.bl false))) Bo)
    (Ah (eOp (o1 UP) [EA [0] 1 (IH (eV 1)) (tNm 1) C1 (D2 (AF BU [eV 0,eV 1]) (eOp (o2 wGt) [eIx (eV 1) (eI 1),eI 0]))])))
def Aq:Fn:=AW (Af 2 Dh)
def DH:Ex:=(AV (xIf (Di (AF Ad [eV 0,eI 6])) (Ah (eC (.bl false))) Bo)
    (AV (Mj (tTp [tNm 1,tNm 2,tNm 3,tNm 4,tNm 5,tNm 6]) (eV 0))
    (AV (xIf (Di (D2 (AF AQ [eV 1,eI 1,eI 4]) (D2 (AF AQ [eV 2,eI 1,eI 5]) (AF AQ [eV 3,eI 1,eI 20])))) (Ah (eC (.bl false))) Bo)
    (Ah (D2 (AF A9 [eV 1,eV 4]) (D2 (AF AQ [eV 5,eI 0,eI 9]) (AF AQ [eV 6,eI 0,eI 9])))))))
def An:Fn:=AW (Af 7 DH)
def D1:Ex:=(AV (xIf (Di (AF An [eV 1])) B0 Bo)
    (AV (xIf (Di (AF Aq [eV 1,eV 2])) B0 Bo)
    (AV (Xd "Leader" "kept" (eV 0) (Az [eV 1,eV 2,Az []]))
    (Xd "Leader" "earlier" (eV 0) (Jd [])))))
def AY:Fn:=AW (Af 3 D1)
def F0:Rx:=(Kw (rIf (Di (AF An [eV 1])) (HM "NoTrain" [eC (.str "this is no train")]) rNo) (xIf (Di (AF An [eV 1])) B0 Bo)
    (Kw (rIf (Di (AF Aq [eV 1,eV 2])) (HM "NoFirst" [eC (.str "no book of the train begins with these loads")]) rNo) (xIf (Di (AF Aq [eV 1,eV 2])) B0 Bo)
    rNo))
def A5:Rf:=AW (Iy 3 F0)
def JL:Ex:=(AV (Bs 2 (eC (.str "!train")))
    (AV (xIf (AF An [eV 0]) (Bs 2 (eIx (G3 [eC (.str "!first"),eC (.str "told")]) (eOp (o1 WV) [AF CS [eV 0,eV 1]]))) Bo)
    (Ah (eOp (o2 wEq) [eIx (LJ "told" "_law_made_so" [0,1] (Ke "Leader" AY [eV 0,eV 1]) (Ri "Leader" A5 [eV 0,eV 1]) 1 (gOr ["NoDeed","NotDone","TooMany","NoNext","NothingDone","NoPartner","NoFirst","NoTrain"] "NoDeed" (Ah (Az [eC (.str "!deed"),eC .non])) (gOr ["NoDeed","NotDone","TooMany","NoNext","NothingDone","NoPartner","NoFirst","NoTrain"] "NotDone" B0 (gOr ["NoDeed","NotDone","TooMany","NoNext","NothingDone","NoPartner","NoFirst","NoTrain"] "TooMany" (Ah (Az [eC (.str "!many"),eC .non])) (gOr ["NoDeed","NotDone","TooMany","NoNext","NothingDone","NoPartner","NoFirst","NoTrain"] "NoNext" (Ah (Az [eC (.str "!next"),eC .non])) (gOr ["NoDeed","NotDone","TooMany","NoNext","NothingDone","NoPartner","NoFirst","NoTrain"] "NothingDone" (Ah (Az [eC (.str "!nothing"),eC .non])) (gOr ["NoDeed","NotDone","TooMany","NoNext","NothingDone","NoPartner","NoFirst","NoTrain"] "NoPartner" (Ah (Az [eC (.str "!partner"),eC .non])) (gOr ["NoDeed","NotDone","TooMany","NoNext","NothingDone","NoPartner","NoFirst","NoTrain"] "NoFirst" (Ah (Az [eC (.str "!first"),eC .non])) (gOr ["NoDeed","NotDone","TooMany","NoNext","NothingDone","NoPartner","NoFirst","NoTrain"] "NoTrain" (Ah (Az [eC (.str "!train"),eC .non])) gNo))))))))) (eI 0),eV 2]))))
def BY:Fn:=AW (Af 3 JL)
def Ie(rec:Fn):Ex:=(AV (Bs 2 (AF AG [eV 0,eI 12]))
    (AV (xIf (eOr (eOp (o2 wLt) [eV 2,eI 8]) (eOp (o2 wEq) [eV 1,eI 0])) (Ah (eIx (G3 [eC .non,eC (.bl true),eC (.bl false),eI 0,eI 1,eOp (o1 NA) [eI 1],eI 9,eOp (o2 Vv) [eI 10,eI 39],eC (.str ""),eC (.str "a"),Az [],G3 []]) (AF AG [eV 0,eI 12]))) Bo)
    (AV (Bs 3 (EA [0,1] 1 (QZ [AF AG [eV 0,eI 4]]) (tNm 2) C1 (AF rec [eV 0,eOp (o2 NQ) [eV 1,eI 1]])))
    (AV (xIf (eOp (o2 wEq) [eV 2,eI 8]) (Ah (eV 3)) Bo)
    (AV (xIf (eOp (o2 wEq) [eV 2,eI 9]) (Ah (d8 [((eC (.str "a")),(eV 3))])) Bo)
    (Ah (eOp (o1 Fi) [eV 3])))))))
def Ao:Nat->Fn
 |0=>λ_ _=>none
 |n+1=>AW (Af 4 (Ie (Ao n)))
def ED(rec:Fn):Ex:=(AV (xIf (D2 (eOp (o2 Lc) [eV 1,eC (.ty "tuple")]) (D2 (eOp (o2 wNe) [eV 1,Az []]) (eOp (o2 wGt) [AF AG [eV 0,eI 6],eI 0]))) (AV (Bs 2 (AF AG [eV 0,eOp (o1 F2) [eV 1]]))
    (Ah (eOp (o2 CP) [eOp (o2 CP) [eOp (JZ false true) [eV 1,eV 2],Az [AF rec [eV 0,eIx (eV 1) (eV 2)]]],eOp (JZ true false) [eV 1,eOp (o2 CP) [eV 2,eI 1]]]))) Bo)
    (AV (Bs 3 (AF AG [eV 0,eI 8]))
    (AV (xIf (D2 (eOp (o2 Lc) [eV 1,eC (.ty "tuple")]) (eOp (o2 wLt) [eV 3,eI 4])) (Ah (eIx (G3 [eOp (o2 CP) [eV 1,eOp (JZ true false) [eV 1,eOp (o1 NA) [eI 1]]],eOp (JZ false true) [eV 1,eOp (o1 NA) [eI 1]],eOp (o1 Lq) [eV 1],eOp (o1 gW) [eV 1]]) (eV 3))) Bo)
    (AV (xIf (D2 (eOp (o2 Lc) [eV 1,eC (.ty "int")]) (eOp (o2 wLt) [eV 3,eI 4])) (Ah (eIx (G3 [eOp (o2 CP) [eV 1,eI 1],eOp (o2 NQ) [eV 1,eI 1],eOp (o2 wGt) [eV 1,eI 0],eOp (o1 iR) [eV 1]]) (eV 3))) Bo)
    (AV (xIf (D2 (eOp (o2 Lc) [eV 1,eC (.ty "str")]) (eOp (o2 wLt) [eV 3,eI 4])) (Ah (eIx (G3 [eOp (o2 CP) [eV 1,eC (.str "a")],eOp (o1 wUp) [eV 1],eOp (JZ false true) [eV 1,eOp (o1 NA) [eI 1]],eOp (o2 CP) [eC (.str "1"),eV 1]]) (eV 3))) Bo)
    (Ah (AF (Ao 8) [eV 0,eI 2])))))))
def Av:Nat->Fn
 |0=>λ_ _=>none
 |n+1=>AW (Af 4 (ED (Av n)))
def HA:Ex:=(Ah (N1 "Leader" "kept" (eV 0)))
def Cb:Fn:=AW (Af 1 HA)
def Fd:Ex:=(AV (CM (Nz Ou (N1 "Leader" "earlier" (eV 0)) [N1 "Leader" "kept" (eV 0)]))
    (Xd "Leader" "kept" (eV 0) (eV 1)))
def BD:Fn:=AW (Af 2 Fd)
def Hx:Ex:=(Ah (AF Bm [eV 1,eI 1]))
def Cr:Fn:=AW (Af 2 Hx)
def D3:Ex:=(Ah (D2 (AF Ad [eV 0,eV 1]) (eOp (o1 UP) [EA [] 1 (IH (eV 0)) (tNm 0) C1 (AF AQ [eV 0,eI 1,eI 99])])))
def CT:Fn:=AW (Af 2 D3)
def IF:Ex:=(Ah (AF CT [eV 1,eOp (o2 CP) [eIx (eV 0) (eI 1),eI 1]]))
def Cs:Fn:=AW (Af 2 IF)
def FX:Ex:=(Ah (AF Bm [eV 1,eI 0]))
def Bw:Fn:=AW (Af 2 FX)
def Hy:Ex:=(Ah (AF AQ [eV 1,eI 0,eOp (o2 NQ) [eIx (eV 0) (eI 0),eI 1]]))
def Bd:Fn:=AW (Af 2 Hy)
def Dq:Ex:=(Ah (D2 (AF BJ [eV 1]) (D2 (eOp (o2 wGt) [eIx (eV 1) (eI 0),eI 0]) (eOp (o2 wLe) [eIx (eV 1) (eI 1),eI 12]))))
def Bj:Fn:=AW (Af 2 Dq)
def FI:Ex:=(Ah (AF AQ [eV 1,eI 0,eI 9]))
def Bl:Fn:=AW (Af 2 FI)
def EW:Wp (Str×Fn):=[("partner",Bd),("kind",Cd),("load",Bw),("number",Bl),("pieces",Cr),("worths",Cs),("share",Bj)]
def Cf:Ex:=(fe EW 3 1 [eV 0,eV 2])
def Au:Fn:=AW (Af 4 Cf)
noncomputable def CV:Wp (Str×D):=[("bring",.tup [.str "partner",.str "kind",.str "pieces"]),("pool",.tup [.str "load",.str "load"]),("swap",.tup [.str "load",.str "pieces",.str "kind",.str "pieces"]),("trade",.tup [.str "number",.str "load",.str "pieces",.str "kind",.str "pieces"]),("spoil",.tup [.str "load",.str "pieces"]),("throw",.tup [.str "load",.str "pieces",.str "worths"]),("sell",.tup [.str "partner",.str "partner",.str "share"])]
noncomputable def Gj:D:=.tup [.str "pool",.str "sell"]
def DA:Ex:=(AV (xIf (eOr (Di (eOp (o2 Lc) [eV 1,eC (.ty "tuple")])) (eOp (o2 wEq) [eOp (o1 F2) [eV 1],eI 0])) (Ah (eC (.bl false))) Bo)
    (AV (Bs 2 (eIx (eV 1) (eI 0)))
    (AV (xIf (eOr (Di (eOp (o2 Lc) [eV 2,eC (.ty "str")])) (eOp (o1 (Mt true CV)) [eV 2])) (Ah (eC (.bl false))) Bo)
    (AV (Bs 3 (eOp (o1 (du CV)) [eV 2]))
    (AV (xIf (eOp (o2 wNe) [eOp (o1 F2) [eV 1],eOp (o2 CP) [eOp (o1 F2) [eV 3],eI 1]]) (Ah (eC (.bl false))) Bo)
    (AV (xIf (Di (eOp (o1 UP) [EA [0,1] 2 (Z0 (eV 3)) (tTp [tNm 2,tNm 3]) C1 (AF Au [eV 0,eV 3,eIx (eV 1) (eOp (o2 CP) [eV 2,eI 1])])])) (Ah (eC (.bl false))) Bo)
    (Ah (eOr (eOp (o2 (wIn true)) [eV 2,eC Gj]) (eOp (o2 wNe) [eIx (eV 1) (eI 1),eIx (eV 1) (eI 2)])))))))))
def AK:Fn:=AW (Af 4 DA)
noncomputable def FY:D:=.int 20
noncomputable def Ef:D:=.int 3
def Ge:Ex:=(AV (xIf (eOr (Di (eOp (o2 Lc) [eV 1,eC (.ty "tuple")])) (eOp (o2 wGt) [eOp (o1 F2) [eV 1],eC FY])) (Ah (eC (.bl false))) Bo)
    (AV (xIf (Di (eOp (o1 UP) [EA [0] 1 (IH (eV 1)) (tNm 1) C1 (AF AK [eV 0,eV 1])])) (Ah (eC (.bl false))) Bo)
    (Ah (eOp (o2 wLe) [eOp (o1 F2) [EA [] 1 (IH (eV 1)) (tNm 0) (eOp (o2 wEq) [eIx (eV 0) (eI 0),eC (.str "throw")]) (eV 0)],eC Ef]))))
def BH:Fn:=AW (Af 2 Ge)
def J7:Ex:=(Ah (AF AQ [eV 1,eI 0,eOp (o2 NQ) [eOp (o1 F2) [eIx (eV 0) (eI 2)],eI 1]]))
def DC:Fn:=AW (Af 2 J7)
def IB:Ex:=(Ah (eOp (o2 CP) [eOp (o1 F2) [eIx (eV 0) (eI 1)],eOp (o1 F2) [EA [] 1 (IH (eOp (JZ false true) [eIx (eV 0) (eI 2),eV 1])) (tNm 0) (eOp (o2 (wIn false)) [eIx (eV 0) (eI 0),eC Cy]) (eV 0)]]))
def Cq:Fn:=AW (Af 2 IB)
def IM:Ex:=(AV (CM (AF Al [eV 0]))
    (AV (xIf (Di (AF DC [eV 0,eV 1])) B0 Bo)
    (AV (xIf (eOp (o2 (wIn true)) [eIx (eIx (eIx (eV 0) (eI 2)) (eV 1)) (eI 0),eC Cy]) (Ah (eC .non)) Bo)
    (Ah (AF Cq [eV 0,eV 1])))))
def Du:Fn:=AW (Af 2 IM)
def JC:Ex:=(AV (Mj (tTp [tNm 2,tNm 3,tNm 4]) (N1 "Leader" "kept" (eV 0)))
    (AV (xIf (Di (AF AK [eV 2,eV 1])) B0 Bo)
    (AV (Bs 5 (Az [eV 2,eV 3,eOp (o2 CP) [eV 4,Az [eV 1]]]))
    (AV (CM (AF Al [eV 5]))
    (AV (xIf (Di (AF BH [eV 2,eIx (eV 5) (eI 2)])) B0 Bo)
    (AV (CM (GU "Leader" "turn_to" BD (eV 0) [eV 5]))
    (Ah (AF Du [eV 5,eOp (o1 F2) [eV 4]]))))))))
def BI:Fn:=AW (Af 6 JC)
def D8:Ex:=(xIf (Di (AF Bd [eIx (eV 0) (eI 0),eV 1])) B0 Bo)
def BL:Fn:=AW (Af 2 D8)
def JE:Ex:=(AV (CM (AF Al [eV 0]))
    (AV (CM (AF BW [eV 0,eV 1]))
    (AV (CM (AF BL [eV 0,eV 2]))
    (Ah (eIx ZJ (eV 2))))))
def EZ:Fn:=AW (Af 3 JE)
def GB:Ex:=(Ah (AF EZ [N1 "Leader" "kept" (eV 0),eOp (o1 F2) [eIx (N1 "Leader" "kept" (eV 0)) (eI 2)],eV 1]))
def Bf:Fn:=AW (Af 2 GB)
def Pg:Rx:=(Kw rNo (CM (AF Al [eV 0]))
    (Kw (rIf (Di (AF DC [eV 0,eV 1])) (HM "NoNumber" [eC (.str "no deed of the book has this place")]) rNo) (xIf (Di (AF DC [eV 0,eV 1])) B0 Bo)
    rNo))
def IQ:Rf:=AW (Iy 2 Pg)
def JJ:Rx:=(Kw rNo (Mj (tTp [tNm 2,tNm 3,tNm 4]) (N1 "Leader" "kept" (eV 0)))
    (Kw (rIf (Di (AF AK [eV 2,eV 1])) (HM "NoDeed" [eC (.str "this is no deed of the train")]) rNo) (xIf (Di (AF AK [eV 2,eV 1])) B0 Bo)
    (Kw rNo (Bs 5 (Az [eV 2,eV 3,eOp (o2 CP) [eV 4,Az [eV 1]]]))
    (Kw rNo (CM (AF Al [eV 5]))
    (Kw (rIf (Di (AF BH [eV 2,eIx (eV 5) (eI 2)])) (HM "TooMany" [eC (.str "a book hasn't so many deeds or throws")]) rNo) (xIf (Di (AF BH [eV 2,eIx (eV 5) (eI 2)])) B0 Bo)
    (Kw rNo (CM (GU "Leader" "turn_to" BD (eV 0) [eV 5]))
    (Pb IQ [eV 5,eOp (o1 F2) [eV 4]])))))))
def CG:Rf:=AW (Iy 6 JJ)
def ER:Rx:=(rIf (Di (AF AQ [eV 1,eI 0,eOp (o1 F2) [eIx (eV 0) (eI 2)]])) (HM "NoNumber" [eC (.str "the book hasn't so many deeds")]) rNo)
def B2:Rf:=AW (Iy 2 ER)
def D9:Rx:=(rIf (Di (AF Bd [eIx (eV 0) (eI 0),eV 1])) (HM "NoPartner" [eC (.str "the train has no such partner")]) rNo)
def Bt:Rf:=AW (Iy 2 D9)
def JR:Rx:=(Kw rNo (CM (AF Al [eV 0]))
    (Kw (Pb B2 [eV 0,eV 1]) (CM (AF BW [eV 0,eV 1]))
    (Kw (Pb Bt [eV 0,eV 2]) (CM (AF BL [eV 0,eV 2]))
    rNo)))
def Ec:Rf:=AW (Iy 3 JR)
def F4:Rx:=(Pb Ec [N1 "Leader" "kept" (eV 0),eOp (o1 F2) [eIx (N1 "Leader" "kept" (eV 0)) (eI 2)],eV 1])
def Bg:Rf:=AW (Iy 2 F4)
def Tw:Ex:=(AV (Bs 1 (AF HN [AF Cj [eV 0,eI 0]]))
    (AV (Mj (tTp [tNm 2,tNm 3]) (AF Et [eV 1]))
    (AV (Bs 4 (Az [eI 0,eI 3,eIx (eV 2) (eI 3)]))
    (AV (Lw (QZ [eI 10]) (tNm 5) (AV (Bs 6 (eIx (G3 [eV 2,AF (Av 8) [eV 1,eV 2],AF (Ao 8) [eV 1,eI 2]]) (AF AG [eV 1,eI 3])))
    (AV (Bs 7 (eIx (G3 [eV 3,AF (Av 8) [eV 1,eV 3],Az [AF (Av 8) [eV 1,eV 4]],AF (Ao 8) [eV 1,eI 2]]) (AF AG [eV 1,eI 4])))
    (xIf (Di (AF BY [eV 6,eV 7])) (Ah (eC (.bl false))) Bo))))
    (AV (Lw (IH (Az [eOp (o2 Dx) [Az [eV 4],eI 4],eOp (o2 Dx) [Az [eV 4],eI 5],Az [Az [eI 0,eI 0,eIx (eV 2) (eI 3)]],G3 [eV 4],Az [eV 4,eC .non],Az []])) (tNm 7) (xIf (eOr (Di (AF BY [eV 2,eV 7])) (Di (AF BY [eC .non,eV 7]))) (Ah (eC (.bl false))) Bo))
    (AV (Bs 8 (AF Ek [eV 1,eI 6]))
    (AV (Bs 9 (Ke "Leader" AY [eIx (eV 8) (eI 0),eIx (eV 8) (eI 1)]))
    (AV (Lw (IH (eIx (eV 8) (eI 2))) (tNm 10) (CM (GU "Leader" "do" BI (eV 9) [eV 10])))
    (AV (Lw (IH (eOp (o2 CP) [eIx (eV 8) (eI 2),Az [Az [eC (.str "bring"),eI 0,eI 0,eI 1],Az [eC (.str "pool"),eI 0,eI 1],Az [eC (.str "sell"),eI 0,eI 1,Az [eI 1,eI 2]]]])) (tNm 10) (Lw (IH (Az [AF (Av 8) [eV 1,eV 10],eOp (o1 Lq) [eV 10],eOp (JZ false true) [eV 10,eI 2],eOp (o2 CP) [eV 10,Az [eI 0]],AF (Ao 8) [eV 1,eI 2]])) (tNm 11) (xIf (D2 (Di (AF AK [eIx (eV 8) (eI 0),eV 11])) (eOp (o2 wNe) [LJ "told" "law" [9,11] (GU "Leader" "do" BI (eV 0) [eV 1]) (Nu "Leader" "do" CG (eV 0) [eV 1]) 1 (gOr ["NoDeed","NotDone","TooMany","NoNext","NothingDone","NoPartner","NoFirst","NoTrain"] "NoDeed" (Ah (Az [eC (.str "!deed"),eC .non])) (gOr ["NoDeed","NotDone","TooMany","NoNext","NothingDone","NoPartner","NoFirst","NoTrain"] "NotDone" B0 (gOr ["NoDeed","NotDone","TooMany","NoNext","NothingDone","NoPartner","NoFirst","NoTrain"] "TooMany" (Ah (Az [eC (.str "!many"),eC .non])) (gOr ["NoDeed","NotDone","TooMany","NoNext","NothingDone","NoPartner","NoFirst","NoTrain"] "NoNext" (Ah (Az [eC (.str "!next"),eC .non])) (gOr ["NoDeed","NotDone","TooMany","NoNext","NothingDone","NoPartner","NoFirst","NoTrain"] "NothingDone" (Ah (Az [eC (.str "!nothing"),eC .non])) (gOr ["NoDeed","NotDone","TooMany","NoNext","NothingDone","NoPartner","NoFirst","NoTrain"] "NoPartner" (Ah (Az [eC (.str "!partner"),eC .non])) (gOr ["NoDeed","NotDone","TooMany","NoNext","NothingDone","NoPartner","NoFirst","NoTrain"] "NoFirst" (Ah (Az [eC (.str "!first"),eC .non])) (gOr ["NoDeed","NotDone","TooMany","NoNext","NothingDone","NoPartner","NoFirst","NoTrain"] "NoTrain" (Ah (Az [eC (.str "!train"),eC .non])) gNo)))))))),Az [eC (.str "!deed"),eC .non]])) (Ah (eC (.bl false))) Bo)))
    (AV (Lw (IH (Az [eIx (eIx (eV 8) (eI 0)) (eI 0),eOp (o1 NA) [eI 1],eC (.bl true),eC .non,eC (.str "0"),Az [eI 0],eOp (o2 Vv) [eI 10,eI 39]])) (tNm 12) (xIf (eOp (o2 wNe) [LJ "told" "law" [9,12] (GU "Leader" "theirs" Bf (eV 0) [eV 1]) (Nu "Leader" "theirs" Bg (eV 0) [eV 1]) 1 (gOr ["NoDeed","NotDone","TooMany","NoNext","NothingDone","NoPartner","NoFirst","NoTrain"] "NoDeed" (Ah (Az [eC (.str "!deed"),eC .non])) (gOr ["NoDeed","NotDone","TooMany","NoNext","NothingDone","NoPartner","NoFirst","NoTrain"] "NotDone" B0 (gOr ["NoDeed","NotDone","TooMany","NoNext","NothingDone","NoPartner","NoFirst","NoTrain"] "TooMany" (Ah (Az [eC (.str "!many"),eC .non])) (gOr ["NoDeed","NotDone","TooMany","NoNext","NothingDone","NoPartner","NoFirst","NoTrain"] "NoNext" (Ah (Az [eC (.str "!next"),eC .non])) (gOr ["NoDeed","NotDone","TooMany","NoNext","NothingDone","NoPartner","NoFirst","NoTrain"] "NothingDone" (Ah (Az [eC (.str "!nothing"),eC .non])) (gOr ["NoDeed","NotDone","TooMany","NoNext","NothingDone","NoPartner","NoFirst","NoTrain"] "NoPartner" (Ah (Az [eC (.str "!partner"),eC .non])) (gOr ["NoDeed","NotDone","TooMany","NoNext","NothingDone","NoPartner","NoFirst","NoTrain"] "NoFirst" (Ah (Az [eC (.str "!first"),eC .non])) (gOr ["NoDeed","NotDone","TooMany","NoNext","NothingDone","NoPartner","NoFirst","NoTrain"] "NoTrain" (Ah (Az [eC (.str "!train"),eC .non])) gNo)))))))),Az [eC (.str "!partner"),eC .non]]) (Ah (eC (.bl false))) Bo))
    (Ah (eOp (o2 wEq) [GU "Leader" "book" Cb (eV 9) [],eV 8]))))))))))))
def Nl:Fn:=AW (Af 13 Tw)
end
section
open PyProof.Rows (boot_isinstance boot_int boot_bool boot_tuple boot_str boot_list boot_abs boot_all boot_any boot_sum boot_max boot_min boot_range boot_enumerate boot_zip boot_sorted boot_set boot_divmod)
noncomputable def top(i:Nat):tE:=yV.main.body.getD i (.Pass ⟨0,0,0,0⟩)
abbrev G5:tE:=top 4
abbrev IW:tE:=top 5
abbrev GV:tE:=top 6
abbrev Cp:tE:=top 7
abbrev Gg:tE:=top 8
abbrev Ja:tE:=top 9
abbrev NZ:tE:=top 10
abbrev Lh:tE:=top 14
abbrev FN:tE:=top 33
abbrev Fm:tE:=top 34
abbrev Cv:tE:=top 35
abbrev HZ:tE:=top 36
abbrev Fq:tE:=top 37
abbrev IT:tE:=top 38
abbrev Dc:tE:=top 39
abbrev C3:tE:=top 40
abbrev Fy:tE:=top 41
abbrev Cw:tE:=top 42
abbrev Ft:tE:=top 43
abbrev Dj:tE:=top 44
abbrev Ga:tE:=top 46
abbrev IL:tE:=top 47
abbrev Dv:tE:=top 48
abbrev DQ:tE:=top 49
abbrev CH:tE:=top 50
abbrev Fz:tE:=top 51
abbrev G7:tE:=top 52
abbrev HY:tE:=top 53
abbrev GJ:tE:=top 54
abbrev EM:tE:=top 55
abbrev FP:tE:=top 56
abbrev CA:tE:=top 57
abbrev Ep:tE:=top 60
abbrev Dl:tE:=top 61
abbrev Cu:tE:=top 62
abbrev G8:tE:=top 63
abbrev B1:tE:=top 64
abbrev Br:tE:=top 65
abbrev Gn:tE:=top 66
abbrev Dd:tE:=top 80
abbrev Bc:tE:=inClass (top 87) 0
abbrev BC:tE:=inClass (top 87) 1
abbrev Bx:tE:=inClass (top 87) 2
abbrev Bn:tE:=inClass (top 87) 5
abbrev A1:tE:=inClass (top 87) 6
abbrev LQ:tE:=top 89
abbrev GS:tE:=top 90
abbrev J0:tE:=top 91
abbrev HK:tE:=top 92
abbrev Je:tE:=top 93
abbrev C7:tE:=top 94
abbrev IU:tE:=top 95
abbrev HG:tE:=top 96
abbrev Il:tE:=top 97
abbrev IK:tE:=top 98
abbrev C4:tE:=top 99
abbrev D5:tE:=top 100
abbrev Ct:tE:=top 101
abbrev Cg:tE:=top 103
abbrev E9:tE:=top 104
abbrev Io:tE:=top 105
abbrev D4:tE:=top 106
abbrev Ci:tE:=top 107
abbrev J2:tE:=top 108
abbrev IJ:tE:=top 109
abbrev HQ:tE:=top 110
abbrev F9:tE:=top 111
abbrev Jl:tE:=top 112
abbrev IS:tE:=top 113
abbrev Jb:tE:=top 114
abbrev Jf:tE:=top 115
abbrev JF:tE:=top 116
abbrev GA:tE:=top 117
abbrev Gh:tE:=top 118
abbrev GF:tE:=top 102
theorem Ii:Ar ["_law_call","e"] ["_law_call"] (AD GF):=scM
structure Bts(mg:Str->rW rS):Prop where
 abs:mg "abs"=none
 all:mg "all"=none
 bool:mg "bool"=none
 enumerate:mg "enumerate"=none
 int:mg "int"=none
 isi:mg "isinstance"=none
 len:mg "len"=none
 list:mg "list"=none
 min:mg "min"=none
 range:mg "range"=none
 str:mg "str"=none
 sum:mg "sum"=none
 tuple:mg "tuple"=none
 zip:mg "zip"=none
structure All(w:tU)(K:W1)(mg:Str->rW rS):Prop where
 bt:Bts mg
 gm:PV K mg "ALL" N9
 Q9:PV K mg "MAKERS" Cy
 KP:PV K mg "MOST_DEEDS" FY
 J8:PV K mg "MOST_FIRST" DL
 Ir:PV K mg "MOST_THROWS" Ef
 Oh:PV K mg "NOTHING" Hc
 JX:PV K mg "UNLIKE" Gj
 Jg:gd K w mg "FORMS" CV
 Pm:ju w K mg "PARTS" [("partner","is_partner"),("kind","is_kind"),("load","is_load_number"),("number","is_trade_number"),("pieces","are_pieces"),("worths","are_worths"),("share","is_sold_share")]
 JK:XcD K mg "NoDeed"
 G9:XcD K mg "NoFirst"
 Mm:XcD K mg "NoNumber"
 Le:XcD K mg "NoPartner"
 Hg:XcD K mg "NoTrain"
 Hb:XcD K mg "TooMany"
 EV:XmD K mg ["NoDeed","NotDone","TooMany","NoNext","NothingDone","NoPartner","NoFirst","NoTrain"] "NoDeed"
 DV:XmD K mg ["NoDeed","NotDone","TooMany","NoNext","NothingDone","NoPartner","NoFirst","NoTrain"] "NoFirst"
 Ea:XmD K mg ["NoDeed","NotDone","TooMany","NoNext","NothingDone","NoPartner","NoFirst","NoTrain"] "NoNext"
 CN:XmD K mg ["NoDeed","NotDone","TooMany","NoNext","NothingDone","NoPartner","NoFirst","NoTrain"] "NoPartner"
 De:XmD K mg ["NoDeed","NotDone","TooMany","NoNext","NothingDone","NoPartner","NoFirst","NoTrain"] "NoTrain"
 DO:XmD K mg ["NoDeed","NotDone","TooMany","NoNext","NothingDone","NoPartner","NoFirst","NoTrain"] "NotDone"
 Ba:XmD K mg ["NoDeed","NotDone","TooMany","NoNext","NothingDone","NoPartner","NoFirst","NoTrain"] "NothingDone"
 DZ:XmD K mg ["NoDeed","NotDone","TooMany","NoNext","NothingDone","NoPartner","NoFirst","NoTrain"] "TooMany"
 Ai:ClD K "Leader" ["kept","earlier"]
 Bc:MkS K mg "Leader" "Leader.__init__" Bc
 BC:MeS K "Leader" "turn_to" "Leader.turn_to" BC
 Bx:MeS K "Leader" "do" "Leader.do" Bx
 Bn:MeS K "Leader" "book" "Leader.book" Bn
 A1:MeS K "Leader" "theirs" "Leader.theirs" A1
 G5:St.Src K mg "is_whole" G5
 IW:St.Src K mg "is_from" IW
 GV:St.Src K mg "is_within" GV
 Cp:St.Src K mg "greatest_divisor" Cp
 Gg:St.Src K mg "is_amount" Gg
 Ja:St.Src K mg "lowest" Ja
 NZ:St.Src K mg "plus" NZ
 Lh:St.Src K mg "total" Lh
 FN:St.Src K mg "is_tuple_of" FN
 Fm:St.Src K mg "is_share" Fm
 Cv:St.Src K mg "are_owners" Cv
 HZ:St.Src K mg "is_train" HZ
 Fq:St.Src K mg "is_partner" Fq
 IT:St.Src K mg "is_kind" IT
 Dc:St.Src K mg "is_load_number" Dc
 C3:St.Src K mg "is_trade_number" C3
 Fy:St.Src K mg "are_pieces" Fy
 Cw:St.Src K mg "are_values" Cw
 Ft:St.Src K mg "are_worths" Ft
 Dj:St.Src K mg "is_sold_share" Dj
 Ga:St.Src K mg "is_part" Ga
 IL:St.Src K mg "is_load" IL
 Dv:St.Src K mg "is_deed" Dv
 DQ:St.Src K mg "are_first" DQ
 CH:St.Src K mg "are_deeds" CH
 Fz:St.Src K mg "has_pieces" Fz
 G7:St.Src K mg "can_pool" G7
 HY:St.Src K mg "can_swap" HY
 GJ:St.Src K mg "can_do" GJ
 EM:St.Src K mg "held_without" EM
 FP:St.Src K mg "held_behind" FP
 CA:St.Src K mg "held_at_first" CA
 Ep:St.Src K mg "first_wrong" Ep
 Dl:St.Src K mg "refuse_undone" Dl
 Cu:St.Src K mg "many_loads" Cu
 G8:St.Src K mg "is_place" G8
 B1:St.Src K mg "refuse_no_number" B1
 Br:St.Src K mg "refuse_no_partner" Br
 Gn:St.Src K mg "made_by" Gn
 Dd:St.Src K mg "theirs_by" Dd
 LQ:St.Src K mg "_law_pen" LQ
 GS:St.Src K mg "_law_cell_at" GS
 J0:St.Src K mg "_law_draw" J0
 HK:St.Src K mg "_law_common" HK
 Je:St.Src K mg "_law_made" Je
 C7:St.Src K mg "_law_whole" C7
 IU:St.Src K mg "_law_train" IU
 HG:St.Src K mg "_law_pieces" HG
 Il:St.Src K mg "_law_first" Il
 IK:St.Src K mg "_law_begin" IK
 C4:St.Src K mg "_law_thing" C4
 D5:St.Src K mg "_law_spoilt" D5
 Ct:St.Src K mg "_law_is_first" Ct
 Cg:St.Src K mg "_law_made_so" Cg
 E9:St.Src K mg "_law_begun" E9
 Io:St.Src K mg "_law_share" Io
 D4:St.Src K mg "_law_worths" D4
 Ci:St.Src K mg "_law_deed" Ci
 J2:St.Src K mg "_law_plus" J2
 IJ:St.Src K mg "_law_times" IJ
 HQ:St.Src K mg "_law_pooled" HQ
 F9:St.Src K mg "_law_cost" F9
 Jl:St.Src K mg "_law_less" Jl
 IS:St.Src K mg "_law_borne" IS
 Jb:St.Src K mg "_law_sold" Jb
 Jf:St.Src K mg "_law_turn" Jf
 JF:St.Src K mg "_law_do" JF
 GA:St.Src K mg "_law_book" GA
 Gh:St.Src K mg "law" Gh
 GF:St.Src K mg "_law_said" GF
end
section
open PyProof.Rows (boot_isinstance boot_int boot_bool boot_tuple boot_str boot_list boot_abs boot_all boot_any boot_sum boot_max boot_min boot_range boot_enumerate boot_zip boot_sorted boot_set boot_divmod)
local macro_rules| `(tactic|walk_at $s)=>do
 let i (w:vB):Lean.Term:=y9 w.toName
 let t (w:vB):Lean.MacroM Lean.Term:=do
  match w with
  | "?"=> `(?_)
  | "_"=> `(_)
  | "A"=> `(by assumption)
  | "B"=> `(by walk_at "b")
  | "D"=> `(by decide)
  | "K"=> `(λ_ _ _=>⟨?_,?_,?_⟩)
  | "M"=> `(CZ.mono (by assumption) (by decide))
  | "F"=> `(Vp _)
  |_=>match w.splitOn "/" with
   | [f,n]=>pure (yh (i f) (Array.replicate n.length (<- `(?_))))
   |_=>pure (i w)
 let r (a:Wp vB):Lean.MacroM (Lean.TSyntax `tactic):=do `(tactic|refine $(yh (i a.head!) (<-a.tail!.mapM t).toArray))
 let g (s:vB):Lean.MacroM (Lean.TSyntax `tactic):=do
  (s.splitOn ";").foldrM (λx z=>do
    let a:=x.splitOn " "
    let b<-if a.head!== "%" then `(tactic|with_reducible $(<-r a.tail!):tactic)else r a
    `(tactic|first| $b:tactic| $z:tactic)) (<- `(tactic|assumption))
 let ws:=s.getString.splitOn " "
 match ws.head! with
 | "b"=>g "Bts.abs A;Bts.all A;Bts.bool A;Bts.enumerate A;Bts.int A;Bts.isi A;Bts.len A;Bts.list A;Bts.min A;Bts.range A;Bts.str A;Bts.sum A;Bts.tuple A;Bts.zip A;% boot_abs;% boot_all;% boot_bool;% boot_enumerate;% boot_int;% boot_isinstance;% boot_len;% boot_list;% boot_min;% boot_range;% boot_str;% boot_sum;% boot_tuple;% boot_zip"
 | "d"=>do
   let z<-("rC:AA ? ?;AE|gDE:AH _;AN;BE;DN Iq ? ?;deM A A ?;GP ? ? ?;CF ? rfl B B ?;HE ? rfl B B ?;Ap ?;Hv ?;ZX _ _ _ rfl A ? K;PL ? ? ?;fC ? ?;Yv ?;UM ? ?;B9;K3;Zm A rfl;SE rfl B B;ni ?;gz PySem.F.slot_list_append PySem.F.type_list_append bL ? ?;gz PySem.F.slot_list_extend PySem.F.type_list_extend kY ? ?;Tc ? ?;NT ? ?;mQ ? ? ?|rQ:AL ?;AS ? ?;BZ|gDS:Ax ?;FL _ ? A;GQ ?;Eb ? ? ?;Rv _ _ _ rfl A rfl rfl A ? K;VM ? ?;kJ ? ? ?;Mr PassesOwn.never rfl ? ? ?;oM rfl A rfl rfl D rfl rfl ? ?;FT;jb F PassesOwn.never ? ?|gDT:F5 ? ? ?;DX ?;DW.dt MK/??;DW.dt YI/??;CW ?|gDG:Hd _ A;WR rfl ?|rK:% Dm;% Mh ?;% QU;% Th;% pA;% nI;% N7 ?;% ZE;% j7;% Qg;% oV;% og;% T9;% Vm;% jN|oZ:% EC;% QA;% gX rfl;% GG;% VX;% fE;% Mw;% UA rfl;% fY rfl".splitOn "|").foldrM (λx z=>do
    let a:=x.splitOn ":"
    `(tactic|first|((with_reducible refine $(i a.head!) ?_); $(<-g a.tail!.head!):tactic)| $z:tactic)) (<-g "Dy ? ?;My;Ud;mT ?;O4 ?;VA rfl B ?;oA rfl B ? ?;hJ rfl B ?;LH;MK ? ?;Lk ?;YI ? ?;QY ?;OZ;Jj ?;Fp ? ? ?;% YM;mZ ?;V6 ? ? ?;Ua A M rfl ?;Kq rfl A rfl ?;YM")
   let y:Lean.TSyntax `tactic<-ws.tail!.foldrM (λw z=>do `(tactic|(have:= $(if w.startsWith "T." then i w else yh (i w) #[i "P",i "base",i "bm",i "T"]); $z:tactic))) (<- `(tactic|repeat' $z:tactic))
   pure y
 |_=>Lean.Macro.throwUnsupported
variable(P:sf){w:tU}{K:W1}{mg:Str->rW rS}(base:tT)(bm:BmB mg base)(T:All w K mg)
include bm T
theorem Yc:St.Dfn P w K mg base "is_whole" 1 ["thing"] (spD K 1 CD):=dfW (N:=["thing"]) 0 T.G5 scM λ_ _ _=>by
 walk_at "d T.bt"
theorem Zg:St.Dfn P w K mg base "is_from" 2 ["thing","low"] (spD K 2 Bm):=dfW (N:=["thing","low"]) 1 T.IW scM λ_ _ _=>by
 walk_at "d Yc"
theorem V1:St.Dfn P w K mg base "is_within" 3 ["thing","low","high"] (spD K 3 AQ):=dfW (N:=["thing","low","high"]) 2 T.GV scM λ_ _ _=>by
 walk_at "d Zg"
theorem PN:St.Dfn P w K mg base "greatest_divisor" 1 ["one","other"] (spD K 2 BV):=dfW (N:=["one","other"]) 0 T.Cp scM λ_ _ _=>by
 walk_at "d T.bt"
theorem Gq:St.Dfn P w K mg base "is_amount" 3 ["thing"] (spD K 1 Bq):=dfW (N:=["thing","top","bottom"]) 2 T.Gg scM λ_ _ _=>by
 walk_at "d T.bt Yc Zg PN"
theorem cq:St.Dfn P w K mg base "lowest" 2 ["top","bottom"] (spD K 2 Hj):=dfW (N:=["top","bottom","divisor"]) 1 T.Ja scM λ_ _ _=>by
 walk_at "d PN"
theorem jH:St.Dfn P w K mg base "plus" 3 ["one","other"] (spD K 2 Fb):=dfW (N:=["one","other"]) 2 T.NZ scM λ_ _ _=>by
 walk_at "d cq"
theorem gT:St.Dfn P w K mg base "total" 4 ["amounts"] (spD K 1 FC):=dfW (N:=["amounts","together","amount"]) 3 T.Lh scM λ_ _ _=>by
 walk_at "d T.Oh jH"
theorem Uy:St.Dfn P w K mg base "is_tuple_of" 1 ["thing","many"] (spD K 2 Ad):=dfW (N:=["thing","many"]) 0 T.FN scM λ_ _ _=>by
 walk_at "d T.bt"
omit T bm in
theorem Nd:Ar ["thing"] ["thing"] (AD Fm):=scM
theorem ZC:St.Dfn P w K mg base "is_share" 4 ["thing"] (spD K 1 BJ):=by
 have Gq:=Gq P base bm T
 refine dfM 3 T.Fm Nd λhr hu=>?_
 exact(AL (Ax (fC (deM Gq hr (AA (AH 0) AE)) (Yv (aa AN (DN Iq (AH 0) AN) (DN Iq (AH 0) AN))))))
theorem Vu:St.Dfn P w K mg base "are_owners" 5 ["partners","thing"] (spD K 2 A9):=dfW (N:=["partners","thing"]) 4 T.Cv scM λ_ _ _=>by
 have:Ab ["partners","thing"] (AD Cv) ["share"] (ixC [] 1) (MF Cv 0):=csM
 have:(["share"]:Wp Str).Nodup:=by decide+kernel
 walk_at "d T.bt T.gm gT Uy ZC"
theorem Bb:St.Dfn P w K mg base "is_train" 6 ["thing"] (spD K 1 An):=dfW (N:=["thing","partners","kinds","beasts","holders","hire","part"]) 5 T.HZ scM λ_ _ _=>by
 walk_at "d V1 Uy Vu"
theorem MB:St.Dfn P w K mg base "is_partner" 4 ["train","thing"] (spD K 2 Bd):=dfW (N:=["train","thing"]) 3 T.Fq scM λ_ _ _=>by
 walk_at "d V1"
theorem QO:St.Dfn P w K mg base "is_kind" 4 ["train","thing"] (spD K 2 Cd):=dfW (N:=["train","thing"]) 3 T.IT scM λ_ _ _=>by
 walk_at "d V1"
theorem JG:St.Dfn P w K mg base "is_load_number" 3 ["train","thing"] (spD K 2 Bw):=dfW (N:=["train","thing"]) 2 T.Dc scM λ_ _ _=>by
 walk_at "d Zg"
theorem Ip:St.Dfn P w K mg base "is_trade_number" 4 ["train","thing"] (spD K 2 Bl):=dfW (N:=["train","thing"]) 3 T.C3 scM λ_ _ _=>by
 walk_at "d V1"
theorem L4:St.Dfn P w K mg base "are_pieces" 3 ["train","thing"] (spD K 2 Cr):=dfW (N:=["train","thing"]) 2 T.Fy scM λ_ _ _=>by
 walk_at "d Zg"
theorem Vw:St.Dfn P w K mg base "are_values" 4 ["thing","many"] (spD K 2 CT):=dfW (N:=["thing","many"]) 3 T.Cw scM λ_ _ _=>by
 have:Ab ["thing","many"] (AD Cw) ["value"] (ixC [] 1) (MF Cw 0):=csM
 have:(["value"]:Wp Str).Nodup:=by decide+kernel
 walk_at "d T.bt V1 Uy"
theorem L6:St.Dfn P w K mg base "are_worths" 5 ["train","thing"] (spD K 2 Cs):=dfW (N:=["train","thing"]) 4 T.Ft scM λ_ _ _=>by
 walk_at "d Vw"
theorem Jn:St.Dfn P w K mg base "is_sold_share" 5 ["train","thing"] (spD K 2 Bj):=dfW (N:=["train","thing"]) 4 T.Dj scM λ_ _ _=>by
 walk_at "d ZC"
omit T bm in
theorem KN:Ar ["train","part","thing","holds"] ["train","part","thing"] (AD Ga):=scM
theorem WO:lO P w K mg base "PARTS" 5 2 EW:=au T.Pm (.cons ⟨rfl,_,_,(by decide),MB P base bm T⟩ (.cons ⟨rfl,_,_,(by decide),QO P base bm T⟩ (.cons ⟨rfl,_,_,(by decide),JG P base bm T⟩ (.cons ⟨rfl,_,_,(by decide),Ip P base bm T⟩ (.cons ⟨rfl,_,_,(by decide),L4 P base bm T⟩ (.cons ⟨rfl,_,_,(by decide),L6 P base bm T⟩ (.cons ⟨rfl,_,_,(by decide),Jn P base bm T⟩ Paired.nil)))))))
theorem Ib:St.Dfn P w K mg base "is_part" 6 ["train","part","thing"] (spD K 3 Au):=by
 have T_PARTS:=WO P base bm T
 refine dfM 5 T.Ga KN λhr hu=>?_
 exact(aA 3 1 T_PARTS (hr.mono (by decide)) (AA (AH 0) (AA (AH 2) AE)) rfl KN.nd)
theorem Zk:St.Dfn P w K mg base "is_load" 6 ["train","thing"] (spD K 2 BU):=dfW (N:=["train","thing","kind","pieces","owners"]) 5 T.IL scM λ_ _ _=>by
 walk_at "d Zg Uy Vu QO"
omit T bm in
theorem HF:Ar ["train","thing","word","form"] ["train","thing"] (AD Dv):=scM
omit T bm in
theorem MC:Ab ["train","thing","word","form"] (AD Dv) ["train","thing","at","part"] (ixC [0,1] 2) (MF Dv 0):=csM
omit T bm in
theorem IA:(["train","thing","at","part"]:Wp Str).Nodup:=by decide+kernel
theorem Bz:St.Dfn P w K mg base "is_deed" 7 ["train","thing"] (spD K 2 AK):=by
 have B:=T.bt
 have JX:=T.JX
 have Jg:=T.Jg
 have Ib:=Ib P base bm T
 refine dfM 6 T.Dv HF λhr hu=>?_
 exact(AS (Eb (DW.dt (YI (DX (CW (CF GG rfl B.isi v8 (AA (AH 1) (AA (SE rfl B.tuple AAM) AE))))) (QY (F5 (Mh hu) (CF EC rfl B.len yT (AA (AH 1) AE)) AN)))) (AL (Ax K3)) BZ)
      (AS (FL 2 (DN Iq (AH 1) AN) HF.nd)
      (AS (Eb (DW.dt (YI (DX (CW (CF GG rfl B.isi v8 (AA (AH 2) (AA (SE rfl B.str boot_str) AE))))) (QY (Pc Jg rfl (AH 2))))) (AL (Ax K3)) BZ)
      (AS (FL 3 (iV Jg rfl (AH 2)) HF.nd)
      (AS (Eb (F5 (N7 hu) (CF EC rfl B.len yT (AA (AH 1) AE)) (GP Dm (CF EC rfl B.len yT (AA (AH 3) AE)) AN)) (AL (Ax K3)) BZ)
      (AS (Eb (DX (CW (CF (UA rfl) rfl B.all boot_all (AA (ZX [0,1] 2 ["train","thing","at","part"] rfl MC (hJ rfl B.enumerate (AH 3)) (λs H fp=>⟨WR rfl (Dy (Hd 2 IA) (Dy (Hd 3 IA) My)),Ud,deM Ib hr (AA (AH 0) (AA (AH 3) (AA (DN Iq (AH 1) (GP Dm (AH 2) AN)) AE)))⟩)) AE)))) (AL (Ax K3)) BZ)
      (AL (Ax (mX (PL Vm (AH 2) (Zm JX rfl)) (Yv (PL (N7 hu) (DN Iq (AH 1) AN) (DN Iq (AH 1) AN))))))))))))
theorem CJ:St.Dfn P w K mg base "are_first" 7 ["train","thing"] (spD K 2 Aq):=dfW (N:=["train","thing"]) 6 T.DQ scM λ_ _ _=>by
 have:Ab ["train","thing"] (AD DQ) ["train","load"] (ixC [0] 1) (MF DQ 0):=csM
 have:(["train","load"]:Wp Str).Nodup:=by decide+kernel
 walk_at "d T.bt T.J8 Zk"
theorem CK:St.Dfn P w K mg base "are_deeds" 8 ["train","thing"] (spD K 2 BH):=dfW (N:=["train","thing"]) 7 T.CH scM λ_ _ _=>by
 have:Ab ["train","thing"] (AD CH) ["train","deed"] (ixC [0] 1) (MF CH 0):=csM
 have:(["train","deed"]:Wp Str).Nodup:=by decide+kernel
 have:Ab ["train","thing"] (AD CH) ["deed"] (ixC [] 1) (MF CH 1):=csM
 have:(["deed"]:Wp Str).Nodup:=by decide+kernel
 walk_at "d T.bt T.KP T.Ir Bz"
theorem Vx:St.Dfn P w K mg base "has_pieces" 1 ["held","load","pieces"] (spD K 3 Be):=dfW (N:=["held","load","pieces"]) 0 T.Fz scM λ_ _ _=>by
 walk_at "d T.bt"
theorem ZA:St.Dfn P w K mg base "can_pool" 2 ["held","load","other"] (spD K 3 DF):=dfW (N:=["held","load","other"]) 1 T.G7 scM λ_ _ _=>by
 walk_at "d Vx"
theorem YX:St.Dfn P w K mg base "can_swap" 2 ["held","load","given","kind"] (spD K 4 DM):=dfW (N:=["held","load","given","kind"]) 1 T.HY scM λ_ _ _=>by
 walk_at "d Vx"
theorem dB:St.Dfn P w K mg base "can_do" 3 ["held","done","deed"] (spD K 3 B4):=dfW (N:=["held","done","deed","word","numbers"]) 2 T.GJ scM λ_ _ _=>by
 have:Ab ["held","done","deed","word","numbers"] (AD GJ) ["other"] (ixC [] 1) (MF GJ 0):=csM
 have:(["other"]:Wp Str).Nodup:=by decide+kernel
 walk_at "d Vx ZA YX"
theorem SQ:St.Dfn P w K mg base "held_without" 1 ["held","load","pieces"] (spD K 3 BS):=dfW (N:=["held","load","pieces","kind","there"]) 0 T.EM scM λ_ _ _=>by
 walk_at "d"
theorem VR:St.Dfn P w K mg base "held_behind" 2 ["held","deed"] (spD K 2 As):=dfW (N:=["held","deed","word","kind","pieces","more","load","given","got"]) 1 T.FP scM λ_ _ _=>by
 walk_at "d SQ"
theorem RT:St.Dfn P w K mg base "held_at_first" 1 ["book"] (spD K 1 Cm):=dfW (N:=["book"]) 0 T.CA scM λ_ _ _=>by
 have:Ab ["book"] (AD CA) ["load"] (ixC [] 1) (MF CA 0):=csM
 have:(["load"]:Wp Str).Nodup:=by decide+kernel
 walk_at "d"
theorem Ur:St.Dfn P w K mg base "first_wrong" 4 ["book"] (spD K 1 DU):=dfW (N:=["book","held","deeds","at","deed"]) 3 T.Ep scM λ_ _ _=>by
 walk_at "d T.bt dB VR RT"
theorem Ay:St.Dfn P w K mg base "refuse_undone" 5 ["book"] (spD K 1 Al):=dfW (N:=["book","wrong"]) 4 T.Dl scM λ_ _ _=>by
 walk_at "d Ur"
theorem Vy:St.Dfn P w K mg base "many_loads" 1 ["book","many"] (spD K 2 Cq):=dfW (N:=["book","many"]) 0 T.Cu scM λ_ _ _=>by
 have:Ab ["book","many"] (AD Cu) ["deed"] (ixC [] 1) (MF Cu 0):=csM
 have:(["deed"]:Wp Str).Nodup:=by decide+kernel
 walk_at "d T.bt T.Q9"
theorem Yd:St.Dfn P w K mg base "is_place" 4 ["book","thing"] (spD K 2 DC):=dfW (N:=["book","thing"]) 3 T.G8 scM λ_ _ _=>by
 walk_at "d T.bt V1"
theorem PU:bQ P w K mg base "refuse_no_number" 4 ["book","many"] (spR K mg 2 B2):=ij (N:=["book","many"]) 3 T.B1 scM λ_ _ _=>by
 walk_at "d T.bt V1 T.Mm"
theorem Co:St.Dfn P w K mg base "refuse_no_number" 4 ["book","many"] (spD K 2 BW):=dfW (N:=["book","many"]) 3 T.B1 scM λ_ _ _=>by
 walk_at "d T.bt V1"
theorem OK:bQ P w K mg base "refuse_no_partner" 5 ["book","partner"] (spR K mg 2 Bt):=ij (N:=["book","partner"]) 4 T.Br scM λ_ _ _=>by
 walk_at "d MB T.Le"
theorem Ce:St.Dfn P w K mg base "refuse_no_partner" 5 ["book","partner"] (spD K 2 BL):=dfW (N:=["book","partner"]) 4 T.Br scM λ_ _ _=>by
 walk_at "d MB"
theorem Im:bQ P w K mg base "made_by" 6 ["book","place"] (spR K mg 2 IQ):=ij (N:=["book","place"]) 5 T.Gn scM λ_ _ _=>by
 walk_at "d T.Q9 Ay Vy Yd T.Mm"
theorem Ez:St.Dfn P w K mg base "made_by" 6 ["book","place"] (spD K 2 Du):=dfW (N:=["book","place"]) 5 T.Gn scM λ_ _ _=>by
 walk_at "d T.Q9 Ay Vy Yd"
omit T bm in
theorem MH:Ar ["book","many","partner"] ["book","many","partner"] (AD Dd):=scM
theorem GN:bQ P w K mg base "theirs_by" 6 ["book","many","partner"] (spR K mg 3 Ec):=ij (N:=["book","many","partner"]) 5 T.Dd scM λ_ _ _=>by
 walk_at "d Ay Co Ce PU OK"
theorem Df:St.Dfn P w K mg base "theirs_by" 6 ["book","many","partner"] (spD K 3 EZ):=by
 have Ay:=Ay P base bm T
 have Co:=Co P base bm T
 have Ce:=Ce P base bm T
 refine dfM 5 T.Dd MH λhr hu=>?_
 exact(AS (GQ (deM Ay hr (AA (AH 0) AE)))
      (AS (GQ (deM Co hr (AA (AH 0) (AA (AH 1) AE))))
      (AS (GQ (deM Ce hr (AA (AH 0) (AA (AH 2) AE))))
      (AL (Ax (DN Iq Wr (AH 2)))))))
omit T bm in
theorem HU:Ar ["self","train","first"] ["self","train","first"] (AD Bc):=scM
theorem Fv:MkD P w K mg base (CXr P w) "Leader" 8 ["self","train","first"] (spR K mg 3 A5):=by
 have Ai:=T.Ai
 have Bb:=Bb P base bm T
 have CJ:=CJ P base bm T
 have G9:=T.G9
 have Hg:=T.Hg
 refine fc (N:=["self","train","first"]) 7 T.Bc HU λ{f cdv A outer s H E} nd_ hr hu=>?_
 exact(Fp (V6 (DX (CW (deM Bb hr (AA (AH 1) AE)))) (Jj (Kq rfl Hg rfl (AA BE AE))) OZ) (Eb (DX (CW (deM Bb hr (AA (AH 1) AE)))) (AL FT) BZ)
      (Fp (V6 (DX (CW (deM CJ hr (AA (AH 1) (AA (AH 2) AE))))) (Jj (Kq rfl G9 rfl (AA BE AE))) OZ) (Eb (DX (CW (deM CJ hr (AA (AH 1) (AA (AH 2) AE))))) (AL FT) BZ)
      OZ))
theorem CU:MkD P w K mg base CX0 "Leader" 8 ["self","train","first"] (spD K 3 AY):=by
 have Ai:=T.Ai
 have Bb:=Bb P base bm T
 have CJ:=CJ P base bm T
 refine nE (N:=["self","train","first"]) 7 T.Bc HU λ{f cdv A outer s H E} nd_ hr hu=>?_
 exact(AS (Eb (DX (CW (deM Bb hr (AA (AH 1) AE)))) (AL FT) BZ)
      (AS (Eb (DX (CW (deM CJ hr (AA (AH 1) (AA (AH 2) AE))))) (AL FT) BZ)
      (AS (U6 Ai (by decide) (AH 0) (Ap (AA (AH 1) (AA (AH 2) (AA (Ap AE) AE)))))
      (AL (U6 Ai (by decide) (AH 0) (Hv AE))))))
omit T bm in
theorem Ic:Ar ["self","book"] ["self","book"] (AD BC):=scM
theorem BO:MeD P w K mg base CX0 "Leader" "turn_to" 1 ["self","book"] (spD K 2 BD):=by
 have Ai:=T.Ai
 refine WD (N:=["self","book"]) 0 T.BC Ic λ{f cdv A outer s H E} nd_ hr hu=>?_
 exact(AS (GQ (gz zQ PySem.F.type_list_append bL (Iu Ai (by decide) (AH 0)) (AA (Iu Ai (by decide) (AH 0)) AE)))
      (AL (U6 Ai (by decide) (AH 0) (AH 1))))
omit T bm in
theorem A8:Ar ["self","deed","train","first","deeds","behind"] ["self","deed"] (AD Bx):=scM
theorem Gm:MeD P w K mg base (CXr P w) "Leader" "do" 9 ["self","deed"] (spR K mg 2 CG):=by
 have B:=T.bt
 have Ai:=T.Ai
 have Bz:=Bz P base bm T
 have CK:=CK P base bm T
 have Ay:=Ay P base bm T
 have Ez:=Ez P base bm T
 have BO:=BO P base bm T
 have JK:=T.JK
 have Hb:=T.Hb
 have Im:=Im P base bm T
 refine YY (N:=["self","deed","train","first","deeds","behind"]) 8 T.Bx A8 λ{f cdv A outer s H E} nd_ hr hu=>?_
 exact(Fp YM (VM (Iu Ai (by decide) (AH 0)) (WR rfl (Dy (Hd 2 A8.nd) (Dy (Hd 3 A8.nd) (Dy (Hd 4 A8.nd) My)))))
      (Fp (V6 (DX (CW (deM Bz hr (AA (AH 2) (AA (AH 1) AE))))) (Jj (Kq rfl JK rfl (AA BE AE))) OZ) (Eb (DX (CW (deM Bz hr (AA (AH 2) (AA (AH 1) AE))))) (AL FT) BZ)
      (Fp YM (FL 5 (Ap (AA (AH 2) (AA (AH 3) (AA (GP Dm (AH 4) (Ap (AA (AH 1) AE))) AE)))) A8.nd)
      (Fp YM (GQ (deM Ay hr (AA (AH 5) AE)))
      (Fp (V6 (DX (CW (deM CK hr (AA (AH 2) (AA (DN Iq (AH 5) AN) AE))))) (Jj (Kq rfl Hb rfl (AA BE AE))) OZ) (Eb (DX (CW (deM CK hr (AA (AH 2) (AA (DN Iq (AH 5) AN) AE))))) (AL FT) BZ)
      (Fp YM (GQ (JP BO hr (AH 0) (AA (AH 5) AE)))
      (Jj (ZK (Ua Im (hr.mono (by decide)) rfl (AA (AH 5) (AA (CF EC rfl B.len yT (AA (AH 4) AE)) AE)))))))))))
theorem EX:MeD P w K mg base CX0 "Leader" "do" 9 ["self","deed"] (spD K 2 BI):=by
 have B:=T.bt
 have Ai:=T.Ai
 have Bz:=Bz P base bm T
 have CK:=CK P base bm T
 have Ay:=Ay P base bm T
 have Ez:=Ez P base bm T
 have BO:=BO P base bm T
 refine WD (N:=["self","deed","train","first","deeds","behind"]) 8 T.Bx A8 λ{f cdv A outer s H E} nd_ hr hu=>?_
 exact(AS (VM (Iu Ai (by decide) (AH 0)) (WR rfl (Dy (Hd 2 A8.nd) (Dy (Hd 3 A8.nd) (Dy (Hd 4 A8.nd) My)))))
      (AS (Eb (DX (CW (deM Bz hr (AA (AH 2) (AA (AH 1) AE))))) (AL FT) BZ)
      (AS (FL 5 (Ap (AA (AH 2) (AA (AH 3) (AA (GP Dm (AH 4) (Ap (AA (AH 1) AE))) AE)))) A8.nd)
      (AS (GQ (deM Ay hr (AA (AH 5) AE)))
      (AS (Eb (DX (CW (deM CK hr (AA (AH 2) (AA (DN Iq (AH 5) AN) AE))))) (AL FT) BZ)
      (AS (GQ (JP BO hr (AH 0) (AA (AH 5) AE)))
      (AL (Ax (deM Ez hr (AA (AH 5) (AA (CF EC rfl B.len yT (AA (AH 4) AE)) AE)))))))))))
omit T bm in
theorem KW:Ar ["self"] ["self"] (AD Bn):=scM
theorem FO:MeD P w K mg base CX0 "Leader" "book" 1 ["self"] (spD K 1 Cb):=by
 have Ai:=T.Ai
 refine WD (N:=["self"]) 0 T.Bn KW λ{f cdv A outer s H E} nd_ hr hu=>?_
 exact(AL (Ax (Iu Ai (by decide) (AH 0))))
omit T bm in
theorem FU:Ar ["self","partner"] ["self","partner"] (AD A1):=scM
theorem Dr:MeD P w K mg base (CXr P w) "Leader" "theirs" 7 ["self","partner"] (spR K mg 2 Bg):=by
 have B:=T.bt
 have Ai:=T.Ai
 have Df:=Df P base bm T
 have GN:=GN P base bm T
 refine YY (N:=["self","partner"]) 6 T.A1 FU λ{f cdv A outer s H E} nd_ hr hu=>?_
 exact(Jj (ZK (Ua GN (hr.mono (by decide)) rfl (AA (Iu Ai (by decide) (AH 0)) (AA (CF EC rfl B.len yT (AA (DN Iq (Iu Ai (by decide) (AH 0)) AN) AE)) (AA (AH 1) AE))))))
theorem Dp:MeD P w K mg base CX0 "Leader" "theirs" 7 ["self","partner"] (spD K 2 Bf):=by
 have B:=T.bt
 have Ai:=T.Ai
 have Df:=Df P base bm T
 refine WD (N:=["self","partner"]) 6 T.A1 FU λ{f cdv A outer s H E} nd_ hr hu=>?_
 exact(AL (Ax (deM Df hr (AA (Iu Ai (by decide) (AH 0)) (AA (CF EC rfl B.len yT (AA (DN Iq (Iu Ai (by decide) (AH 0)) AN) AE)) (AA (AH 1) AE))))))
theorem Ls:St.Dfn P w K mg base "_law_pen" 1 ["_law_cell"] (spD K 1 HN):=dfW (N:=["_law_cell"]) 0 T.LQ scM λ_ _ _=>by
 walk_at "d T.bt"
theorem Gb:St.Dfn P w K mg base "_law_cell_at" 1 ["_law_script","_law_k"] (spD K 2 Cj):=dfW (N:=["_law_script","_law_k"]) 0 T.GS scM λ_ _ _=>by
 walk_at "d T.bt"
theorem BR:St.Dfn P w K mg base "_law_draw" 1 ["_law_pen_here","_law_bound"] (spD K 2 AG):=dfW (N:=["_law_pen_here","_law_bound","_law_found","_law_stir"]) 0 T.J0 scM λ_ _ _=>by
 walk_at "d"
theorem Yr:St.Dfn P w K mg base "_law_common" 1 ["_law_one","_law_other"] (spD K 2 FV):=dfW (N:=["_law_one","_law_other"]) 0 T.HK scM λ_ _ _=>by
 walk_at "d"
theorem dD:St.Dfn P w K mg base "_law_made" 2 ["_law_top","_law_bottom"] (spD K 2 Bh):=dfW (N:=["_law_top","_law_bottom","_law_by"]) 1 T.Je scM λ_ _ _=>by
 walk_at "d T.bt Yr"
theorem Zu:St.Dfn P w K mg base "_law_whole" 3 ["_law_pen_here","_law_many"] (spD K 2 C6):=dfW (N:=["_law_pen_here","_law_many","_law_weights"]) 2 T.C7 scM λ_ _ _=>by
 have:Ab ["_law_pen_here","_law_many","_law_weights"] (AD C7) ["_law_pen_here","_law_one"] (ixC [0] 1) (MF C7 0):=csM
 have:(["_law_pen_here","_law_one"]:Wp Str).Nodup:=by decide+kernel
 have:Ab ["_law_pen_here","_law_many","_law_weights"] (AD C7) ["_law_weights","_law_weight"] (ixC [2] 1) (MF C7 1):=csM
 have:(["_law_weights","_law_weight"]:Wp Str).Nodup:=by decide+kernel
 walk_at "d T.bt BR dD"
theorem bD:St.Dfn P w K mg base "_law_train" 4 ["_law_pen_here"] (spD K 1 Er):=dfW (N:=["_law_pen_here","_law_partners","_law_kinds","_law_beasts"]) 3 T.IU scM λ_ _ _=>by
 walk_at "d BR Zu"
theorem Y0:St.Dfn P w K mg base "_law_pieces" 2 ["_law_pen_here"] (spD K 1 BF):=dfW (N:=["_law_pen_here","_law_great"]) 1 T.HG scM λ_ _ _=>by
 walk_at "d BR"
theorem Zd:St.Dfn P w K mg base "_law_first" 4 ["_law_pen_here","_law_train_here"] (spD K 2 Eu):=dfW (N:=["_law_pen_here","_law_train_here","_law_found","_law_k"]) 3 T.Il scM λ_ _ _=>by
 walk_at "d T.bt BR Zu Y0"
theorem Ij:St.Dfn P w K mg base "_law_begin" 5 ["_law_pen_here"] (spD K 1 Et):=dfW (N:=["_law_pen_here","_law_train_here"]) 4 T.IK scM λ_ _ _=>by
 walk_at "d bD Zd"
omit T bm in
theorem HW:Ar ["_law_pen_here","_law_deep","_law_way","_law_parts"] ["_law_pen_here","_law_deep"] (AD C4):=scM
omit T bm in
theorem MI:Ab ["_law_pen_here","_law_deep","_law_way","_law_parts"] (AD C4) ["_law_pen_here","_law_deep","_law_k"] (ixC [0,1] 1) (MF C4 0):=csM
omit T bm in
theorem Lz:(["_law_pen_here","_law_deep","_law_k"]:Wp Str).Nodup:=by decide+kernel
theorem Bk:∀n:Nat,n<=8->St.Dfn P w K mg base "_law_thing" (2+n) ["_law_pen_here","_law_deep"] (spD K 2 (Ao n))
 |0,_=>Qu T.C4 (λ_ _ F=>bnR F λ_ _ _ _ _ _ _=>rfl)
 |n+1,hn=>by
  have Bk:=Bk n (by lia)
  have B:=T.bt
  have BR:=BR P base bm T
  refine dfM (2+n) T.C4 HW λhr hu=>?_
  exact(AS (FL 2 (deM BR hr (AA (AH 0) (AA AN AE))) HW.nd)
   (AS (Eb (DW.dt (YI (F5 Qg (AH 2) AN) (QY (F5 (Mh hu) (AH 1) AN)))) (AL (Ax (DN Iq (Hv (AA B9 (AA K3 (AA K3 (AA AN (AA AN (AA (UM LH AN) (AA AN (AA (GP T9 AN AN) (AA BE (AA BE (AA (Ap AE) (AA (Hv AE) AE))))))))))))) (deM BR hr (AA (AH 0) (AA AN AE)))))) BZ)
   (AS (Rv [0,1] 1 ["_law_pen_here","_law_deep","_law_k"] rfl HW.nd rfl rfl MI (VA rfl B.range (AA (deM BR hr (AA (AH 0) (AA AN AE))) AE)) (λs H fp=>⟨Hd 2 Lz,Ud,deM Bk hr (AA (AH 0) (AA (GP Th (AH 1) AN) AE))⟩))
   (AS (Eb (F5 (Mh hu) (AH 2) AN) (AL (Ax (AH 3))) BZ)
   (AS (Eb (F5 (Mh hu) (AH 2) AN) (AL (Ax (dy (X8 BE (AH 3) bZ) (List.cons_ne_nil _ _) (by decide)))) BZ)
   (AL (Ax (HE QA rfl B.tuple AAM (AA (AH 3) AE)))))))))
omit T bm in
theorem GW:Ar ["_law_pen_here","_law_thing_here","_law_at","_law_way"] ["_law_pen_here","_law_thing_here"] (AD D5):=scM
theorem Bv:∀n:Nat,n<=8->St.Dfn P w K mg base "_law_spoilt" (11+n) ["_law_pen_here","_law_thing_here"] (spD K 2 (Av n))
 |0,_=>Qu T.D5 (λ_ _ F=>bnR F λ_ _ _ _ _ _ _=>rfl)
 |n+1,hn=>by
  have Bv:=Bv n (by lia)
  have B:=T.bt
  have BR:=BR P base bm T
  have Bk:=Bk P base bm T 8 (by decide)
  refine dfM (11+n) T.D5 GW λhr hu=>?_
  exact(AS (Eb (DW.dt (MK (CW (CF GG rfl B.isi v8 (AA (AH 1) (AA (SE rfl B.tuple AAM) AE)))) (MK (F5 (N7 hu) (AH 1) (Ap AE)) (Lk (F5 ZE (deM BR hr (AA (AH 0) (AA AN AE))) AN))))) (AS (FL 2 (deM BR hr (AA (AH 0) (AA (CF EC rfl B.len yT (AA (AH 1) AE)) AE))) GW.nd)
   (AL (Ax (GP Dm (GP Dm (NT (AH 1) (AH 2)) (Ap (AA (deM Bv hr (AA (AH 0) (AA (DN Iq (AH 1) (AH 2)) AE))) AE))) (Tc (AH 1) (GP Dm (AH 2) AN)))))) BZ)
   (AS (FL 3 (deM BR hr (AA (AH 0) (AA AN AE))) GW.nd)
   (AS (Eb (DW.dt (MK (CW (CF GG rfl B.isi v8 (AA (AH 1) (AA (SE rfl B.tuple AAM) AE)))) (Lk (F5 Qg (AH 3) AN)))) (AL (Ax (DN Iq (Hv (AA (GP Dm (AH 1) (Tc (AH 1) (UM LH AN))) (AA (NT (AH 1) (UM LH AN)) (AA (HE Mw rfl B.list boot_list (AA (AH 1) AE)) (AA (dg (AH 1)) AE))))) (AH 3)))) BZ)
   (AS (Eb (DW.dt (MK (CW (CF GG rfl B.isi v8 (AA (AH 1) (AA (SE rfl B.int boot_int) AE)))) (Lk (F5 Qg (AH 3) AN)))) (AL (Ax (DN Iq (Hv (AA (GP Dm (AH 1) AN) (AA (GP Th (AH 1) AN) (AA (PL ZE (AH 1) AN) (AA (HE Uu rfl B.str boot_str (AA (AH 1) AE)) AE))))) (AH 3)))) BZ)
   (AS (Eb (DW.dt (MK (CW (CF GG rfl B.isi v8 (AA (AH 1) (AA (SE rfl B.str boot_str) AE)))) (Lk (F5 Qg (AH 3) AN)))) (AL (Ax (DN Iq (Hv (AA (GP Dm (AH 1) BE) (AA (YG (AH 1)) (AA (NT (AH 1) (UM LH AN)) (AA (GP Dm BE (AH 1)) AE))))) (AH 3)))) BZ)
   (AL (Ax (deM Bk hr (AA (AH 0) (AA AN AE))))))))))
theorem F1:St.Dfn P w K mg base "_law_is_first" 7 ["_law_train_here","_law_thing_here"] (spD K 2 CS):=dfW (N:=["_law_train_here","_law_thing_here"]) 6 T.Ct scM λ_ _ _=>by
 have:Ab ["_law_train_here","_law_thing_here"] (AD Ct) ["_law_train_here","_law_load"] (ixC [0] 1) (MF Ct 0):=csM
 have:(["_law_train_here","_law_load"]:Wp Str).Nodup:=by decide+kernel
 walk_at "d T.bt Zk"
omit T bm in
theorem Fs:Ar ["_law_train_here","_law_first_here","_law_due"] ["_law_train_here","_law_first_here"] (AD Cg):=scM
omit T bm in
theorem KS:Hm ["_law_train_here","_law_first_here","_law_due"] (AD Cg) ["_law_train_here","_law_first_here"] [0,1] (mH Cg 0):=lsM
theorem DP:St.Dfn P w K mg base "_law_made_so" 13 ["_law_train_here","_law_first_here"] (spD K 2 BY):=by
 have B:=T.bt
 have S_law_said:=T.GF
 have Bb:=Bb P base bm T
 have CU:=CU P base bm T
 have F1:=F1 P base bm T
 have EV:=T.EV
 have DV:=T.DV
 have Ea:=T.Ea
 have CN:=T.CN
 have De:=T.De
 have DO:=T.DO
 have Ba:=T.Ba
 have DZ:=T.DZ
 have Fv:=Fv P base bm T
 refine dfL 12 T.Cg Fs λci hr hu=>?_
 exact(AS (FL 2 BE Fs.nd)
      (AS (Eb (CW (deM Bb hr (AA (AH 0) AE))) (AL (FL 2 (DN Iq (Hv (AA BE (AA BE AE))) (HE VX rfl B.int boot_int (AA (deM F1 hr (AA (AH 0) (AA (AH 1) AE))) AE))) Fs.nd)) BZ)
      (AL (Ax (PL (Mh hu) (DN Iq (QK (k:=9) S_law_said Ii KS ci bm (hr.mono (by decide)) rfl (λf c' clos A outer s H hr=>(Qw CU hr rfl (AA (AH 0) (AA (AH 1) AE)))) (λf c' clos A outer s H hr=>(Xm Fv hr rfl (AA (AH 0) (AA (AH 1) AE)))) (λ_ _ _ _ _ _=>(By EV rfl (λ_=>AL (Ax (Ap (AA BE (AA B9 AE))))) (Pu DO rfl (By DZ rfl (λ_=>AL (Ax (Ap (AA BE (AA B9 AE))))) (By Ea rfl (λ_=>AL (Ax (Ap (AA BE (AA B9 AE))))) (By Ba rfl (λ_=>AL (Ax (Ap (AA BE (AA B9 AE))))) (By CN rfl (λ_=>AL (Ax (Ap (AA BE (AA B9 AE))))) (By DV rfl (λ_=>AL (Ax (Ap (AA BE (AA B9 AE))))) (By De rfl (λ_=>AL (Ax (Ap (AA BE (AA B9 AE))))) TF)))))))))) AN) (AH 2))))))
theorem bq:St.Dfn P w K mg base "_law_begun" 1 ["_law_book_here"] (spD K 1 GR):=dfW (N:=["_law_book_here"]) 0 T.E9 scM λ_ _ _=>by
 have:Ab ["_law_book_here"] (AD E9) ["_law_load"] (ixC [] 1) (MF E9 0):=csM
 have:(["_law_load"]:Wp Str).Nodup:=by decide+kernel
 walk_at "d T.bt"
theorem ZQ:St.Dfn P w K mg base "_law_share" 3 ["_law_pen_here"] (spD K 1 Es):=dfW (N:=["_law_pen_here","_law_bottom"]) 2 T.Io scM λ_ _ _=>by
 walk_at "d BR dD"
theorem ZI:St.Dfn P w K mg base "_law_worths" 2 ["_law_pen_here","_law_many"] (spD K 2 DB):=dfW (N:=["_law_pen_here","_law_many"]) 1 T.D4 scM λ_ _ _=>by
 have:Ab ["_law_pen_here","_law_many"] (AD D4) ["_law_pen_here","_law_one"] (ixC [0] 1) (MF D4 0):=csM
 have:(["_law_pen_here","_law_one"]:Wp Str).Nodup:=by decide+kernel
 walk_at "d T.bt BR"
theorem cw:St.Dfn P w K mg base "_law_deed" 4 ["_law_pen_here","_law_train_here","_law_state"] (spD K 3 Dk):=dfW (N:=["_law_pen_here","_law_train_here","_law_state","_law_loads","_law_holders","_law_numbers","_law_full","_law_way","_law_load","_law_some","_law_same","_law_kind","_law_left","_law_partner"]) 3 T.Ci scM λ_ _ _=>by
 have:Ab ["_law_pen_here","_law_train_here","_law_state","_law_loads","_law_holders","_law_numbers","_law_full","_law_way","_law_load","_law_some","_law_same","_law_kind","_law_left","_law_partner"] (AD Ci) ["_law_at","_law_load"] (ixC [] 2) (MF Ci 0):=csM
 have:(["_law_at","_law_load"]:Wp Str).Nodup:=by decide+kernel
 have:Ab ["_law_pen_here","_law_train_here","_law_state","_law_loads","_law_holders","_law_numbers","_law_full","_law_way","_law_load","_law_some","_law_same","_law_kind","_law_left","_law_partner"] (AD Ci) ["_law_loads","_law_load","_law_at"] (ixC [3,8] 1) (MF Ci 1):=csM
 have:(["_law_loads","_law_load","_law_at"]:Wp Str).Nodup:=by decide+kernel
 have:Ab ["_law_pen_here","_law_train_here","_law_state","_law_loads","_law_holders","_law_numbers","_law_full","_law_way","_law_load","_law_some","_law_same","_law_kind","_law_left","_law_partner"] (AD Ci) ["_law_numbers","_law_number"] (ixC [5] 1) (MF Ci 2):=csM
 have:(["_law_numbers","_law_number"]:Wp Str).Nodup:=by decide+kernel
 walk_at "d T.bt BR Y0 ZQ ZI"
theorem dE:St.Dfn P w K mg base "_law_plus" 3 ["_law_one","_law_other"] (spD K 2 B5):=dfW (N:=["_law_one","_law_other"]) 2 T.J2 scM λ_ _ _=>by
 walk_at "d dD"
theorem aG:St.Dfn P w K mg base "_law_times" 3 ["_law_one","_law_other"] (spD K 2 Aw):=dfW (N:=["_law_one","_law_other"]) 2 T.IJ scM λ_ _ _=>by
 walk_at "d dD"
theorem Yq:St.Dfn P w K mg base "_law_pooled" 4 ["_law_one","_law_other"] (spD K 2 Fo):=dfW (N:=["_law_one","_law_other","_law_found","_law_mine","_law_its","_law_both"]) 3 T.HQ scM λ_ _ _=>by
 walk_at "d T.bt dD dE aG"
theorem dF:St.Dfn P w K mg base "_law_cost" 3 ["_law_train_here","_law_loads","_law_deed_here"] (spD K 3 Hs):=dfW (N:=["_law_train_here","_law_loads","_law_deed_here","_law_worths_here","_law_whole_here"]) 2 T.F9 scM λ_ _ _=>by
 have:Ab ["_law_train_here","_law_loads","_law_deed_here","_law_worths_here","_law_whole_here"] (AD F9) ["_law_worths_here","_law_kind","_law_pieces_here","_law_owners"] (ixC [3] 3) (MF F9 0):=csM
 have:(["_law_worths_here","_law_kind","_law_pieces_here","_law_owners"]:Wp Str).Nodup:=by decide+kernel
 walk_at "d T.bt dD"
theorem cu:St.Dfn P w K mg base "_law_less" 4 ["_law_one","_law_other"] (spD K 2 DJ):=dfW (N:=["_law_one","_law_other"]) 3 T.Jl scM λ_ _ _=>by
 walk_at "d dE"
theorem Z6:St.Dfn P w K mg base "_law_borne" 5 ["_law_shares","_law_part","_law_owners"] (spD K 3 Dw):=dfW (N:=["_law_shares","_law_part","_law_owners","_law_found","_law_mine","_law_its"]) 4 T.IS scM λ_ _ _=>by
 walk_at "d T.bt dE aG cu"
theorem dG:St.Dfn P w K mg base "_law_sold" 5 ["_law_shares","_law_deed_here"] (spD K 2 Eg):=dfW (N:=["_law_shares","_law_deed_here","_law_found","_law_passes"]) 4 T.Jb scM λ_ _ _=>by
 walk_at "d T.bt dE aG cu"
theorem c9:St.Dfn P w K mg base "_law_turn" 6 ["_law_train_here","_law_state","_law_deed_here"] (spD K 3 Eh):=dfW (N:=["_law_train_here","_law_state","_law_deed_here","_law_loads","_law_holders","_law_numbers","_law_part","_law_owners","_law_load"]) 5 T.Jf scM λ_ _ _=>by
 walk_at "d dF Z6 dG"
theorem jJ:St.Dfn P w K mg base "_law_do" 7 ["_law_train_here","_law_state","_law_deed_here"] (spD K 3 Dg):=dfW (N:=["_law_train_here","_law_state","_law_deed_here","_law_loads","_law_holders","_law_numbers","_law_word","_law_one","_law_other","_law_load","_law_given","_law_kind","_law_got"]) 6 T.JF scM λ_ _ _=>by
 have:Ab ["_law_train_here","_law_state","_law_deed_here","_law_loads","_law_holders","_law_numbers","_law_word","_law_one","_law_other","_law_load","_law_given","_law_kind","_law_got"] (AD JF) ["_law_deed_here","_law_one"] (ixC [2] 1) (MF JF 0):=csM
 have:(["_law_deed_here","_law_one"]:Wp Str).Nodup:=by decide+kernel
 walk_at "d T.bt Yq c9"
theorem Jx:St.Dfn P w K mg base "_law_book" 8 ["_law_pen_here","_law_most"] (spD K 2 Ek):=dfW (N:=["_law_pen_here","_law_most","_law_train_here","_law_first_here","_law_state","_law_deeds","_law_k","_law_deed_here"]) 7 T.GA scM λ_ _ _=>by
 have:Ab ["_law_pen_here","_law_most","_law_train_here","_law_first_here","_law_state","_law_deeds","_law_k","_law_deed_here"] (AD GA) ["_law_one"] (ixC [] 1) (MF GA 0):=csM
 have:(["_law_one"]:Wp Str).Nodup:=by decide+kernel
 walk_at "d T.bt BR bD Zd bq cw jJ"
end
theorem nr{α:Sort _}{a b:α}(h:a=b):a=b:=h
@[simp high] theorem BP{α β:Type}(a:α)(f:α->Option β):(some a).bind f=f a:=Eq.mp (congrArg (λz=>z=f a) rfl) (Eq.refl (f a))
@[simp high] theorem lV{α β:Type}(a:α)(f:α->β):(some a).map f=some (f a):=Eq.mp (congrArg (λz=>z=some (f a)) rfl) (Eq.refl (some (f a)))
section
variable{E:En}{S:Sto}{op:OpN}{f g c:Ev}{d:D}{i:Nat}{w:Wv}{a b e h r':D}{r:Wp D}{fs:Wp Ev}
@[simp] theorem q9{o:Option D}{E:En}:at? (o::E) 0=o:=nr rfl
@[simp] theorem rD{o:Option D}{E:En}{i:Nat}:at? (o::E) (i+1)=at? E i:=nr rfl
@[simp] theorem nU:eC d E S=some (d,S):=nr rfl
@[simp] theorem nT:eV i E S=(at? E i).map λd=>(d,S):=nr rfl
@[simp] theorem ay:evs [] E S=some ([],S):=nr rfl
@[simp] theorem Cz:evs (f::fs) E S=(f E S).bind λr=>(evs fs E r.2).map λq=>(r.1::q.1,q.2):=nr rfl
@[simp] theorem UX{cf:Bool}:Ny cf op fs E S=(evs fs E S).bind λr=>(op (r.1.map (dr r.2))).bind λw=>fin cf w r.2:=nr rfl
@[simp] theorem p9{cf:Bool}:fin cf (.val d) S=some (d,S):=by cases cf<;>rfl
@[simp] theorem qr:fin false (.own r) S=some (.lst r,S):=nr rfl
@[simp] theorem qy:fin true (.own r) S=some (.ref S.length,S++[.lst r]):=nr rfl
@[simp] theorem nS:dr S .non=.val .non:=nr rfl
@[simp] theorem qN{b:Bool}:dr S (.bl b)=.val (.bl b):=nr rfl
@[simp] theorem nX{i:Int}:dr S (.int i)=.val (.int i):=nr rfl
@[simp] theorem oH{x:Str}:dr S (.str x)=.val (.str x):=nr rfl
@[simp] theorem pX{x:String}:dr S (.ty x)=.val (.ty x):=nr rfl
@[simp] theorem nP:dr S (.tup r)=.val (.tup r):=nr rfl
@[simp] theorem nq:dr S (.lst r)=.val (.lst r):=nr rfl
@[simp] theorem nQ{ns:List Int}:dr S (.scr ns)=.val (.scr ns):=nr rfl
theorem A4{n:Nat}(h:S[n]?=Gc (.lst r)):dr S (.ref n)=.own r:=by
 show(match S[n]? with|some (.lst ds)=>Wv.own ds|_=>.val (.ref n))=_
 rw[h]
theorem AR{n:Nat}(h:S[n]?=Gc (.lst r)):EI S n=Gc r:=by
 unfold EI
 rw[h]
@[simp] theorem nW:fz (.val d)=d:=nr rfl
noncomputable def mP(g:Ev)(E:En)(r:D×Sto):rW (D×Sto):=match r.1 with| .bl true=>g E r.2| .bl false=>Gc (.bl false,r.2)|_=>none
noncomputable def orK(g:Ev)(E:En)(r:D×Sto):rW (D×Sto):=match r.1 with| .bl false=>g E r.2| .bl true=>Gc (.bl true,r.2)|_=>none
noncomputable def nY(r:D×Sto):rW (D×Sto):=match r.1 with| .bl b=>Gc (.bl (!b),r.2)|_=>none
@[simp] theorem oI:mP g E (.bl true,S)=g E S:=nr rfl
@[simp] theorem oW:mP g E (.bl false,S)=some (.bl false,S):=nr rfl
@[simp] theorem qZ:orK g E (.bl false,S)=g E S:=nr rfl
@[simp] theorem qk:orK g E (.bl true,S)=some (.bl true,S):=nr rfl
@[simp] theorem oY{b:Bool}:nY (.bl b,S)=some (.bl (!b),S):=nr rfl
@[simp] theorem kB:D2 f g E S=(f E S).bind (mP g E):=nr rfl
@[simp] theorem Pa:eOr f g E S=(f E S).bind (orK g E):=nr rfl
@[simp] theorem ir:Di f E S=(f E S).bind nY:=nr rfl
@[simp] theorem j8:Az fs E S=(evs fs E S).bind λr=>if r.1.length<=sizeLine then some (.tup r.1,r.2)else none:=nr rfl
@[simp] theorem jC{cf:Bool}:X9 cf fs E S=(evs fs E S).bind λr=>if r.1.length<=sizeLine then fin cf (.own r.1) r.2 else none:=nr rfl
@[simp] theorem eS{F:Fn}:AF F fs E S=(evs fs E S).bind λr=>F r.1 r.2:=nr rfl
noncomputable def ny(op:Mo)(fs:Wp Ev)(E:En)(r:D×Sto):rW (D×Sto):=match r.1 with
 | .ref n=>(EI r.2 n).bind λ_=>(evs fs E r.2).bind λp=>(EI p.2 n).bind λds=>(op p.2 ds p.1).map λq=>(q.1,p.2.set n (.lst q.2))
 |_=>none
@[simp] theorem jL{op:Mo}{n:Nat}:ny op fs E (.ref n,S)=(EI S n).bind λ_=>(evs fs E S).bind λp=>(EI p.2 n).bind λds=>(op p.2 ds p.1).map λq=>(q.1,p.2.set n (.lst q.2)):=nr rfl
@[simp] theorem kD{op:Mo}:Nz op f fs E S=(f E S).bind (ny op fs E):=nr rfl
@[simp] theorem j6:Ou S r [d]=if r.length<sizeLine then some (.non,r++[d])else none:=nr rfl
variable{x y:Ex}
noncomputable def dA(y:Ex)(r:Fl×En×Sto):rW (Fl×En×Sto):=match r.1 with| .nx=>y r.2.1 r.2.2| .ret w=>Gc (.ret w,r.2)
noncomputable def kj(x y:Ex)(E:En)(r:D×Sto):rW (Fl×En×Sto):=match r.1 with| .bl true=>x E r.2| .bl false=>y E r.2|_=>none
@[simp] theorem cL:dA y (.nx,E,S)=y E S:=nr rfl
@[simp] theorem j4{w:D}:dA y (.ret w,E,S)=some (.ret w,E,S):=nr rfl
@[simp] theorem ox:kj x y E (.bl true,S)=x E S:=nr rfl
@[simp] theorem nj:kj x y E (.bl false,S)=y E S:=nr rfl
@[simp] theorem QX:AV x y E S=(x E S).bind (dA y):=nr rfl
@[simp] theorem jA:Bo E S=some (.nx,E,S):=nr rfl
@[simp] theorem To:xIf c x y E S=(c E S).bind (kj x y E):=nr rfl
@[simp] theorem iz:Ah f E S=(f E S).map λr=>(.ret r.1,E,r.2):=nr rfl
@[simp] theorem XX:Bs i f E S=(f E S).map λr=>(.nx,E.set i (some r.1),r.2):=nr rfl
@[simp] theorem Vc:CM f E S=(f E S).map λr=>(.nx,E,r.2):=nr rfl
noncomputable def nk(d b:D)(E:En)(i:D×Sto):rW (Fl×En×Sto):=match b,i.1 with
 | .ref n,.int j=>(EI i.2 n).bind λds=>(ixN ds.length j).map λm=>(.nx,E,i.2.set n (.lst (ds.set m d)))
 |_,_=>none
@[simp] theorem jF{n:Nat}{j:Int}:nk d (.ref n) E (.int j,S)=(EI S n).bind λds=>(ixN ds.length j).map λm=>(.nx,E,S.set n (.lst (ds.set m d))):=nr rfl
@[simp] theorem ip{k o:Ev}:N0 k f o E S=(k E S).bind λr=>(f E r.2).bind λb=>(o E b.2).bind (nk r.1 b.1 E):=nr rfl
@[simp] theorem jd{t:Tf}:Mj t f E S=(f E S).bind λr=>(t r.1 E r.2).map λE'=>(.nx,E',r.2):=nr rfl
@[simp] theorem ie{i j:Nat}:SO i j f g E S=(f E S).bind λr=>(g E r.2).map λq=>(.nx,(E.set i (some r.1)).set j (some q.1),q.2):=by
  unfold SO
  rw[Cz]
  cases f E S with
  |none=>rfl
  |some r=>
   rw[BP,BP,Cz]
   cases g E r.2 with
   |none=>rfl
   |some q=>rfl
@[simp] theorem bH:tNm i d E S=some (E.set i (some d)):=nr rfl
@[simp] theorem mM{ts:List Tf}{ds:List D}:tTp ts (.tup ds) E S=tMs ts ds E S:=nr rfl
@[simp] theorem lF{ts:List Tf}{n:Nat}:tTp ts (.ref n) E S=(EI S n).bind λds=>tMs ts ds E S:=nr rfl
@[simp] theorem mF:tMs [] [] E S=some E:=nr rfl
@[simp] theorem jS{t:Tf}{ts:List Tf}{ds:List D}:tMs (t::ts) (d::ds) E S=(t d E S).bind λE1=>tMs ts ds E1 S:=nr rfl
@[simp] theorem eL{N:Nat}{ds:List D}:AW (Af N x) ds S=(x (ds.map some++List.replicate (N-ds.length) none) S).map λr=>(flD r.1,r.2.2):=by rw[IY];rfl
@[simp] theorem nR:flD .nx=.non:=nr rfl
@[simp] theorem l8:flD (.ret d)=d:=nr rfl
@[simp] theorem lE{i j:Int}:CP (.val (.int i)) (.val (.int j))=some (.val (.int (i+j))):=nr rfl
@[simp] theorem nG{i j:Str}:CP (.val (.str i)) (.val (.str j))=if i.length+j.length<=sizeLine then some (.val (.str (i++j)))else none:=nr rfl
@[simp] theorem mr{xs ys:List D}:CP (.val (.tup xs)) (.val (.tup ys))=if xs.length+ys.length<=sizeLine then some (.val (.tup (xs++ys)))else none:=nr rfl
@[simp] theorem lr{xs ys:List D}:CP (.val (.lst xs)) (.val (.lst ys))=if xs.length+ys.length<=sizeLine then some (.own (xs++ys))else none:=nr rfl
@[simp] theorem jr{i j:Int}:Dx (.val (.int i)) (.val (.int j))=if Dt i j=true then some (.val (.int (i*j)))else none:=nr rfl
@[simp] theorem W9{k:Int}:Dx (.val (.tup r)) (.val (.int k))=if(!r.isEmpty && decide (k<=0) && decide (-(2^63)<=k))=true then some (.val (.tup []))else if(!r.isEmpty && decide (1<=k) && decide (r.length*k.toNat<=sizeLine))=true then some (.val (.tup (List.replicate k.toNat r).flatten))else none:=nr rfl
@[simp] theorem mz:asS (.own r)=some r:=nr rfl
@[simp] theorem mv:asS (.val (.lst r))=some r:=nr rfl
@[simp] theorem kZ:asS (.val (.tup r))=some r:=nr rfl
@[simp] theorem mG{ns:List Int}:asS (.val (.scr ns))=some (ns.map .int):=nr rfl
@[simp] theorem lY{j:Int}:wIx w (.val (.int j))=(asS w).bind λds=>(atI ds j).map .val:=nr rfl
theorem C9{α:Type}{xs:Wp α}{n:Nat}{x:α}(h:xs[n]?=Gc x):atI xs (n:Int)=Gc x:=ZP h
theorem Yw{α:Type}{xs:Wp α}{i:Int}(h0:0<=i)(h1:i<xs.length):atI xs i=Gc (xs[i.toNat]'(by lia)):=by
 have:atI xs ((i.toNat:Nat):Int)=Gc (xs[i.toNat]'(by lia)):=C9 (sF (by lia))
 rwa [uD h0]at this
@[simp] theorem kO:atI (a::r) 0=some a:=C9 (n:=0) rfl
@[simp] theorem qX:atI (a::b::r) 1=some b:=C9 (n:=1) rfl
@[simp] theorem qM:atI (a::b::e::r) 2=some e:=C9 (n:=2) rfl
@[simp] theorem qS:atI (a::b::e::h::r) 3=some h:=C9 (n:=3) rfl
@[simp] theorem pJ{k:D}:atI (a::b::e::h::k::r) 4=some k:=C9 (n:=4) rfl
@[simp] theorem qR{k l:D}:atI (a::b::e::h::k::l::r) 5=some l:=C9 (n:=5) rfl
theorem QD{n k:Nat}(h:k<n):ixN n (k:Int)=Gc k:=by
 unfold ixN
 simp
 lia
theorem Qb{n:Nat}{i:Int}(h0:0<=i)(h1:i<n):ixN n i=Gc i.toNat:=by
 have:=QD (n:=n) (k:=i.toNat) (by lia)
 rwa [uD h0]at this
@[simp] theorem qf{n:Nat}:ixN (n+1) 0=some 0:=Qb (by decide) (by lia)
@[simp] theorem pU{n:Nat}:ixN (n+2) 1=some 1:=Qb (by decide) (by lia)
@[simp] theorem qg{n:Nat}:ixN (n+3) 2=some 2:=Qb (by decide) (by lia)
@[simp] theorem oU{i j:Int}:deq (.int i) (.int j)=(i==j):=nr rfl
@[simp] theorem ke{i j:Int}:KZ (.int i) (.int j)=true:=nr rfl
@[simp] theorem kR{w':Wv}:wEq w w'=if KZ (fz w) (fz w')=true then some (.val (.bl (deq (fz w) (fz w'))))else none:=nr rfl
@[simp] theorem nB{w':Wv}:wNe w w'=if KZ (fz w) (fz w')=true then some (.val (.bl (!deq (fz w) (fz w'))))else none:=nr rfl
@[simp] theorem kM{i j:Int}:wLt (.val (.int i)) (.val (.int j))=some (.val (.bl (decide (i<j)))):=nr rfl
@[simp] theorem kQ{i j:Int}:wLe (.val (.int i)) (.val (.int j))=some (.val (.bl (decide (i<=j)))):=nr rfl
@[simp] theorem nC{i j:Int}:wGt (.val (.int i)) (.val (.int j))=some (.val (.bl (decide (j<i)))):=nr rfl
@[simp] theorem k8{i j:Int}:wGe (.val (.int i)) (.val (.int j))=some (.val (.bl (decide (j<=i)))):=nr rfl
@[simp] theorem jI{i j:Int}:NQ (.val (.int i)) (.val (.int j))=some (.val (.int (i-j))):=nr rfl
@[simp] theorem jk{i:Int}:NA (.val (.int i))=some (.val (.int (-i))):=nr rfl
@[simp] theorem jV{i j:Int}:PQ (.val (.int i)) (.val (.int j))=(if 0<j then some (.val (.int (i % j)))else none):=by
  show AAL Wv.val (if 0<j then Gc (D.int (i % j))else none)=_
  split<;>rfl
@[simp] theorem dZ{i j:Int}:NC (.val (.int i)) (.val (.int j))=(if(decide (0<j) && decide (j.natAbs<GH))=true then some (.val (.int (i / j)))else none):=by
  show AAL Wv.val (if(decide (0<j) && decide (j.natAbs<GH))=true then Gc (D.int (i / j))else none)=_
  split<;>rfl
@[simp] theorem jh{i j:Int}:Vv (.val (.int i)) (.val (.int j))=if(decide (0<=j) && decide (j<=1000) && decide (i.natAbs<2^64))=true then some (.val (.int (i^j.toNat)))else none:=by
  show AAL Wv.val (if(decide (0<=j) && decide (j<=1000) && decide (i.natAbs<2^64))=true then Gc (D.int (i^j.toNat))else none)=_
  split<;>rfl
@[simp] theorem jq{i:Int}:cm (.val (.int i))=some (.val (.int (i.natAbs:Int))):=by
  show Gc (Wv.val (D.int (if i<0 then-i else i)))=_
  congr 3
  split<;>lia
@[simp] theorem j5:F2 (.val (.lst r))=some (.val (.int r.length)):=nr rfl
@[simp] theorem iq:F2 (.val (.tup r))=some (.val (.int r.length)):=nr rfl
@[simp] theorem jf{ns:List Int}:F2 (.val (.scr ns))=some (.val (.int ns.length)):=by
  show Gc (Wv.val (D.int ((ns.map D.int).length:Nat)))=_
  rw[uJ]
@[simp] theorem c8:Fi w=(asS w).map λds=>.val (.tup ds):=nr rfl
@[simp] theorem iW:Lq w=(asS w).map λds=>.own ds:=nr rfl
@[simp] theorem oF{b:Bool}:WV (.val (.bl b))=some (.val (.int (if b then 1 else 0))):=nr rfl
@[simp] theorem jY{i j:Int}:js (.val (.int i)) (.val (.int j))=some (.val (.int (if j<i then j else i))):=nr rfl
@[simp] theorem jj{T:String}:Lc w (.val (.ty T))=if OC T=true then(kdW w).map λk=>.val (.bl (k.isA T))else none:=nr rfl
@[simp] theorem ky:OC "int"=true:=by decide
@[simp] theorem iy:OC "bool"=true:=by decide
@[simp] theorem eR:OC "tuple"=true:=by decide
@[simp] theorem nO:OC "str"=true:=by decide
@[simp] theorem jB:UP (.val (.lst r))=(bls r).map λbs=>.val (.bl (bs.all id)):=nr rfl
theorem AI{n:Nat}(h:n<=1000):n<=sizeLine:=sI h (by decide)
@[simp] theorem sz1:(1:Nat)<=sizeLine:=AI (by decide)
@[simp] theorem sz2:(2:Nat)<=sizeLine:=AI (by decide)
@[simp] theorem sz3:(3:Nat)<=sizeLine:=AI (by decide)
@[simp] theorem sz4:(4:Nat)<=sizeLine:=AI (by decide)
@[simp] theorem sz5:(5:Nat)<=sizeLine:=AI (by decide)
@[simp] theorem sz6:(6:Nat)<=sizeLine:=AI (by decide)
@[simp] theorem JN:C1 E S=some (.bl true,S):=nr rfl
@[simp] theorem jy{s:Sr}{t:Tf}{b:Ex}:Lw s t b E S=(s E S).bind λr=>MD r.1.2 t b r.1.1 E r.2:=nr rfl
@[simp] theorem Aj:gOk [] S:=λ_ h=>(nomatch h)
theorem Kn{gs:Gd}{t:Tf}{b:Ex}(h:gOk gs S):MD gs t b [] E S=Gc (.nx,E,S):=by
 unfold MD
 rw[sZ h]
theorem SX {gs : Gd} {t : Tf} {b : Ex} {ds : Wp D} (h : gOk gs S) : MD gs t b (d :: ds) E S = (t d E S).bind fun E1 => (b E1 S).bind fun r => match r.1 with
    | .nx => MD gs t b ds r.2.1 r.2.2
    | .ret w => Gc (.ret w, r.2) := by
  rw [MD, sZ h]
  all_goals rfl
theorem Ho{gs:Gd}{t:Tf}{b:Ex}{ds:Wp D}(h:gOk gs S):MD gs t b (d::ds) E S=(t d E S).bind λE1=>(b E1 S).bind (dA (MD gs t b ds)):=by
 rw[SX h]
 rfl
@[simp] theorem jt:IH f E S=(f E S).bind λr=>(sqD r.2 r.1).map λp=>(p,r.2):=nr rfl
@[simp] theorem mE:sqD S (.tup r)=some (r,[]):=nr rfl
@[simp] theorem lW:sqD S (.lst r)=some (r,[]):=nr rfl
theorem HX{n:Nat}(h:S[n]?=Gc (.lst r)):sqD S (.ref n)=Gc (r,[(n,r)]):=by
 show(EI S n).map (λds=>(ds,[(n,ds)]))=_
 rw[AR h]
 rfl
@[simp] theorem kK:Z0 f E S=(f E S).bind λr=>(sqD r.2 r.1).map λp=>((N2 0 p.1,p.2),r.2):=nr rfl
@[simp] theorem iw:dw f g E S=(f E S).bind λr=>(g E r.2).bind λq=>(sqD q.2 r.1).bind λa=>(sqD q.2 q.1).map λb=>((PR a.1 b.1,a.2++b.2),q.2):=by
  unfold dw
  rw[Cz]
  cases f E S with
  |none=>rfl
  |some r=>
   rw[BP,BP,Cz]
   cases g E r.2 with
   |none=>rfl
   |some q=>rfl
noncomputable def Ka(j:Int):sx:=decide (-(2^62)<=j) && decide (j<2^62)
theorem FZ{j:Int}(h: -1000000<=j)(g:j<=1000000):Ka j=true:=by
 unfold Ka
 rw[sA]
 exact⟨vK (by lia),vK (by lia)⟩
noncomputable def oC(S:Sto):D->rW ((Wp D×Gd)×Sto)
 | .int j=>if Ka j=true then Gc ((MT 0 j.toNat,[]),S)else none
 |_=>none
@[simp] theorem iu{j:Int}:oC S (.int j)=if Ka j=true then some ((MT 0 j.toNat,[]),S)else none:=nr rfl
@[simp] theorem jT:QZ [f] E S=(f E S).bind λr=>oC r.2 r.1:=by
  unfold QZ
  rw[Cz]
  cases f E S with
  |none=>rfl
  |some r=>
   obtain⟨d,S1⟩:=r
   rw[BP,ay,lV,BP,BP]
   cases d<;>rfl
@[simp] theorem dO{cf:Bool}{cap:List Nat}{m:Nat}{s:Sr}{t:Tf}:MV cf cap m s t c f E S=(s E S).bind λr=>(Bp r.1.2 t c f r.1.1 [] (RG cap m E) r.2).bind λq=>fin cf (.own q.1) q.2:=nr rfl
@[simp] theorem je{cap:List Nat}{m:Nat}:RG cap m E=cap.map (at? E)++List.replicate m none:=nr rfl
theorem Lu{α:Type}(p:α->sx):∀xs:Wp α,bls (xs.map λx=>.bl (p x))=Gc (xs.map p)
 | []=>rfl
 |x::xs=>by
  have ih:=Lu p xs
  unfold bls at ih⊢
  rw[sV,xJ,ih]
  rfl
@[simp] theorem SH{i:Int}:L5 (.int i::r)=(L5 r).map λns=>i::ns:=by
  unfold L5
  rw[xJ]
  show(do let r1<-Gc i;let rs<-List.mapM intD r;pure (r1::rs))=_
  cases List.mapM intD r<;>rfl
theorem HV:∀(ns:Wp Int),L5 (ns.map D.int)=Gc ns
 | []=>rfl
 |n::ns=>by rw[sV,SH,HV ns];rfl
@[simp] theorem jx:Y7 (.own r)=(L5 r).map λns=>.val (.int ns.sum):=nr rfl
@[simp] theorem kG:Y7 (.val (.lst r))=(L5 r).map λns=>.val (.int ns.sum):=nr rfl
@[simp] theorem nV:jG true w (.val .non)=some (.val (.bl (!isN w))):=nr rfl
@[simp] theorem qh{i:Int}{w:Wv}:JZ true false [w,.val (.int i)]=wSl (some i) none w:=nr rfl
@[simp] theorem qV{i:Int}{w:Wv}:JZ false true [w,.val (.int i)]=wSl none (some i) w:=nr rfl
@[simp] theorem pI{i j:Int}{w:Wv}:JZ true true [w,.val (.int i),.val (.int j)]=wSl (some i) (some j) w:=nr rfl
@[simp] theorem kS{lo hi:Option Int}:wSl lo hi (.val (.tup r))=some (.val (.tup (ID r lo hi))):=nr rfl
end
structure Ed(A:Wp Nat)(S S':Sto):Prop where
 len:S.length<=S'.length
 keep:∀n,n<S.length->n∉A->S'[n]?=S[n]?
theorem Ed.refl{A:Wp Nat}{S:Sto}:Ed A S S:=⟨sD _,λ_ _ _=>rfl⟩
theorem Ed.trans{A:Wp Nat}{S S' S2:Sto}(h:Ed A S S')(g:Ed A S' S2):Ed A S S2:=⟨sI h.len g.len,λn hn ha=>(g.keep n (rz hn h.len) ha).trans (h.keep n hn ha)⟩
theorem Ed.mono{A B:Wp Nat}{S S':Sto}(h:Ed A S S')(s:∀n∈A,n∈B):Ed B S S':=⟨h.len,λn hn hb=>h.keep n hn λz=>hb (s n z)⟩
theorem Ed.get{A:Wp Nat}{S S':Sto}(h:Ed A S S'){n:Nat}{c:Cl}(e:S[n]?=Gc c)(ha:n∉A):S'[n]?=Gc c:=by
 rw[h.keep n (r9.mp e).1 ha];exact e
theorem Ed.app{A:Wp Nat}{S T:Sto}:Ed A S (S++T):=⟨by simp,λn hn _=>rf hn⟩
theorem Ed.set{A:Wp Nat}{S:Sto}{n:Nat}{c:Cl}(h:n∈A):Ed A S (S.set n c):=⟨by simp,λm hm ha=>rm (λz=>ha (by rw[<-z];exact h))⟩
theorem Am{S:Sto}{n:Nat}{c:Cl}(h:S[n]?=Gc c):n<S.length:=(r9.mp h).1
section
variable{E:En}{S:Sto}{f g h k l m:Ev}{cf:sx}{F:Fn}
@[simp high] theorem jU{op:Op1}:Ny cf (o1 op) [f] E S=(f E S).bind λr=>(op (dr r.2 r.1)).bind λw=>fin cf w r.2:=by
  rw[UX,Cz];cases f E S<;>rfl
@[simp high] theorem XO{op:Op2}:Ny cf (o2 op) [f,g] E S=(f E S).bind λr=>(g E r.2).bind λq=>(op (dr q.2 r.1) (dr q.2 q.1)).bind λw=>fin cf w q.2:=by
  rw[UX,Cz]
  cases f E S with
  |none=>rfl
  |some r=>rw[BP,BP,Cz];cases g E r.2<;>rfl
theorem oE:evs [f] E S=(f E S).bind λr=>Gc ([r.1],r.2):=by rw[Cz];cases f E S<;>rfl
theorem ou:evs [f,g] E S=(f E S).bind λr=>(g E r.2).bind λq=>Gc ([r.1,q.1],q.2):=by
 rw[Cz];cases f E S with
 |none=>rfl
 |some r=>rw[BP,BP,oE];cases g E r.2<;>rfl
theorem oQ:evs [f,g,h] E S=(f E S).bind λr=>(g E r.2).bind λq=>(h E q.2).bind λu=>Gc ([r.1,q.1,u.1],u.2):=by
 rw[Cz];cases f E S with
 |none=>rfl
 |some r=>rw[BP,BP,ou];cases g E r.2 with
  |none=>rfl
  |some q=>rw[BP,BP];cases h E q.2<;>rfl
theorem pb:evs [f,g,h,k] E S=(f E S).bind λr=>(g E r.2).bind λq=>(h E q.2).bind λu=>(k E u.2).bind λv=>Gc ([r.1,q.1,u.1,v.1],v.2):=by
 rw[Cz];cases f E S with
 |none=>rfl
 |some r=>rw[BP,BP,oQ];cases g E r.2 with
  |none=>rfl
  |some q=>rw[BP,BP];cases h E q.2 with
   |none=>rfl
   |some u=>rw[BP,BP];cases k E u.2<;>rfl
@[simp high] theorem pf:evs [f] E S=(f E S).bind λr=>some ([r.1],r.2):=oE
@[simp high] theorem qv:evs [f,g] E S=(f E S).bind λr=>(g E r.2).bind λq=>some ([r.1,q.1],q.2):=ou
@[simp high] theorem pL:evs [f,g,h] E S=(f E S).bind λr=>(g E r.2).bind λq=>(h E q.2).bind λu=>some ([r.1,q.1,u.1],u.2):=oQ
@[simp high] theorem pk:evs [f,g,h,k] E S=(f E S).bind λr=>(g E r.2).bind λq=>(h E q.2).bind λu=>(k E u.2).bind λv=>some ([r.1,q.1,u.1,v.1],v.2):=pb
@[simp high] theorem rO{d:D}:eV 0 (some d::E) S=some (d,S):=nr rfl
@[simp high] theorem rL{d:D}{o0:Option D}:eV 1 (o0::some d::E) S=some (d,S):=nr rfl
@[simp high] theorem rF{d:D}{o0 o1:Option D}:eV 2 (o0::o1::some d::E) S=some (d,S):=nr rfl
@[simp high] theorem rA{d:D}{o0 o1 o2:Option D}:eV 3 (o0::o1::o2::some d::E) S=some (d,S):=nr rfl
@[simp high] theorem rE{d:D}{o0 o1 o2 o3:Option D}:eV 4 (o0::o1::o2::o3::some d::E) S=some (d,S):=nr rfl
@[simp high] theorem rB{d:D}{o0 o1 o2 o3 o4:Option D}:eV 5 (o0::o1::o2::o3::o4::some d::E) S=some (d,S):=nr rfl
@[simp high] theorem rM{d:D}{o0 o1 o2 o3 o4 o5:Option D}:eV 6 (o0::o1::o2::o3::o4::o5::some d::E) S=some (d,S):=nr rfl
@[simp high] theorem rG{d:D}{o0 o1 o2 o3 o4 o5 o6:Option D}:eV 7 (o0::o1::o2::o3::o4::o5::o6::some d::E) S=some (d,S):=nr rfl
@[simp high] theorem rR{d:D}{o0 o1 o2 o3 o4 o5 o6 o7:Option D}:eV 8 (o0::o1::o2::o3::o4::o5::o6::o7::some d::E) S=some (d,S):=nr rfl
@[simp high] theorem rJ{d:D}{o0 o1 o2 o3 o4 o5 o6 o7 o8:Option D}:eV 9 (o0::o1::o2::o3::o4::o5::o6::o7::o8::some d::E) S=some (d,S):=nr rfl
@[simp high] theorem qY{d:D}{o0 o1 o2 o3 o4 o5 o6 o7 o8 o9:Option D}:eV 10 (o0::o1::o2::o3::o4::o5::o6::o7::o8::o9::some d::E) S=some (d,S):=nr rfl
@[simp high] theorem qT{d:D}{o0 o1 o2 o3 o4 o5 o6 o7 o8 o9 o10:Option D}:eV 11 (o0::o1::o2::o3::o4::o5::o6::o7::o8::o9::o10::some d::E) S=some (d,S):=nr rfl
@[simp high] theorem pQ{d:D}{o0 o1 o2 o3 o4 o5 o6 o7 o8 o9 o10 o11:Option D}:eV 12 (o0::o1::o2::o3::o4::o5::o6::o7::o8::o9::o10::o11::some d::E) S=some (d,S):=nr rfl
@[simp high] theorem qO{d:D}{o0 o1 o2 o3 o4 o5 o6 o7 o8 o9 o10 o11 o12:Option D}:eV 13 (o0::o1::o2::o3::o4::o5::o6::o7::o8::o9::o10::o11::o12::some d::E) S=some (d,S):=nr rfl
@[simp 20000] theorem oy{op:Op2}{d:D}:Ny cf (o2 op) [f,eC d] E S=(f E S).bind λr=>(op (dr r.2 r.1) (dr r.2 d)).bind λw=>fin cf w r.2:=by
  rw[XO];cases f E S<;>rfl
@[simp high] theorem ig{i:Nat}{y:Ex}:AV (Bs i f) y E S=(f E S).bind λr=>y (E.set i (some r.1)) r.2:=by
  rw[QX,XX];cases f E S<;>rfl
@[simp high] theorem j9{y:Ex}:AV (CM f) y E S=(f E S).bind λr=>y E r.2:=by
  rw[QX,Vc];cases f E S<;>rfl
end
section
theorem mulL{i j:Int}(h: -18446744073709551616<i)(g:i<18446744073709551616):Dt i j=true:=by
 unfold Dt
 rw[uK]
 exact .inl (vK (by lia))
theorem mulR{i j:Int}(h: -18446744073709551616<j)(g:j<18446744073709551616):Dt i j=true:=by
 unfold Dt
 rw[uK,uK]
 exact .inr (.inl (vK (by lia)))
theorem GK{n k:Nat}(h:n<2^k)(hk:k<=8000):n<GH:=rz h (tL (by decide) hk)
theorem D6{n:Int}(h0:0<n)(h1:n<1152921504606846976):n.natAbs<GH:=GK (k:=60) (show n.natAbs<2^60 by lia) (by decide)
variable{S:Sto}
noncomputable def JY(a b:Int):Int:=((xf a.natAbs b.natAbs:Nat):Int)
theorem K5{c:Ev}{b:Ex}{k:Nat}{E:En}:HR c b (k+1) E S=(c E S).bind λr=>match r.1 with
 | .bl true=>(b E r.2).bind λp=>match p.1 with
   | .nx=>HR c b k p.2.1 p.2.2
   | .ret w=>Gc (.ret w,p.2)
 | .bl false=>Gc (.nx,E,r.2)
 |_=>none:=rfl
theorem Qs{c:Ev}{b:Ex}{k:Nat}{E E2:En}{S1 S2:Sto}(e1:c E S=Gc (.bl true,S1))(e2:b E S1=Gc (.nx,E2,S2)):HR c b (k+1) E S=HR c b k E2 S2:=by
 rw[K5,e1]
 show(b E S1).bind _=_
 rw[e2]
 rfl
theorem QW{c:Ev}{b:Ex}{k:Nat}{E:En}{S1:Sto}(e1:c E S=Gc (.bl false,S1)):HR c b (k+1) E S=Gc (.nx,E,S1):=by
 rw[K5,e1]
 rfl
theorem Qo:∀(k:Nat) (x y:Nat),y<k->HR (eOp (o2 wNe) [eV 1,eC (.int 0)]) (SO 0 1 (eV 1) (eOp (o2 PQ) [eV 0,eV 1])) k [Gc (.int x),Gc (.int y)] S=Gc (.nx,[Gc (.int (xf x y:Nat)),Gc (.int 0)],S)
 |0,x,y,h=>absurd h (zL _)
 |k+1,x,y,h=>by
  by_cases hy:y=0
  .subst hy
   rw[QW (S1:=S) (by simp)]
   simp
  .have hy2:(((y:Nat):Int)==0)=false:=by simpa using hy
   have ih:=Qo k y (x % y) (by have:=Nat.mod_lt x (wm hy);lia)
   rw[show((x % y:Nat):Int)=(x:Int) % (y:Int) by lia]at ih
   have hy4:0<y:=wm hy
   rw[Qs (S1:=S) (S2:=S) (E2:=[Gc (.int y),Gc (.int ((x:Int) % (y:Int)))]) (by simp[hy2]) (by simp[hy4]),ih]
   rw[zA x y,Nat.gcd_rec y x,zA]
theorem UO(a b:Int):BV [.int a,.int b] S=Gc (.int (JY a b),S):=by
 have:=Qo (S:=S) (b.natAbs+2) a.natAbs b.natAbs (by lia)
 simp[BV,EN,OI,Vp,this,JY]
theorem LW:∀(k:Nat) (x y:Nat),y<k->HR (eOp (o2 wGt) [eV 1,eC (.int 0)]) (SO 0 1 (eV 1) (eOp (o2 PQ) [eV 0,eV 1])) k [Gc (.int x),Gc (.int y)] S=Gc (.nx,[Gc (.int (xf x y:Nat)),Gc (.int 0)],S)
 |0,x,y,h=>absurd h (zL _)
 |k+1,x,y,h=>by
  by_cases hy:y=0
  .subst hy
   rw[QW (S1:=S) (by simp)]
   simp
  .have ih:=LW k y (x % y) (by have:=Nat.mod_lt x (wm hy);lia)
   rw[show((x % y:Nat):Int)=(x:Int) % (y:Int) by lia]at ih
   have hy4:0<y:=wm hy
   rw[Qs (S1:=S) (S2:=S) (E2:=[Gc (.int y),Gc (.int ((x:Int) % (y:Int)))]) (by simp[hy4]) (by simp[hy4]),ih]
   rw[zA x y,Nat.gcd_rec y x,zA]
theorem Va(a b:Int)(ha:0<=a)(hb:0<=b):FV [.int a,.int b] S=Gc (.int (JY a b),S):=by
 have:=LW (S:=S) (b.natAbs+2) a.natAbs b.natAbs (by lia)
 have e1:((a.natAbs:Nat):Int)=a:=by lia
 have e2:((b.natAbs:Nat):Int)=b:=by lia
 rw[e1,e2]at this
 simp[FV,KD,OI,Vp,this,JY]
noncomputable def lowP(t b:Int):Int×Int:=(t / JY t b,b / JY t b)
theorem NS{t b:Int}(h:0<b):0<JY t b:=by
 unfold JY
 have:0<xf t.natAbs b.natAbs:=Nat.gcd_pos_of_pos_right _ (by lia)
 lia
theorem Vi{t b:Int}(h:0<b):(JY t b).natAbs<=b.natAbs:=by
 unfold JY
 have:xf t.natAbs b.natAbs<=b.natAbs:=Nat.gcd_le_right _ (by lia)
 lia
noncomputable def amD(p:Int×Int):D:=.tup [.int p.1,.int p.2]
theorem OE{t b:Int}(h:0<b)(hb:b.natAbs<GH):Hj [.int t,.int b] S=Gc (amD (lowP t b),S):=by
 have h1:=NS (t:=t) h
 have h2:(JY t b).natAbs<GH:=su (Vi h) hb
 simp[Hj,MO,UO,h1,h2,amD,lowP]
theorem W3{t b:Int}:JY (t.natAbs:Int) b=JY t b:=by
 unfold JY
 rw[vF]
theorem Pr{t b:Int}(h:0<b)(hb:b.natAbs<GH):Bh [.int t,.int b] S=Gc (amD (lowP t b),S):=by
 have h1:=NS (t:=t) h
 have h2:(JY t b).natAbs<GH:=su (Vi h) hb
 have h3:=Va (S:=S) (t.natAbs:Int) b (by lia) (by lia)
 rw[W3]at h3
 simp[Bh,MZ,h3,h1,h2,amD,lowP]
noncomputable def aD(q:Rat):D:=.tup [.int q.num,.int q.den]
def Sz(k:Nat)(q:Rat):Prop:=q.num.natAbs<2^k/\q.den<2^k
theorem EY(q:Rat):(q.num:Rat) / (q.den:Rat)=q:=by
 rw[<-Rat.mkRat_eq_div,Rat.mkRat_self]
theorem KQ(q:Rat):(q.den:Rat)≠0:=by
 have:=q.den_nz
 exact_mod_cast this
theorem K2(t:Int)(n:Nat)(h:0<n):((t:Rat) / (n:Rat)).num=t / (xf t.natAbs n:Nat)/\((t:Rat) / (n:Rat)).den=n / xf t.natAbs n:=by
 have e:(t:Rat) / (n:Rat)=mkRat t n:=by rw[Rat.mkRat_eq_div]
 rw[e,Rat.mkRat_def,dif_neg (by lia),Rat.normalize_eq]
 exact⟨rfl,rfl⟩
theorem NM{t b:Int}(h:0<b):amD (lowP t b)=aD ((t:Rat) / (b:Rat)):=by
 obtain⟨n,rfl⟩:∃n:Nat,b=n:=⟨b.natAbs,by lia⟩
 obtain⟨h1,h2⟩:=K2 t n (by lia)
 unfold amD aD lowP JY
 rw[show(((n:Nat):Int):Rat)=((n:Nat):Rat)from rfl,h1,h2]
 simp
theorem MW{t b:Int}{k:Nat}(h:0<b)(ht:t.natAbs<2^k)(hb:b.natAbs<2^k):Sz k ((t:Rat) / (b:Rat)):=by
 obtain⟨n,rfl⟩:∃n:Nat,b=n:=⟨b.natAbs,by lia⟩
 obtain⟨h1,h2⟩:=K2 t n (by lia)
 unfold Sz
 rw[show(((n:Nat):Int):Rat)=((n:Nat):Rat)from rfl,h1,h2]
 exact⟨su (yX _ _) ht,su (Nat.div_le_self _ _) (by simpa using hb)⟩
theorem Cn{a b j k:Nat}(ha:a<2^j)(hb:b<2^k):a*b<2^(j+k):=by
 rw[Nat.pow_add]
 exact Nat.mul_lt_mul'' ha hb
theorem GL{i j:Int}{k m:Nat}(hi:i.natAbs<2^k)(hj:j.natAbs<2^m)(h:k<=60000)(g:m<=60000):Dt i j=true:=by
 unfold Dt
 rw[uK,uK,sA]
 exact .inr (.inr ⟨vK (rz hi (tL (by decide) h)),vK (rz hj (tL (by decide) g))⟩)
theorem den_pos(q:Rat):0<(q.den:Int):=by have:=q.den_pos;lia
theorem fI{x:Int}{n m:Nat}(h:x.natAbs<2^n)(g:n<=m):x.natAbs<2^m:=rz h (tL (by decide) g)
section
variable{p q:Rat}{j k:Nat}
theorem Em(hp:Sz j p)(hq:Sz k q):(p.num*q.den+q.num*p.den).natAbs<2^(j+k+1)/\((p.den:Int)*q.den).natAbs<2^(j+k)/\(p.num*q.den-q.num*p.den).natAbs<2^(j+k+1):=by
 have a1:=Cn hp.1 hq.2
 have a2:=Cn hq.1 hp.2
 have a3:=Cn hp.2 hq.2
 rw[Nat.add_comm k j]at a2
 have e:2^(j+k+1)=2^(j+k)+2^(j+k):=by rw[zB];lia
 refine⟨?_,?_,?_⟩
 .refine su (yi _ _) ?_
  rw[u5,u5,vF,vF,e]
  lia
 .rw[u5,vF,vF];exact a3
 .refine su (Int.natAbs_sub_le _ _) ?_
  rw[u5,u5,vF,vF,e]
  lia
theorem Ng:(((p.num*q.den+q.num*p.den:Int):Rat) / (((p.den:Int)*q.den:Int):Rat))=p+q:=by
 have h1:=EY p;have h2:=EY q
 have d1:=KQ p;have d2:=KQ q
 push_cast
 grind
theorem Xl:(((p.num*q.den-q.num*p.den:Int):Rat) / (((p.den:Int)*q.den:Int):Rat))=p-q:=by
 have h1:=EY p;have h2:=EY q
 have d1:=KQ p;have d2:=KQ q
 push_cast
 grind
theorem O0:(((p.num*q.num:Int):Rat) / (((p.den:Int)*q.den:Int):Rat))=p*q:=by
 have h1:=EY p;have h2:=EY q
 have d1:=KQ p;have d2:=KQ q
 push_cast
 grind
theorem iY(hp:Sz j p)(hq:Sz k q):Sz (j+k+1) (p+q):=by
 rw[<-Ng]
 have:=Em hp hq
 exact MW (uw (den_pos _) (den_pos _)) this.1 (fI this.2.1 (by lia))
theorem fU(hp:Sz j p)(hq:Sz k q):Sz (j+k+1) (p-q):=by
 rw[<-Xl]
 have:=Em hp hq
 exact MW (uw (den_pos _) (den_pos _)) this.2.2 (fI this.2.1 (by lia))
theorem N8(hp:Sz j p)(hq:Sz k q):Sz (j+k) (p*q):=by
 rw[<-O0]
 have:=Em hp hq
 exact MW (uw (den_pos _) (den_pos _)) (by rw[u5];exact Cn hp.1 hq.1) this.2.1
end
section
variable{p q:Rat}{j k:Nat}
theorem SY(hp:Sz j p)(hq:Sz k q)(hj:j+k<=7990):Dt p.num q.den=true/\Dt q.num p.den=true/\Dt p.den q.den=true/\Dt p.num q.num=true:=by
 refine⟨GL hp.1 (by simpa using hq.2) (by lia) (by lia),GL hq.1 (by simpa using hp.2) (by lia) (by lia),GL (by simpa using hp.2) (by simpa using hq.2) (by lia) (by lia),GL hp.1 hq.1 (by lia) (by lia)⟩
theorem lX(hp:Sz j p)(hq:Sz k q)(hj:j+k<=7990):Fb [aD p,aD q] S=Gc ((aD (p+q)),S):=by
 obtain⟨m1,m2,m3,m4⟩:=SY hp hq (by lia)
 have b:=Em hp hq
 have l:=OE (S:=S) (t:=p.num*q.den+q.num*p.den) (b:=p.den*q.den) (uw (den_pos _) (den_pos _)) (GK b.2.1 (by lia))
 rw[NM (uw (den_pos _) (den_pos _)),Ng]at l
 simp only[aD]at l⊢
 simp[Fb,NX,m1,m2,m3,l]
theorem Q4(hp:Sz j p)(hq:Sz k q)(hj:j+k<=7990):B5 [aD p,aD q] S=Gc ((aD (p+q)),S):=by
 obtain⟨m1,m2,m3,m4⟩:=SY hp hq (by lia)
 have b:=Em hp hq
 have l:=Pr (S:=S) (t:=p.num*q.den+q.num*p.den) (b:=p.den*q.den) (uw (den_pos _) (den_pos _)) (GK b.2.1 (by lia))
 rw[NM (uw (den_pos _) (den_pos _)),Ng]at l
 simp only[aD]at l⊢
 simp[B5,Md,m1,m2,m3,l]
theorem J5(hp:Sz j p)(hq:Sz k q)(hj:j+k<=7990):Aw [aD p,aD q] S=Gc ((aD (p*q)),S):=by
 obtain⟨m1,m2,m3,m4⟩:=SY hp hq (by lia)
 have b:=Em hp hq
 have l:=Pr (S:=S) (t:=p.num*q.num) (b:=p.den*q.den) (uw (den_pos _) (den_pos _)) (GK b.2.1 (by lia))
 rw[NM (uw (den_pos _) (den_pos _)),O0]at l
 simp only[aD]at l⊢
 simp[Aw,K9,m3,m4,l]
theorem hU:aD (-q)=.tup [.int (0-q.num),.int q.den]:=by
 unfold aD
 rw[show(-q).num=0-q.num by simp,show(-q).den=q.den by simp]
theorem eF(hq:Sz k q):Sz k (-q):=by
 unfold Sz
 rw[show(-q).num= -q.num by simp,show(-q).den=q.den by simp,Int.natAbs_neg]
 exact hq
theorem ZN(hp:Sz j p)(hq:Sz k q)(hj:j+k<=7990):DJ [aD p,aD q] S=Gc ((aD (p-q)),S):=by
 have l:=Q4 (S:=S) hp (eF hq) hj
 rw[hU]at l
 rw[Rat.sub_eq_add_neg]
 simp only[aD]at l⊢
 simp at l
 simp[DJ,Ma,l]
end
theorem W0{t b:Int}(h:0<b)(hb:b.natAbs<GH):Bh [.int t,.int b] S=Gc ((aD (t / b)),S):=by
 rw[Pr h hb,NM h]
theorem SF{a b:Int}{k:Nat}(ha:a.natAbs<2^k)(hb:b.natAbs<2^k):(a+b).natAbs<2^(k+1):=by
 have e:2^(k+1)=2^k+2^k:=by rw[zB];lia
 have:=yi a b
 lia
section
variable{p q:Rat}{w m:Int}{j k n:Nat}
end
end
section
variable{S:Sto}{p:Nat}
theorem Yl{r:Wp D}(h:p<S.length):dr (S.set p (.lst r)) (.ref p)=.own r:=A4 (sP h)
def Pen(ds:Wp D):Prop:=∃a b c d:Int,ds=[.int a,.int b,.int c,.int d]/\0<=d/\d<1000000007
def C5(p:Nat)(S:Sto):Prop:=∃ds,S[p]?=Gc (.lst ds)/\Pen ds
structure Pn(p:Nat)(S S':Sto):Prop where
 same:Ed [p] S S'
 pen:C5 p S'
theorem Pn.trans{S S' S2:Sto}(h:Pn p S S')(g:Pn p S' S2):Pn p S S2:=⟨h.same.trans g.same,g.pen⟩
theorem Pn.get{S S':Sto}(h:Pn p S S'){n:Nat}{c:Cl}(e:S[n]?=Gc c)(ha:n≠p):S'[n]?=Gc c:=h.same.get e (by simpa using ha)
theorem Pn.refl(h:C5 p S):Pn p S S:=⟨.refl,h⟩
theorem C5.lt(h:C5 p S):p<S.length:=by obtain⟨ds,e,_⟩:=h;exact Am e
theorem C5.app(h:C5 p S)(T:Sto):C5 p (S++T):=by obtain⟨ds,e,hp⟩:=h;exact⟨ds,by rw[rf (Am e)];exact e,hp⟩
inductive Drw(p:Nat)(n:Int)(S:Sto):Prop
 |mk (r:Int) (S':Sto) (e:AG [.ref p,.int n] S=Gc (.int r,S')) (a:0<=r) (b:r<n) (g:Pn p S S')
theorem Aa(h:C5 p S){n:Int}(h0:0<n)(h1:n<1152921504606846976):Drw p n S:=by
 obtain⟨ds,hp,a,b,c,d,rfl,hd0,hd1⟩:=h
 have hl:=Am hp
 have hs:=D6 h0 h1
 have hr:=A4 hp
 have hc:=AR hp
 by_cases hb:b=1/\0<a
 .obtain⟨rfl,ha⟩:=hb
  refine⟨a % n,S.set p (.lst [.int (a / n),.int 1,.int c,.int d]),?_,vf _ (by lia),vz _ h0,.set (by simp),_,sP hl,_,_,_,_,rfl,hd0,hd1⟩
  simp[AG,Hi,ha,h0,hs,hr,hc]
 .have m1:Dt (d+17) (69621+2*(c+1))=true:=mulL (by lia) (by lia)
  have m2:Dt 2 (c+1)=true:=mulL (by decide) (by decide)
  generalize ht:(d+17)*(69621+2*(c+1)) % 2147483647=t at*
  have t0:0<=t:=by rw[<-ht];exact vf _ (by decide)
  have t1:t<2147483647:=by rw[<-ht];exact vz _ (by decide)
  have m3:Dt t t=true:=mulL (by lia) (by lia)
  have m4:Dt 40503 (c+1)=true:=mulL (by decide) (by decide)
  generalize hu:(t*t+40503*(c+1)+5) % 2147483629=u at*
  have u0:0<=u:=by rw[<-hu];exact vf _ (by decide)
  have u1:u<2147483629:=by rw[<-hu];exact vz _ (by decide)
  have m5:Dt u 48271=true:=mulL (by lia) (by lia)
  have d32:(32:Int).natAbs<GH:=D6 (by decide) (by decide)
  have d32':(32:Nat)<GH:=d32
  refine⟨u*48271 % 2147483647 / 32 % n,S.set p (.lst [.int a,.int b,.int (c+1),.int d]),?_,vf _ (by lia),vz _ h0,.set (by simp),_,sP hl,_,_,_,_,rfl,hd0,hd1⟩
  by_cases hb1:b=1
  .subst hb1
   have ha:¬0<a:=λz=>hb ⟨rfl,z⟩
   simp[AG,Hi,ha,h0,hs,hr,hc,Yl,hl,m1,m2,m3,m4,m5,ht,hu,d32']
  .have hb2:(b==1)=false:=by simpa using hb1
   simp[AG,Hi,hb2,h0,hs,hr,hc,Yl,hl,m1,m2,m3,m4,m5,ht,hu,d32']
theorem dW(c:Int):∃p S',HN [.int c] S=Gc (.ref p,S')/\C5 p S'/\Ed [] S S'/\S.length<=p:=by
 refine⟨S.length,S++[.lst [.int c,.int (if(10:Int)^18<=c then 1 else 0),.int 0,.int (c % 1000000007)]],?_,⟨_,sU,_,_,_,_,rfl,vf _ (by decide),vz _ (by decide)⟩,.app,sD _⟩
 simp[HN,O9]
theorem E5{gs:Gd}{t:Tf}{c f:Ev}{acc:Wp D}{E:En}(h:gOk gs S):Bp gs t c f [] acc E S=Gc (acc,S):=by
 unfold Bp
 rw[sZ h]
theorem Jk {gs : Gd} {t : Tf} {c f : Ev} {d : D} {ds acc : Wp D} {E : En} (h : gOk gs S) (hz : acc.length < sizeLine) : Bp gs t c f (d :: ds) acc E S = (t d E S).bind fun E1 => (c E1 S).bind fun r => match r.1 with
      | .bl true => (f E1 r.2).bind fun p => Bp gs t c f ds (acc ++ [p.1]) E1 p.2
      | .bl false => Bp gs t c f ds acc E1 r.2
      | _ => none := by
  rw [Bp, sZ h, sZ hz]
  all_goals rfl
theorem Ju{gs:Gd}{t:Tf}{c f:Ev}{d:D}{ds acc:Wp D}{E E1:En}{S1:Sto}(h:gOk gs S)(hz:acc.length<sizeLine)(e1:t d E S=Gc E1)(e2:c E1 S=Gc (.bl true,S1)):Bp gs t c f (d::ds) acc E S=(f E1 S1).bind λp=>Bp gs t c f ds (acc++[p.1]) E1 p.2:=by
 rw[Jk h hz,e1]
 show(c E1 S).bind _=_
 rw[e2]
 rfl
theorem IP{gs:Gd}{t:Tf}{c f:Ev}{d:D}{ds acc:Wp D}{E E1:En}{S1:Sto}(h:gOk gs S)(hz:acc.length<sizeLine)(e1:t d E S=Gc E1)(e2:c E1 S=Gc (.bl false,S1)):Bp gs t c f (d::ds) acc E S=Bp gs t c f ds acc E1 S1:=by
 rw[Jk h hz,e1]
 show(c E1 S).bind _=_
 rw[e2]
 rfl
theorem Kf{gs:Gd}{t:Tf}{f:Ev}{C:En}{m:Nat}{I:Sto->Prop}{R:D->D->Prop}(hg:∀S,I S->gOk gs S):∀{ds acc:Wp D} {os:En} {S:Sto},os.length=m->I S->acc.length+ds.length<=sizeLine->(∀d∈ds,∀os S,os.length=m->I S->∃us y S',us.length=m/\t d (C++os) S=Gc (C++us)/\f (C++us) S=Gc (y,S')/\I S'/\R d y)->∃ys S',Bp gs t C1 f ds acc (C++os) S=Gc (acc++ys,S')/\I S'/\ys.length=ds.length/\Paired R ds ys
 | [],acc,os,S,ho,hI,hz,h=>⟨[],S,by rw[E5 (hg S hI)];simp,hI,rfl,.nil⟩
 |d::ds,acc,os,S,ho,hI,hz,h=>by
  obtain⟨us,y,S1,hu,e1,e2,I1,r1⟩:=h d sN os S ho hI
  obtain⟨ys,S2,e3,I2,l2,r2⟩:=Kf hg (ds:=ds) (acc:=acc++[y]) (os:=us) (S:=S1) hu I1 (by simp at hz ⊢; lia) λd' hd=>h d' (rg _ hd)
  refine⟨y::ys,S2,?_,I2,by simp[l2],.cons r1 r2⟩
  rw[Ju (hg S hI) (by simp at hz;lia) e1 JN,e2,BP,e3]
  simp
theorem comp_map{gs:Gd}{t:Tf}{f:Ev}{C:En}{m:Nat}{g:D->D}{S:Sto}(hg:gOk gs S):∀{ds acc:Wp D} {os:En},os.length=m->acc.length+ds.length<=sizeLine->(∀d∈ds,∀os,os.length=m->∃us,us.length=m/\t d (C++os) S=Gc (C++us)/\f (C++us) S=Gc (g d,S))->Bp gs t C1 f ds acc (C++os) S=Gc (acc++ds.map g,S)
 | [],acc,os,ho,hz,h=>by rw[E5 hg];simp
 |d::ds,acc,os,ho,hz,h=>by
  obtain⟨us,hu,e1,e2⟩:=h d sN os ho
  rw[Ju hg (by simp at hz;lia) e1 JN,e2,BP]
  rw[comp_map hg hu (by simp at hz ⊢; lia) λd' hd=>h d' (rg _ hd)]
  simp
theorem E7{gs:Gd}{t:Tf}{b:Ex}{I:Wp D->En->Sto->Prop}(hg:∀ds E S,I ds E S->gOk gs S):∀{ds:Wp D} {E:En} {S:Sto},I ds E S->(∀d ds E S,I (d::ds) E S->∃E1 E2 S2,t d E S=Gc E1/\b E1 S=Gc (.nx,E2,S2)/\I ds E2 S2)->∃E' S',MD gs t b ds E S=Gc (.nx,E',S')/\I [] E' S'
 | [],E,S,hI,h=>⟨E,S,Kn (hg _ _ _ hI),hI⟩
 |d::ds,E,S,hI,h=>by
  obtain⟨E1,E2,S2,e1,e2,I2⟩:=h d ds E S hI
  obtain⟨E',S',e3,I3⟩:=E7 hg I2 h
  exact⟨E',S',by rw[Ho (hg _ _ _ hI),e1];simp[e2,e3],I3⟩
theorem pick{xs:Wp D}{r:Int}(h0:0<=r)(h1:r<xs.length):∃x,atI xs r=Gc x/\x∈xs:=⟨_,Yw h0 h1,wU _⟩
theorem Hr{α β:Type}{P:β->Prop}:∀{xs:Wp α} {ys:Wp β},Paired (λ_ y=>P y) xs ys->∀y∈ys,P y
 |_,_,.nil,y,h=>by cases h
 |_,_,.cons r t,y,h=>by
  rcases rZ.mp h with h|h
  .rw[h];exact r
  .exact Hr t y h
theorem Fh{lo:Int}{n:Nat}:(MT lo n).length=n:=by simp[MT]
end
def Ok(G B:Nat)(r:Rat):Prop:=∃z:Nat,r*(G:Rat)=(z:Rat)/\z<=B
theorem MU{n:Nat}(h:0<n):(n:Rat)≠0:=by
 have:n≠0:=by lia
 exact_mod_cast this
theorem Ok.sz{G B k:Nat}{r:Rat}(h:Ok G B r)(hG:0<G)(g:G<2^k)(b:B<2^k):Sz k r:=by
 obtain⟨z,e,hz⟩:=h
 have e2:r=((z:Int):Rat) / ((G:Int):Rat):=by
  have:=MU hG
  rw[show(((z:Nat):Int):Rat)=(z:Rat)from rfl,show(((G:Nat):Int):Rat)=(G:Rat)from rfl,<-e]
  grind
 rw[e2]
 exact MW (by lia) (by simpa using su hz b) (by simpa using g)
theorem Ok.up{G B t B':Nat}{r:Rat}(h:Ok G B r)(hB:B*t<=B'):Ok (G*t) B' r:=by
 obtain⟨z,e,hz⟩:=h
 refine⟨z*t,?_,sI (uQ t hz) hB⟩
 push_cast
 rw[<-e]
 grind
theorem Ok.zero{G B:Nat}:Ok G B 0:=⟨0,by simp,vv _⟩
theorem Ok.one{G B:Nat}(h:G<=B):Ok G B 1:=⟨G,by simp,h⟩
theorem Ok.mix{G B a b t:Nat}{r o:Rat}(hr:Ok G B r)(ho:Ok G B o)(ht:a+b=t)(h0:0<t):Ok (G*t) (B*t) ((r*(a:Rat)+o*(b:Rat)) / (t:Rat)):=by
 obtain⟨z,e1,h1⟩:=hr
 obtain⟨y,e2,h2⟩:=ho
 refine⟨z*a+y*b,?_,?_⟩
 .have:=MU h0
  push_cast
  rw[<-e1,<-e2]
  grind
 .rw[<-ht,Nat.mul_add]
  exact Nat.add_le_add (uQ a h1) (uQ b h2)
structure Tr where
 p:Nat
 k:Nat
 b:Nat
 ho:Wp Rat
 h:Int
 l:Int
structure Ld where
 k:Nat
 n:Int
 ow:Wp Rat
structure Stt where
 AB:Wp Ld
 hold:Wp Rat
 nums:Wp Int
inductive AX where
 |GX (p k:Nat) (n:Int)
 |Mz (a b:Nat)
 |swap (l:Nat) (g:Int) (k:Nat) (n:Int)
 |FQ (t:Int) (l:Nat) (g:Int) (k:Nat) (n:Int)
 |G4 (l:Nat) (n:Int)
 |thr (l:Nat) (n:Int) (ws:Wp Int)
 |Kc (p q:Nat) (s:Rat)
noncomputable def shD(rs:Wp Rat):D:=.tup (rs.map aD)
noncomputable def Tr.d(t:Tr):D:=.tup [.int t.p,.int t.k,.int t.b,shD t.ho,.int t.h,.int t.l]
noncomputable def Ld.d(l:Ld):D:=.tup [.int l.k,.int l.n,shD l.ow]
noncomputable def AX.d:AX->D
 | .GX p k n=>.tup [.str "bring",.int p,.int k,.int n]
 | .Mz a b=>.tup [.str "pool",.int a,.int b]
 | .swap l g k n=>.tup [.str "swap",.int l,.int g,.int k,.int n]
 | .FQ t l g k n=>.tup [.str "trade",.int t,.int l,.int g,.int k,.int n]
 | .G4 l n=>.tup [.str "spoil",.int l,.int n]
 | .thr l n ws=>.tup [.str "throw",.int l,.int n,.tup (ws.map .int)]
 | .Kc p q s=>.tup [.str "sell",.int p,.int q,aD s]
noncomputable def Kb(x:Rat)(os ss:Wp Rat):Wp Rat:=zC (λs o=>s*(1-x)+o*x) ss os
noncomputable def JH(p q:Nat)(s:Rat)(ss:Wp Rat):Wp Rat:=(ss.set p (ss.getD p 0-ss.getD p 0*s)).set q (ss.getD q 0+ss.getD p 0*s)
noncomputable def EJ(n m:Int)(ss os:Wp Rat):Wp Rat:=zC (λs o=>(s*n+o*m) / (n+m:Int)) ss os
noncomputable def FK(t:Tr)(ls:Wp Ld)(ws:Wp Int):Int:=(ls.map λl=>l.n*ws.getD l.k 0).sum+t.b*ws.getD t.k 0
noncomputable def MG(t:Tr)(ls:Wp Ld)(l:Nat)(n:Int)(ws:Wp Int):Rat:=((n*ws.getD ((ls[l]?.map (·.k)).getD 0) 0:Int):Rat) / (FK t ls ws:Rat)
noncomputable def AM(ls:Wp Ld)(l:Nat):Ld:=ls.getD l ⟨0,0,[]⟩
noncomputable def less(ls:Wp Ld)(l:Nat)(n:Int):Wp Ld:=ls.set l {AM ls l with n:=(AM ls l).n-n}
noncomputable def V4(p i:Nat):Wp Rat:=(tj p).map λj=>if j=i then 1 else 0
noncomputable def step(t:Tr)(s:Stt):AX->Stt
 | .GX p k n=>{s with AB:=s.AB++[⟨k,n,V4 t.p p⟩]}
 | .Mz a b=>{s with AB:=less (less s.AB a (AM s.AB a).n) b (AM s.AB b).n++[⟨(AM s.AB a).k,(AM s.AB a).n+(AM s.AB b).n,EJ (AM s.AB a).n (AM s.AB b).n (AM s.AB a).ow (AM s.AB b).ow⟩]}
 | .swap l g k n=>{s with AB:=less s.AB l g++[⟨k,n,(AM s.AB l).ow⟩]}
 | .FQ u l g k n=>{s with AB:=less s.AB l g++[⟨k,n,(AM s.AB l).ow⟩],nums:=s.nums++[u]}
 | .G4 l n=>{s with AB:=less s.AB l n}
 | .thr l n ws=>{s with AB:=(less s.AB l n).map λx=>{x with ow:=Kb (MG t s.AB l n ws) (AM s.AB l).ow x.ow},hold:=Kb (MG t s.AB l n ws) (AM s.AB l).ow s.hold}
 | .Kc p q x=>{s with AB:=s.AB.map λy=>{y with ow:=JH p q x y.ow},hold:=JH p q x s.hold}
def KI(t:Tr):Prop:=1<=t.p/\t.p<=4/\1<=t.k/\t.k<=5/\1<=t.b/\t.b<=20
def Can(t:Tr)(s:Stt):AX->Prop
 | .GX p k n=>p<t.p/\k<t.k/\1<=n/\n<2^131
 | .Mz a b=>a≠b/\a<s.AB.length/\b<s.AB.length/\0<(AM s.AB a).n/\0<(AM s.AB b).n/\(AM s.AB a).k=(AM s.AB b).k
 | .swap l g k n=>l<s.AB.length/\1<=g/\g<=(AM s.AB l).n/\k<t.k/\k≠(AM s.AB l).k/\1<=n/\n<2^131
 | .FQ u l g k n=>l<s.AB.length/\1<=g/\g<=(AM s.AB l).n/\k<t.k/\k≠(AM s.AB l).k/\1<=n/\n<2^131/\u∉s.nums/\0<=u/\u<=9
 | .G4 l n=>l<s.AB.length/\1<=n/\n<=(AM s.AB l).n
 | .thr l n ws=>l<s.AB.length/\1<=n/\n<=(AM s.AB l).n/\ws.length=t.k+1/\∀w∈ws,1<=w/\w<=99
 | .Kc p q x=>p≠q/\p<t.p/\q<t.p/\0<x.num/\x.num<=x.den/\x.den<=12
structure Gz(t:Tr)(k:Nat)(s:Stt):Prop where
 len:s.AB.length<=4+k
 kind:∀l∈s.AB,l.k<t.k
 pcs:∀l∈s.AB,0<=l.n/\l.n<2^(131+k)
 own:∀l∈s.AB,l.ow.length=t.p
 hold:s.hold.length=t.p
 nm:s.nums.length<=k
 gb:∃G B:Nat,0<G/\G<=B/\B<2^(30+170*k)/\(∀l∈s.AB,∀r∈l.ow,Ok G B r)/\∀r∈s.hold,Ok G B r
theorem Gz.sz{t:Tr}{k:Nat}{s:Stt}(h:Gz t k s):(∀l∈s.AB,∀r∈l.ow,Sz (30+170*k) r)/\∀r∈s.hold,Sz (30+170*k) r:=by
 obtain⟨G,B,g0,gb,b,h1,h2⟩:=h.gb
 exact⟨λl hl r hr=>(h1 l hl r hr).sz g0 (su gb b) b,λr hr=>(h2 r hr).sz g0 (su gb b) b⟩
theorem BN{ls:Wp Ld}{l:Nat}(h:l<ls.length):AM ls l∈ls:=by
 unfold AM
 rw[sv,sF h]
 exact wU h
theorem Gi{ls:Wp Ld}{l:Nat}(h:l<ls.length):ls[l]?=Gc (AM ls l):=by
 unfold AM
 rw[sv,sF h]
 rfl
theorem NP{ls:Wp Ld}{l:Nat}{n:Int}{x:Ld}(h:x∈less ls l n)(hl:l<ls.length):x∈ls\/x={AM ls l with n:=(AM ls l).n-n}:=by
 unfold less at h
 rcases vd h with h|h
 .exact .inl h
 .exact .inr h
theorem D0{ls:Wp Ld}{l:Nat}{n:Int}:(less ls l n).length=ls.length:=by simp[less]
section
variable{S:Sto}{p:Nat}
theorem P9{P:Int->Prop}:∀{ys:Wp D},(∀y∈ys,∃i:Int,y=.int i/\P i)->∃ns:Wp Int,ys=ns.map D.int/\∀n∈ns,P n
 | [],_=>⟨[],rfl,λn h=>by cases h⟩
 |y::ys,h=>by
  obtain⟨i,rfl,hi⟩:=h y sN
  obtain⟨ns,rfl,hn⟩:=P9 (P:=P) (ys:=ys) λz hz=>h z (rg _ hz)
  exact⟨i::ns,rfl,λn hn'=>by
   rcases rZ.mp hn' with e|e
   .rw[e];exact hi
   .exact hn n e⟩
theorem Og{ns:Wp Int}(h:∀n∈ns,0<=n/\n<=8):0<=ns.sum/\ns.sum<=8*ns.length/\∀n∈ns,n<=ns.sum:=by
 induction ns with
 |nil=>simp
 |cons a l ih=>
  have h1:=h a sN
  obtain⟨i1,i2,i3⟩:=ih λn hn=>h n (rg _ hn)
  rw[vH,sk]
  refine⟨by lia,by push_cast;lia,λn hn=>?_⟩
  rcases rZ.mp hn with e|e
  .lia
  .have:=i3 n e;lia
theorem RL (h : C5 p S) {n : Nat} (hn : n ≤ 20) : ∃ (ns : Wp Int) (S' : Sto), Bp [] (tNm 1) C1 (eOp (o2 wIx) [(G3 [(eC (.int 0)), (eC (.int 1)), (AF AG [(eV 0), (eC (.int 4))]), (AF AG [(eV 0), (eC (.int 9))])]), (AF AG [(eV 0), (eC (.int 4))])]) (MT 0 n) [] [Gc (.ref p), none] S = Gc (ns.map D.int, S') /\ Pn p S S' /\ ns.length = n /\ ∀ i ∈ ns, 0 ≤ i /\ i ≤ 8 := by
  obtain ⟨ys, S', e, hI, l, r⟩ := Kf (gs := []) (t := tNm 1) (f := eOp (o2 wIx) [(G3 [(eC (.int 0)), (eC (.int 1)), (AF AG [(eV 0), (eC (.int 4))]), (AF AG [(eV 0), (eC (.int 9))])]), (AF AG [(eV 0), (eC (.int 4))])]) (C := [Gc (.ref p)]) (m := 1) (I := Pn p S) (R := fun _ y => ∃ i : Int, y = .int i /\ 0 ≤ i /\ i ≤ 8)
    (fun _ _ => Aj) (ds := MT 0 n) (acc := []) (os := [none]) rfl (Pn.refl h) (by rw [Fh]; simp; exact AI (by lia)) fun d _ os S0 ho I0 => by
      obtain ⟨o, rfl⟩ := Ru ho
      obtain ⟨r1, S1, e1, a1, b1, p1⟩ := Aa I0.pen (n := 4) (by decide) (by decide)
      obtain ⟨r2, S2, e2, a2, b2, p2⟩ := Aa p1.pen (n := 9) (by decide) (by decide)
      obtain ⟨r3, S3, e3, a3, b3, p3⟩ := Aa p2.pen (n := 4) (by decide) (by decide)
      obtain ⟨x, ex, hx⟩ := pick (xs := [.int 0, .int 1, .int r1, .int r2]) (r := r3) a3 (by simpa using b3)
      refine ⟨[Gc d], x, S3, rfl, by simp, by simp [e1, e2, e3, ex], ((I0.trans p1).trans p2).trans p3, ?_⟩
      simp only [rZ, sC, tF] at hx
      rcases hx with rfl | rfl | rfl | rfl
      · exact ⟨0, rfl, by decide, by decide⟩
      · exact ⟨1, rfl, by decide, by decide⟩
      · exact ⟨r1, rfl, by lia, by lia⟩
      · exact ⟨r2, rfl, by lia, by lia⟩
  obtain ⟨ns, rfl, hns⟩ := P9 (Hr r)
  exact ⟨ns, S', by simpa using e, hI, by simpa [Fh] using l, hns⟩
noncomputable def H0(ns:Wp Int):Wp Rat:=ns.map λ(n:Int)=>(n:Rat) / (ns.sum:Rat)
theorem Kx{ns:Wp Int}(h:∀n∈ns,0<=n/\n<=8)(hs:0<ns.sum):∀r∈H0 ns,Ok ns.sum.toNat ns.sum.toNat r:=by
 intro r hr
 obtain⟨n,hn,rfl⟩:=uA.mp hr
 have h1:=h n hn
 have h2:=(Og h).2.2 n hn
 refine⟨n.toNat,?_,by lia⟩
 have e1:((ns.sum.toNat:Nat):Rat)=(ns.sum:Rat):=by
  have:((ns.sum.toNat:Nat):Int)=ns.sum:=by lia
  exact congrArg (λz:Int=>(z:Rat)) this
 have e2:((n.toNat:Nat):Rat)=(n:Rat):=by
  have:((n.toNat:Nat):Int)=n:=by lia
  exact congrArg (λz:Int=>(z:Rat)) this
 rw[e1,e2]
 have:(ns.sum:Rat)≠0:=by
  intro z
  have:=xA.mp z
  lia
 grind
theorem U7{s:Rat}:∀{ns:Wp Int},(ns.map λ(n:Int)=>(n:Rat) / s).sum=(ns.sum:Rat) / s
 | []=>by simp;grind
 |n::ns=>by
  rw[sV,vH,vH,U7 (ns:=ns)]
  push_cast
  grind
theorem O7{ns:Wp Int}(hs:0<ns.sum):(H0 ns).sum=1:=by
 unfold H0
 rw[U7]
 have:(ns.sum:Rat)≠0:=by
  intro z
  have:=xA.mp z
  lia
 grind
theorem RA{ns:Wp Int}{q:Nat}(hq:S[q]?=Gc (.lst (ns.map D.int)))(hl:ns.length<=20)(hn:∀n∈ns,0<=n/\n<=8)(hs:0<ns.sum):Bp [(q,ns.map D.int)] (tNm 1) C1 (AF Bh [eV 1,eOp (o1 Y7) [eV 0]]) (ns.map D.int) [] [Gc (.ref q),none] S=Gc ((H0 ns).map aD,S):=by
 obtain⟨s1,s2,s3⟩:=Og hn
 have:=comp_map (gs:=[(q,ns.map D.int)]) (t:=tNm 1) (f:=AF Bh [eV 1,eOp (o1 Y7) [eV 0]]) (C:=[Gc (.ref q)]) (m:=1) (g:=λd=>match d with| .int n=>aD ((n:Rat) / (ns.sum:Rat))|d=>d) (S:=S) (λg hg=>by rw[sj.mp hg];exact AR hq) (ds:=ns.map D.int) (acc:=[]) (os:=[none]) rfl (by simp;exact AI (by lia)) λd hd os ho=>by
  obtain⟨o,rfl⟩:=Ru ho
  obtain⟨i,hi,rfl⟩:=uA.mp hd
  have m:=W0 (S:=S) (t:=i) hs (D6 (by lia) (by lia))
  exact⟨[Gc (.int i)],rfl,by simp,by simp[A4 hq,HV,m]⟩
 have e2:(ns.map D.int).map (λd=>match d with| .int n=>aD ((n:Rat) / (ns.sum:Rat))|d=>d)=(H0 ns).map aD:=by
  unfold H0
  rw[v3,v3]
  rfl
 rw[e2]at this
 simpa using this
theorem Q3(h:C5 p S){n:Nat}(h1:1<=n)(h2:n<=4):∃rs S',C6 [.ref p,.int n] S=Gc (shD rs,S')/\Pn p S S'/\(rs.length=n/\rs.sum=1)/\∃G:Nat,0<G/\G<=32/\∀r∈rs,Ok G G r:=by
 obtain⟨ns,S1,e1,p1,l1,i1⟩:=RL (n:=n) h (by lia)
 obtain⟨s1,s2,s3⟩:=Og i1
 have hq:(S1++[Cl.lst (ns.map D.int)])[S1.length]?=Gc (.lst (ns.map D.int)):=sU
 have pp:C5 p (S1++[Cl.lst (ns.map D.int)]):=p1.pen.app _
 have hlt:=p1.pen.lt
 have r1:Ka (n:Int)=true:=FZ (by lia) (by lia)
 by_cases hz:ns.sum=0
 .obtain⟨r,S2,e2,a2,b2,p2⟩:=Aa pp (n:=n) (by lia) (by lia)
  have hq2:S2[S1.length]?=Gc (.lst (ns.map D.int)):=p2.get hq (by lia)
  have hn':∀x∈ns.set r.toNat 1,0<=x/\x<=8:=λx hx=>by
   rcases vd hx with hx|rfl
   .exact i1 x hx
   .exact⟨by decide,by decide⟩
  have hs':0<(ns.set r.toNat 1).sum:=by
   have:=(Og hn').2.2 1 (List.mem_set (by lia) 1)
   lia
  have hq3:(S2.set S1.length (.lst ((ns.set r.toNat 1).map D.int)))[S1.length]?=Gc (.lst ((ns.set r.toNat 1).map D.int)):=sP (Am hq2)
  have e3:=RA hq3 (by simp;lia) hn' hs'
  have ix:ixN ns.length r=Gc r.toNat:=Qb a2 (by lia)
  refine⟨H0 (ns.set r.toNat 1),S2.set S1.length (.lst ((ns.set r.toNat 1).map D.int)),?_,⟨?_,?_⟩,⟨by simp[H0,l1],O7 hs'⟩,_,(show 0<(ns.set r.toNat 1).sum.toNat by lia),?_,Kx hn' hs'⟩
  .have sq3:=HX hq3
   rw[zD]at e3 sq3 hq3
   simp[C6,Ia,r1,e1,A4 hq,HV,hz,e2,AR hq2,ix,sq3,e3,shD]
  .have g:Ed [p] S (S1++[Cl.lst (ns.map D.int)]):=p1.same.trans .app
   refine⟨sI (g.trans p2.same).len (by simp),λm hm hmp=>?_⟩
   rw[rm (by have:=p1.same.len;lia)]
   exact(g.trans p2.same).keep m hm hmp
  .obtain⟨ds,ed,hd⟩:=p2.pen
   exact⟨ds,by rw[rm (by lia)];exact ed,hd⟩
  .have:=(Og hn').2.1
   rw[u6]at this
   lia
 .have hz':(ns.sum==0)=false:=by simpa using hz
  have e3:=RA hq (by lia) i1 (by lia)
  refine⟨H0 ns,S1++[Cl.lst (ns.map D.int)],?_,⟨p1.same.trans .app,pp⟩,⟨by simp[H0,l1],O7 (by lia)⟩,_,(show 0<ns.sum.toNat by lia),by lia,Kx i1 (by lia)⟩
  have sq3:=HX hq
  simp[C6,Ia,r1,e1,A4 hq,HV,hz',sq3,e3,shD]
end
section
variable{S:Sto}{p:Nat}
theorem cE:(2:Nat)<GH:=D6 (n:=2) (by decide) (by decide)
inductive Pcs(p j:Nat)(S:Sto):Prop
 |mk (n:Int) (S':Sto) (e:BF [.ref p] S=Gc (.int n,S')) (g:Pn p S S') (a:1<=n) (b:n<2^j)
theorem MJ(h:C5 p S):Pcs p 130 S:=by
 obtain⟨r1,S1,e1,a1,b1,p1⟩:=Aa h (n:=99) (by decide) (by decide)
 obtain⟨r2,S2,e2,a2,b2,p2⟩:=Aa p1.pen (n:=4) (by decide) (by decide)
 obtain⟨r3,S3,e3,a3,b3,p3⟩:=Aa p2.pen (n:=40) (by decide) (by decide)
 obtain⟨r4,S4,e4,a4,b4,p4⟩:=Aa p3.pen (n:=999) (by decide) (by decide)
 obtain⟨r5,S5,e5,a5,b5,p5⟩:=Aa p4.pen (n:=7) (by decide) (by decide)
 have pp:=(((p1.trans p2).trans p3).trans p4).trans p5
 have d2:=cE
 have go:∀g:Int,1<=g->g<2^130->∃n:Int,atI [D.int (1+r2),.int (1+r3),.int (1+r4),.int g] (r5 / 2)=Gc (.int n)/\1<=n/\n<2^130:=λg g1 g2=>by
  obtain⟨x,ex,hx⟩:=pick (xs:=[D.int (1+r2),.int (1+r3),.int (1+r4),.int g]) (r:=r5 / 2) (by lia) (by simp;lia)
  simp only[rZ,sC,tF]at hx
  rcases hx with rfl|rfl|rfl|rfl
  .exact⟨_,ex,by lia,by lia⟩
  .exact⟨_,ex,by lia,by lia⟩
  .exact⟨_,ex,by lia,by lia⟩
  .exact⟨_,ex,g1,g2⟩
 first
  |(obtain⟨n,en,n1,n2⟩:=go (10^39+r1) (by lia) (by lia)
    exact⟨n,S5,by simp[BF,Ha,e1,e2,e3,e4,e5,d2]at en ⊢; simp[en],pp,n1,n2⟩)
  |(obtain⟨n,en,n1,n2⟩:=go (10^30+r1) (by lia) (by lia)
    exact⟨n,S5,by simp[BF,Ha,e1,e2,e3,e4,e5,d2]at en ⊢; simp[en],pp,n1,n2⟩)
theorem K1(h:C5 p S):Pcs p 131 S:=by
 obtain⟨n,S',a,b,c,d⟩:=MJ h
 exact⟨n,S',a,b,c,Int.lt_trans d (by decide)⟩
theorem Gu{r:Int}(h:0<=r):∃m:Nat,r=m:=⟨r.toNat,by lia⟩
def kC(t:Tr):Prop:=0<=t.h/\t.h<=9/\0<=t.l/\t.l<=9
theorem OD(h:C5 p S):∃t S',Er [.ref p] S=Gc (Tr.d t,S')/\Pn p S S'/\KI t/\((t.ho.length=t.p/\t.ho.sum=1)/\kC t)/\∃G:Nat,0<G/\G<=32/\∀r∈t.ho,Ok G G r:=by
 obtain⟨r1,S1,e1,a1,b1,p1⟩:=Aa h (n:=4) (by decide) (by decide)
 obtain⟨r2,S2,e2,a2,b2,p2⟩:=Aa p1.pen (n:=5) (by decide) (by decide)
 obtain⟨r3,S3,e3,a3,b3,p3⟩:=Aa p2.pen (n:=3) (by decide) (by decide)
 obtain⟨r4,S4,e4,a4,b4,p4⟩:=Aa p3.pen (n:=20) (by decide) (by decide)
 obtain⟨r5,S5,e5,a5,b5,p5⟩:=Aa p4.pen (n:=2) (by decide) (by decide)
 obtain⟨m1,rfl⟩:=Gu a1
 obtain⟨m2,rfl⟩:=Gu a2
 obtain⟨b,eb,hb1,hb2⟩:∃b:Nat,atI [D.int (1+r3),.int (1+r4)] r5=Gc (.int b)/\1<=b/\b<=20:=by
  obtain⟨x,ex,hx⟩:=pick (xs:=[D.int (1+r3),.int (1+r4)]) (r:=r5) a5 (by simpa using b5)
  obtain⟨m3,rfl⟩:=Gu a3
  obtain⟨m4,rfl⟩:=Gu a4
  simp only[rZ,sC,tF]at hx
  rcases hx with rfl|rfl
  .exact⟨1+m3,by rw[ex];simp,by lia,by lia⟩
  .exact⟨1+m4,by rw[ex];simp,by lia,by lia⟩
 obtain⟨rs,S6,e6,p6,l6,G,g0,g1,g2⟩:=Q3 p5.pen (n:=1+m1) (by lia) (by lia)
 obtain⟨r7,S7,e7,a7,b7,p7⟩:=Aa p6.pen (n:=10) (by decide) (by decide)
 obtain⟨r8,S8,e8,a8,b8,p8⟩:=Aa p7.pen (n:=10) (by decide) (by decide)
 rw[show((1+m1:Nat):Int)=1+(m1:Int) by lia]at e6
 refine⟨⟨1+m1,1+m2,b,rs,r7,r8⟩,S8,?_,((((((p1.trans p2).trans p3).trans p4).trans p5).trans p6).trans p7).trans p8,⟨by simp,by simp;lia,by simp,by simp;lia,hb1,hb2⟩,⟨l6,a7,by show r7<=9;lia,a8,by show r8<=9;lia⟩,G,g0,g1,g2⟩
 simp[Er,Kv,e1,e2,e3,e4,e5,eb,e6,e7,e8,Tr.d]
inductive Shr(p:Nat)(S:Sto):Prop
 |mk (x:Rat) (S':Sto) (e:Es [.ref p] S=Gc (aD x,S')) (g:Pn p S S') (a:0<x.num) (b:x.num<=x.den) (c:x.den<=12)
theorem Xh(h:C5 p S):Shr p S:=by
 obtain⟨r1,S1,e1,a1,b1,p1⟩:=Aa h (n:=12) (by decide) (by decide)
 obtain⟨r2,S2,e2,a2,b2,p2⟩:=Aa p1.pen (n:=1+r1) (by lia) (by lia)
 have m:=W0 (S:=S2) (t:=1+r2) (b:=1+r1) (by lia) (D6 (by lia) (by lia))
 obtain⟨m1,rfl⟩:=Gu a1
 obtain⟨m2,rfl⟩:=Gu a2
 have rp:=K2 (1+(m2:Int)) (1+m1) (by lia)
 have eb:(((1+(m1:Int):Int)):Rat)=(((1+m1:Nat)):Rat):=by
  have:(1+(m1:Int))=((1+m1:Nat):Int):=by lia
  rw[this];rfl
 have en:(1+(m2:Int)).natAbs=1+m2:=by lia
 have gp:0<xf (1+m2) (1+m1):=Nat.gcd_pos_of_pos_left _ (by lia)
 obtain⟨q,hq⟩:=Nat.gcd_dvd_left (1+m2) (1+m1)
 obtain⟨q',hq'⟩:=Nat.gcd_dvd_right (1+m2) (1+m1)
 refine⟨((1+(m2:Int):Int):Rat) / ((1+(m1:Int):Int):Rat),S2,?_,p1.trans p2,?_,?_,?_⟩
 .simp[Es,Li,e1,e2,m]
 .rw[eb,rp.1,en]
  generalize xf (1+m2) (1+m1)=g at*
  have:(1+(m2:Int))=((g*q:Nat):Int):=by lia
  rw[this,zJ,yo _ (by lia)]
  have:q≠0:=λz=>by subst z;lia
  lia
 .rw[eb,rp.1,rp.2,en]
  generalize xf (1+m2) (1+m1)=g at*
  have t1:(1+(m2:Int))=((g*q:Nat):Int):=by lia
  rw[t1,zJ,yo _ (by lia),hq',Nat.mul_div_cancel_left _ gp]
  have:q<=q':=by
   have:g*q<=g*q':=by lia
   exact Nat.le_of_mul_le_mul_left this gp
  lia
 .rw[eb,rp.2]
  exact sI (Nat.div_le_self _ _) (by lia)
inductive Wts(p n:Nat)(S:Sto):Prop
 |mk (ws:Wp Int) (S':Sto) (e:DB [.ref p,.int n] S=Gc (.tup (ws.map .int),S')) (g:Pn p S S') (a:ws.length=n) (b:∀w∈ws,1<=w/\w<=99)
theorem Uv (h : C5 p S) {n : Nat} (hn : n ≤ 6) : Wts p n S := by
  obtain ⟨ys, S', e, hI, l, r⟩ := Kf (gs := []) (t := tNm 1) (f := (eOp (o2 CP) [(eC (.int 1)), (eOp (o2 wIx) [(G3 [(AF AG [(eV 0), (eC (.int 3))]), (AF AG [(eV 0), (eC (.int 99))])]), (AF AG [(eV 0), (eC (.int 2))])])])) (C := [Gc (.ref p)]) (m := 1) (I := Pn p S) (R := fun _ y => ∃ i : Int, y = .int i /\ 1 ≤ i /\ i ≤ 99)
    (fun _ _ => Aj) (ds := MT 0 n) (acc := []) (os := [none]) rfl (Pn.refl h) (by rw [Fh]; simp; exact AI (by lia)) fun d _ os S0 ho I0 => by
      obtain ⟨o, rfl⟩ := Ru ho
      obtain ⟨r1, S1, e1, a1, b1, p1⟩ := Aa I0.pen (n := 3) (by decide) (by decide)
      obtain ⟨r2, S2, e2, a2, b2, p2⟩ := Aa p1.pen (n := 99) (by decide) (by decide)
      obtain ⟨r3, S3, e3, a3, b3, p3⟩ := Aa p2.pen (n := 2) (by decide) (by decide)
      obtain ⟨x, ex, hx⟩ := pick (xs := [.int r1, .int r2]) (r := r3) a3 (by simpa using b3)
      simp only [rZ, sC, tF] at hx
      rcases hx with rfl | rfl
      · exact ⟨[Gc d], .int (1 + r1), S3, rfl, by simp, by simp [e1, e2, e3, ex], ((I0.trans p1).trans p2).trans p3, _, rfl, by lia, by lia⟩
      · exact ⟨[Gc d], .int (1 + r2), S3, rfl, by simp, by simp [e1, e2, e3, ex], ((I0.trans p1).trans p2).trans p3, _, rfl, by lia, by lia⟩
  obtain ⟨ns, rfl, hns⟩ := P9 (Hr r)
  have r1 : Ka (n : Int) = true := FZ (by lia) (by lia)
  have e' : Bp [] (tNm 1) C1 (eOp (o2 CP) [(eC (.int 1)), (eOp (o2 wIx) [(G3 [(AF AG [(eV 0), (eC (.int 3))]), (AF AG [(eV 0), (eC (.int 99))])]), (AF AG [(eV 0), (eC (.int 2))])])]) (MT 0 n) [] [Gc (.ref p), none] S = Gc (ns.map D.int, S') := by simpa using e
  exact ⟨ns, S', by simp [DB, KG, r1, e'], hI, by simpa [Fh] using l, hns⟩
def Ew(t:Tr)(ls:Wp Ld):Prop:=(∀l∈ls,l.k<t.k/\1<=l.n/\l.n<2^131/\l.ow.length=t.p/\l.ow.sum=1)/\∃G:Nat,0<G/\G<=32^ls.length/\∀l∈ls,∀r∈l.ow,Ok G G r
theorem Ew.snoc{t:Tr}{ls:Wp Ld}{l:Ld}(h:Ew t ls)(h1:l.k<t.k/\1<=l.n/\l.n<2^131/\l.ow.length=t.p/\l.ow.sum=1){g:Nat}(g0:0<g)(g1:g<=32)(g2:∀r∈l.ow,Ok g g r):Ew t (ls++[l]):=by
 obtain⟨ha,G,G0,G1,G2⟩:=h
 refine⟨λx hx=>?_,G*g,yj G0 g0,?_,λx hx r hr=>?_⟩
 .rcases sX.mp hx with hx|hx
  .exact ha x hx
  .rw[sj.mp hx];exact h1
 .rw[tV,zR,zB]
  exact zl G1 g1
 .rcases sX.mp hx with hx|hx
  .exact(G2 x hx r hr).up (sD _)
  .rw[sj.mp hx]at hr
   have:=(g2 r hr).up (t:=G) (B':=G*g) (by rw[vx];exact sD _)
   rwa [vx g G]at this
end
section
variable{S:Sto}{p:Nat}
theorem Ew.nil{t:Tr}:Ew t []:=⟨λl hl=>(nomatch hl),1,by decide,by simp,λl hl=>(nomatch hl)⟩
theorem Qz(h:C5 p S){t:Tr}(ht:KI t):∃(ls:Wp Ld) (S':Sto),Eu [.ref p,t.d] S=Gc (.tup (ls.map Ld.d),S')/\Pn p S S'/\Ew t ls/\ls.length<=4:=by
 obtain⟨t1,t2,t3,t4,t5,t6⟩:=ht
 have hlt:=h.lt
 have hq:(S++[Cl.lst []])[S.length]?=Gc (.lst []):=sU
 obtain⟨r1,S1,e1,a1,b1,p1⟩:=Aa (h.app [Cl.lst []]) (n:=5) (by decide) (by decide)
 obtain⟨r2,S2,e2,a2,b2,p2⟩:=Aa p1.pen (n:=3) (by decide) (by decide)
 obtain⟨n,en,hn⟩:∃n:Nat,atI [D.int 0,.int 1,.int r1] r2=Gc (.int n)/\n<=4:=by
  obtain⟨x,ex,hx⟩:=pick (xs:=[D.int 0,.int 1,.int r1]) (r:=r2) a2 (by simpa using b2)
  simp only[rZ,sC,tF]at hx
  rcases hx with rfl|rfl|rfl
  .exact⟨0,ex,by decide⟩
  .exact⟨1,ex,by decide⟩
  .exact⟨r1.toNat,by rw[ex,uD a1],by lia⟩
 have q2:S2[S.length]?=Gc (.lst []):=(p1.trans p2).get hq (by lia)
 have rn:Ka (n:Int)=true:=FZ (by lia) (by lia)
 obtain⟨E',S',ef,ls,o,rfl,f1,f2,f3,f4,f5⟩:=E7 (gs:=[]) (t:=tNm 3) (b:=CM (Nz Ou (eV 2) [Az [AF AG [eV 0,eOp (o2 wIx) [eV 1,eC (.int 1)]],AF BF [eV 0],AF C6 [eV 0,eOp (o2 wIx) [eV 1,eC (.int 0)]]]]))
  (I:=λds E S'=>∃(ls:Wp Ld) (o:rW D),E=[Gc (.ref p),Gc t.d,Gc (.ref S.length),o]/\S'[S.length]?=Gc (.lst (ls.map Ld.d))/\C5 p S'/\Ed [p] S S'/\Ew t ls/\ls.length+ds.length<=4)
  (λ_ _ _ _=>Aj) (ds:=MT 0 n) (E:=[Gc (.ref p),Gc t.d,Gc (.ref S.length),none]) (S:=S2)
  ⟨[],none,rfl,q2,p2.pen,Ed.app.trans (p1.trans p2).same,Ew.nil,by simp[Fh];exact hn⟩ (by
    rintro d ds E S0 ⟨ls,o,rfl,i1,i2,i3,i4,i5⟩
    obtain⟨x1,T1,g1,c1,d1,k1⟩:=Aa i2 (n:=t.k) (by lia) (by lia)
    obtain⟨x2,T2,g2,k2,c2,d2⟩:=K1 k1.pen
    obtain⟨rs,T3,g3,k3,l3,G,G0,G1,G2⟩:=Q3 k2.pen (n:=t.p) t1 t2
    obtain⟨m1,rfl⟩:=Gu c1
    have kk:=(k1.trans k2).trans k3
    have j1:T3[S.length]?=Gc (.lst (ls.map Ld.d)):=kk.get i1 (by lia)
    have hz:ls.length<sizeLine:=rz (show ls.length<5 by lia) (AI (by decide))
    refine⟨[Gc (.ref p),Gc t.d,Gc (.ref S.length),Gc d],[Gc (.ref p),Gc t.d,Gc (.ref S.length),Gc d],T3.set S.length (.lst ((ls++[Ld.mk m1 x2 rs]).map Ld.d)),by simp,?_,ls++[Ld.mk m1 x2 rs],Gc d,rfl,sP (Am j1),?_,?_,i4.snoc (l:=Ld.mk m1 x2 rs) ⟨show m1<t.k by lia,c2,d2,l3⟩ G0 G1 G2,by simp at i5 ⊢; lia⟩
    .have e3:atI [D.int t.p,.int t.k,.int t.b,shD t.ho,.int t.h,.int t.l] 1=Gc (.int t.k):=by simp
     simp[Tr.d,g1,g2,g3,AR i1,AR j1,hz,Ld.d]
    .obtain⟨ds',ed,hd⟩:=kk.pen
     exact⟨ds',by rw[rm (by lia)];exact ed,hd⟩
    .refine⟨sI (i3.trans kk.same).len (by simp),λm hm hmp=>?_⟩
     rw[rm (by lia)]
     exact(i3.trans kk.same).keep m hm hmp)
 refine⟨ls,S',?_,⟨f3,f2⟩,f4,by simpa using f5⟩
 simp[Eu,LU,e1,e2,en,rn,ef,A4 f1]
noncomputable def B7(x:Ld):Cl:=.lst [.int x.k,.int x.n,shD x.ow]
structure SAt(S:Sto)(s l m:Nat)(as:Wp Nat)(st:Stt):Prop where
 root:S[s]?=Gc (.lst [.ref l,shD st.hold,.ref m])
 lo:S[l]?=Gc (.lst (as.map .ref))
 nu:S[m]?=Gc (.lst (st.nums.map .int))
 ld:∀(i a:Nat) (x:Ld),as[i]?=Gc a->st.AB[i]?=Gc x->S[a]?=Gc (B7 x)
 len:as.length=st.AB.length
 nd:(s::l::m::as).Nodup
theorem YT:∀{ls:Wp Ld} {acc:Wp D} {o:rW D} {S:Sto},acc.length+ls.length<=100->Bp [] (tNm 0) C1 (kH (o1 Lq) [eV 0]) (ls.map Ld.d) acc [o] S=Gc (acc++(List.range' S.length ls.length).map D.ref,S++ls.map B7)
 | [],acc,o,S,h=>by rw[vQ,E5 Aj];simp
 |x::ls,acc,o,S,h=>by
  rw[sV,Ju (E1:=[Gc x.d]) Aj (rz (show acc.length<101 by simp at h;lia) (AI (by decide))) (by simp) JN]
  have:kH (o1 Lq) [eV 0] [Gc x.d] S=Gc (.ref S.length,S++[B7 x]):=by simp[Ld.d,B7]
  rw[this,BP,YT (by simp at h ⊢; lia)]
  simp[List.range'_succ]
theorem getElem?_at{α:Type}{xs:Wp α}{x:α}{n:Nat}(h:n=xs.length):(xs++[x])[n]?=Gc x:=by subst h;exact sU
theorem Xp{t:Tr}{ls:Wp Ld}{x:D}(hl:ls.length<=20):∃s l m as S',GR [.tup [t.d,.tup (ls.map Ld.d),x]] S=Gc (.ref s,S')/\SAt S' s l m as ⟨ls,t.ho,[]⟩/\Ed [] S S'/\(∀n∈s::l::m::as,S.length<=n):=by
 have e:=YT (ls:=ls) (acc:=[]) (o:=none) (S:=S) (by simp;lia)
 refine⟨S.length+ls.length+2,S.length+ls.length,S.length+ls.length+1,List.range' S.length ls.length,S++ls.map B7++[.lst ((List.range' S.length ls.length).map D.ref)]++[.lst []]++[.lst [.ref (S.length+ls.length),shD t.ho,.ref (S.length+ls.length+1)]],?_,⟨?_,?_,?_,?_,?_,?_⟩,?_,?_⟩
 .simp[GR,Lf,Tr.d,e,shD]
  lia
 .exact getElem?_at (by simp;lia)
 .rw[rf (by simp),rf (by simp)]
  exact getElem?_at (by simp)
 .rw[rf (by simp;lia)]
  exact getElem?_at (by simp;lia)
 .intro i a y ha hy
  have hi:i<ls.length:=(r9.mp hy).1
  have:a=S.length+i:=by
   rw[List.getElem?_range' hi]at ha
   simp at ha;lia
  subst this
  rw[rf (by simp;lia),rf (by simp;lia),rf (by simp;lia),tK (by lia)]
  have hy':ls[i]?=Gc y:=hy
  simp[hy']
 .simp
 .rw[vO,vO,vO]
  refine⟨?_,?_,?_,List.nodup_range'⟩
  .simp only[rZ,xO];lia
  .simp only[rZ,xO];lia
  .simp only[xO];lia
 .rw[xG,xG,xG]
  exact .app
 .intro n hn
  simp only[rZ,xO]at hn
  lia
end
section
variable{S:Sto}{p:Nat}
@[simp] theorem qa{rs:List Rat}{S:Sto}:sqD S (shD rs)=some (rs.map aD,[]):=nr rfl
@[simp] theorem kc{S:Sto}{r:List D}:dr (S++[.lst r]) (.ref S.length)=.own r:=A4 List.getElem?_concat_length
@[simp] theorem cy{S:Sto}{r:List D}:EI (S++[.lst r]) S.length=some r:=AR List.getElem?_concat_length
theorem set_same{S:Sto}{q:Nat}{c:Cl}(h:S[q]?=Gc c):S.set q c=S:=by
 apply List.ext_getElem?
 intro i
 by_cases e:q=i
 .subst e;rw[sP (Am h),h]
 .rw[rm e]
theorem P4{gs:Gd}{t:Tf}{b:Ex}{C:En}{m q:Nat}{h:D->D}{I:Sto->Prop}(hg:∀S,I S->gOk gs S)(hI:∀S c,I S->I (S.set q c)):∀{ds acc:Wp D} {os:En} {S:Sto},os.length=m->I S->S[q]?=Gc (.lst acc)->acc.length+ds.length<=1000->(∀d∈ds,∀os S acc,os.length=m->I S->S[q]?=Gc (.lst acc)->acc.length<sizeLine->∃us us',t d (C++os) S=Gc (C++us)/\b (C++us) S=Gc (.nx,C++us',S.set q (.lst (acc++[h d])))/\us'.length=m)->∃os',os'.length=m/\MD gs t b ds (C++os) S=Gc (.nx,C++os',S.set q (.lst (acc++ds.map h)))
 | [],acc,os,S,ho,hS,hq,hz,H=>⟨os,ho,by
     rw[Kn (hg S hS)]
     have:S.set q (.lst (acc++List.map h []))=S:=by
      rw[vQ,uB]
      exact set_same hq
     rw[this]⟩
 |d::ds,acc,os,S,ho,hS,hq,hz,H=>by
  have hl:=Am hq
  obtain⟨us,us',e1,e2,hu⟩:=H d sN os S acc ho hS hq (rz (show acc.length<1001 by simp at hz;lia) (sI (by decide) (show 1001<=sizeLine by decide)))
  obtain⟨os',ho',e3⟩:=P4 hg hI (ds:=ds) (acc:=acc++[h d]) (os:=us') (S:=S.set q (.lst (acc++[h d]))) hu (hI S _ hS) (sP hl) (by simp at hz ⊢; lia) λd' hd=>H d' (rg _ hd)
  refine⟨os',ho',?_⟩
  rw[Ho (hg S hS),e1,BP,e2,BP,cL,e3,List.set_set]
  simp
noncomputable def un:D->Rat
 | .tup [.int n,.int d]=>(n:Rat) / (d:Rat)
 |_=>0
theorem bP(r:Rat):un (aD r)=r:=EY r
noncomputable def Pz(f:Rat->Rat->Rat):D->D
 | .tup [a,b]=>aD (f (un a) (un b))
 |d=>d
theorem NY{f:Rat->Rat->Rat}:∀{ss os:Wp Rat},(PR (ss.map aD) (os.map aD)).map (Pz f)=(zC f ss os).map aD
 | [],os=>by simp[PR]
 |s::ss,[]=>by simp[PR]
 |s::ss,o::os=>by
  have ih:=NY (f:=f) (ss:=ss) (os:=os)
  unfold PR at ih⊢
  simp only[sV,List.zip_cons_cons,List.zipWith_cons_cons]at ih⊢
  rw[ih]
  simp[Pz,bP]
theorem UE{ss os:Wp Rat}{d:D}(h:d∈PR (ss.map aD) (os.map aD)):∃s∈ss,∃o∈os,d=.tup [aD s,aD o]:=by
 unfold PR at h
 obtain⟨⟨a,b⟩,h1,rfl⟩:=uA.mp h
 have h2:=vP h1
 obtain⟨s,hs,rfl⟩:=uA.mp h2.1
 obtain⟨o,ho,rfl⟩:=uA.mp h2.2
 exact⟨s,hs,o,ho,rfl⟩
theorem Y8:aD 1=.tup [.int 1,.int 1]:=rfl
theorem gc(n:Int):aD (n:Rat)=.tup [.int n,.int 1]:=by
 unfold aD
 simp
theorem Yg{n:Int}{k:Nat}(h:n.natAbs<2^k)(hk:1<=k):Sz k (n:Rat):=by
 unfold Sz
 have:1<2^k:=yU (by lia)
 simp[h,this]
theorem ZG{k:Nat}(hk:1<=k):Sz k (1:Rat):=by
 have:1<2^k:=yU (by lia)
 exact⟨by simpa using this,by simpa using this⟩
theorem QT{x:Rat}{ss os:Wp Rat}{j i:Nat}(hs:∀r∈ss,Sz j r)(ho:∀r∈os,Sz j r)(hx:Sz i x)(hj:2*j+2*i<=7900)(hl:ss.length<=10):∃S',Dw [shD ss,aD x,shD os] S=Gc (shD (Kb x os ss),S')/\Ed [] S S':=by
 have hq:(S++[Cl.lst []])[S.length]?=Gc (.lst []):=sU
 obtain⟨os',ho',e⟩:=P4 (gs:=[]) (t:=tTp [tNm 4,tNm 5]) (b:=CM (Nz Ou (eV 3) [AF B5 [AF Aw [eV 4,AF DJ [Az [eC (.int 1),eC (.int 1)],eV 1]],AF Aw [eV 5,eV 1]]])) (C:=[Gc (shD ss),Gc (aD x),Gc (shD os),Gc (.ref S.length)]) (m:=2) (q:=S.length) (h:=Pz λs o=>s*(1-x)+o*x) (I:=λ_=>yk) (λ_ _=>Aj) (λ_ _ _=>trivial)
  (ds:=PR (ss.map aD) (os.map aD)) (acc:=[]) (os:=[none,none]) (S:=S++[Cl.lst []]) rfl trivial hq (by simp[Ku];lia) (by
    intro d hd os0 S0 acc h0 _ hq0 hz
    obtain⟨o1,o2,rfl⟩:=mK h0
    obtain⟨s,hs',o,ho',rfl⟩:=UE hd
    have l1:=ZN (S:=S0) (ZG (k:=1) (by decide)) hx (by lia)
    have s1:=(fU (ZG (k:=1) (by decide)) hx)
    have l2:=J5 (S:=S0) (hs s hs') s1 (by lia)
    have l3:=J5 (S:=S0) (ho o ho') hx (by lia)
    have l4:=Q4 (S:=S0) (N8 (hs s hs') s1) (N8 (ho o ho') hx) (by lia)
    rw[Y8]at l1
    refine⟨[Gc (aD s),Gc (aD o)],[Gc (aD s),Gc (aD o)],by simp,?_,rfl⟩
    simp[l1,l2,l3,l4,AR hq0,hz,Pz,bP])
 rw[NY]at e
 refine⟨(S++[Cl.lst []]).set S.length (.lst ((Kb x os ss).map aD)),?_,?_⟩
 .have e':MD [] (tTp [tNm 4,tNm 5]) (CM (Nz Ou (eV 3) [AF B5 [AF Aw [eV 4,AF DJ [Az [eC (.int 1),eC (.int 1)],eV 1]],AF Aw [eV 5,eV 1]]])) (PR (ss.map aD) (os.map aD)) [Gc (shD ss),Gc (aD x),Gc (shD os),Gc (.ref S.length),none,none] (S++[Cl.lst []])=Gc (.nx,[Gc (shD ss),Gc (aD x),Gc (shD os),Gc (.ref S.length)]++os',(S++[Cl.lst []]).set S.length (.lst ((Kb x os ss).map aD))):=by simpa[Kb]using e
  simp[Dw,K6,e']
  rfl
 .refine⟨by simp,λn hn _=>?_⟩
  rw[rm (by lia),rf hn]
end
section
variable{S:Sto}{p:Nat}
theorem getD_get{α:Type}{xs:Wp α}{n:Nat}{d:α}(h:n<xs.length):xs[n]?=Gc (xs.getD n d):=by
 rw[sv,sF h]
 rfl
theorem getD_mem{α:Type}{xs:Wp α}{n:Nat}{d:α}(h:n<xs.length):xs.getD n d∈xs:=sQ (getD_get h)
theorem iK{ss:Wp Rat}{n:Nat}(h:n<ss.length):atI (ss.map aD) (n:Int)=Gc (aD (ss.getD n 0)):=C9 (by rw[sY,getD_get h];rfl)
theorem iI{ss:Wp Rat}{n:Nat}(h:n<ss.length):ixN (ss.map aD).length (n:Int)=Gc n:=QD (by simpa using h)
theorem UN{p q:Nat}{x:Rat}{ss:Wp Rat}{j i:Nat}(hs:∀r∈ss,Sz j r)(hx:Sz i x)(hj:2*j+i<=7900)(hp:p<ss.length)(hq:q<ss.length)(hpq:p≠q):∃S',Eg [shD ss,(AX.Kc p q x).d] S=Gc (shD (JH p q x ss),S')/\Ed [] S S':=by
 have sp:=hs _ (getD_mem (d:=0) hp)
 have sq:=hs _ (getD_mem (d:=0) hq)
 have l1:∀S,Aw [aD (ss.getD p 0),aD x] S=Gc (aD (ss.getD p 0*x),S):=λS=>J5 sp hx (by lia)
 have s1:=N8 sp hx
 have l2:∀S,DJ [aD (ss.getD p 0),aD (ss.getD p 0*x)] S=Gc (aD (ss.getD p 0-ss.getD p 0*x),S):=λS=>ZN sp s1 (by lia)
 have l3:∀S,B5 [aD (ss.getD q 0),aD (ss.getD p 0*x)] S=Gc (aD (ss.getD q 0+ss.getD p 0*x),S):=λS=>Q4 sq s1 (by lia)
 have a1:=iK hp
 have i1:=iI hp
 have i2:ixN (((ss.map aD).set p (aD (ss.getD p 0-ss.getD p 0*x))).length) (q:Int)=Gc q:=QD (by simpa using hq)
 have a2:atI ((ss.map aD).set p (aD (ss.getD p 0-ss.getD p 0*x))) (q:Int)=Gc (aD (ss.getD q 0)):=C9 (by
  rw[rm hpq,sY,getD_get hq];rfl)
 refine⟨S++[.lst ((JH p q x ss).map aD)],?_,.app⟩
 simp only[u6,uJ]at i1 i2
 have em:(JH p q x ss).map aD=((ss.map aD).set p (aD (ss.getD p 0-ss.getD p 0*x))).set q (aD (ss.getD q 0+ss.getD p 0*x)):=by rw[JH,zD,zD]
 unfold shD
 rw[em]
 generalize aD (ss.getD p 0-ss.getD p 0*x)=d1 at*
 generalize aD (ss.getD q 0+ss.getD p 0*x)=d2 at*
 generalize aD (ss.getD p 0*x)=d3 at*
 generalize aD (ss.getD p 0)=d4 at*
 generalize aD (ss.getD q 0)=d5 at*
 simp[Eg,Mq,AX.d,a1,l1,l2,l3,i1,i2,a2]
theorem Sx{x y:Ld}{a b:Nat}{j i:Nat}(ha:S[a]?=Gc (B7 x))(hb:S[b]?=Gc (B7 y))(hs:∀r∈x.ow,Sz j r)(ho:∀r∈y.ow,Sz j r)(hx:x.n.natAbs<2^i)(hy:y.n.natAbs<2^i)(h0:0<x.n+y.n)(h1:1<=i)(hj:2*j+4*i<=7900)(hl:x.ow.length<=10):∃S',Fo [.ref a,.ref b] S=Gc (shD (EJ x.n y.n x.ow y.ow),S')/\Ed [] S S':=by
 have la:=Am ha
 have lb:=Am hb
 have hq:(S++[Cl.lst []])[S.length]?=Gc (.lst []):=sU
 have ha':(S++[Cl.lst []])[a]?=Gc (B7 x):=by rw[rf la];exact ha
 have hb':(S++[Cl.lst []])[b]?=Gc (B7 y):=by rw[rf lb];exact hb
 obtain⟨os',ho',e⟩:=P4 (gs:=[]) (t:=tTp [tNm 3,tNm 4]) (b:=AV (Bs 5 (AF B5 [AF Aw [Az [eOp (o2 wIx) [eV 0,eC (.int 1)],eC (.int 1)],eV 3],AF Aw [Az [eOp (o2 wIx) [eV 1,eC (.int 1)],eC (.int 1)],eV 4]]))
  (CM (Nz Ou (eV 2) [AF Aw [eV 5,AF Bh [eC (.int 1),eOp (o2 CP) [eOp (o2 wIx) [eV 0,eC (.int 1)],eOp (o2 wIx) [eV 1,eC (.int 1)]]]]]))) (C:=[Gc (.ref a),Gc (.ref b),Gc (.ref S.length)]) (m:=3) (q:=S.length) (h:=Pz λs o=>(s*x.n+o*y.n) / (x.n+y.n:Int)) (I:=λS'=>S'[a]?=Gc (B7 x)/\S'[b]?=Gc (B7 y)) (λ_ _=>Aj) (λS' c h=>⟨by rw[rm (by lia)];exact h.1,by rw[rm (by lia)];exact h.2⟩)
  (ds:=PR (x.ow.map aD) (y.ow.map aD)) (acc:=[]) (os:=[none,none,none]) (S:=S++[Cl.lst []]) rfl ⟨ha',hb'⟩ hq (by simp[Ku];lia) (by
    intro d hd os0 S0 acc h0' hI hq0 hz
    obtain⟨o1,o2,o3,rfl⟩:=pD h0'
    obtain⟨s,hs',o,ho',rfl⟩:=UE hd
    have d1:=A4 hI.1
    have d2:=A4 hI.2
    have z1:=Yg hx h1
    have z2:=Yg hy h1
    have l1:=J5 (S:=S0) z1 (hs s hs') (by lia)
    have l2:=J5 (S:=S0) z2 (ho o ho') (by lia)
    have s1:=N8 z1 (hs s hs')
    have s2:=N8 z2 (ho o ho')
    have l3:=Q4 (S:=S0) s1 s2 (by lia)
    have b1:=SF hx hy
    have l4:=W0 (S:=S0) (t:=1) h0 (GK b1 (by lia))
    have s4:Sz (i+1) (((1:Int):Rat) / ((x.n+y.n:Int):Rat)):=MW h0 (show(1:Int).natAbs<2^(i+1)from yU (by lia)) b1
    have l5:=J5 (S:=S0) (iY s1 s2) s4 (by lia)
    rw[gc]at l1 l2
    refine⟨[Gc (aD s),Gc (aD o),o3],[Gc (aD s),Gc (aD o),Gc (aD (x.n*s+y.n*o))],by simp,?_,rfl⟩
    have ev:(((x.n:Rat)*s+(y.n:Rat)*o)*(((1:Int):Rat) / ((x.n+y.n:Int):Rat)))=(s*x.n+o*y.n) / (x.n+y.n:Int):=by
     push_cast
     grind
    rw[ev]at l5
    have lf:(Pz λs o=>(s*x.n+o*y.n) / (x.n+y.n:Int)) (.tup [aD s,aD o])=aD ((s*x.n+o*y.n) / (x.n+y.n:Int)):=by simp only[Pz,bP]
    rw[lf]
    generalize aD ((s*x.n+o*y.n) / (x.n+y.n:Int))=e5 at*
    generalize aD (((1:Int):Rat) / ((x.n+y.n:Int):Rat))=e4 at*
    generalize aD (x.n*s+y.n*o)=e3 at*
    simp[d1,d2,B7,l1,l2,l3,l4,l5,AR hq0,hz])
 rw[NY]at e
 refine⟨(S++[Cl.lst []]).set S.length (.lst ((EJ x.n y.n x.ow y.ow).map aD)),?_,?_⟩
 .have e':=e
  simp only[ua,uC]at e'
  have d1:=A4 ha'
  have d2:=A4 hb'
  change MD _ _ _ _ _ _=Gc (_,_,List.set _ _ (Cl.lst (List.map aD (EJ x.n y.n x.ow y.ow))))at e'
  generalize EJ x.n y.n x.ow y.ow=rs at*
  simp[Fo,KO,d1,d2,e',shD]
 .refine⟨by simp,λn hn _=>?_⟩
  rw[rm (by lia),rf hn]
end
section
variable{S:Sto}{p:Nat}
theorem JS{α:Type}{gs:Gd}{t:Tf}{f:Ev}{C:En}{m:Nat}{e g:α->D}{S:Sto}(hg:gOk gs S):∀{xs:Wp α} {acc:Wp D} {os:En},os.length=m->acc.length+xs.length<=sizeLine->(∀x∈xs,∀os,os.length=m->∃us,us.length=m/\t (e x) (C++os) S=Gc (C++us)/\f (C++us) S=Gc (g x,S))->Bp gs t C1 f (xs.map e) acc (C++os) S=Gc (acc++xs.map g,S)
 | [],acc,os,ho,hz,h=>by rw[vQ,E5 hg];simp
 |x::xs,acc,os,ho,hz,h=>by
  obtain⟨us,hu,e1,e2⟩:=h x sN os ho
  rw[sV,Ju hg (by simp at hz;lia) e1 JN,e2,BP]
  rw[JS hg hu (by simp at hz ⊢; lia) λx' hx=>h x' (rg _ hx)]
  simp
theorem D7{α:Type}{gs:Gd}{t:Tf}{c f:Ev}{C:En}{m:Nat}{e g:α->D}{b:α->sx}{S:Sto}(hg:gOk gs S):∀{xs:Wp α} {acc:Wp D} {os:En},os.length=m->acc.length+xs.length<=sizeLine->(∀x∈xs,∀os,os.length=m->∃us,us.length=m/\t (e x) (C++os) S=Gc (C++us)/\c (C++us) S=Gc (.bl (b x),S)/\f (C++us) S=Gc (g x,S))->Bp gs t c f (xs.map e) acc (C++os) S=Gc (acc++(xs.filter b).map g,S)
 | [],acc,os,ho,hz,h=>by rw[vQ,E5 hg];simp
 |x::xs,acc,os,ho,hz,h=>by
  obtain⟨us,hu,e1,e2,e3⟩:=h x sN os ho
  cases hb:b x with
  |true=>
   rw[hb]at e2
   rw[sV,Ju hg (by simp at hz;lia) e1 e2,e3,BP,D7 hg hu (by simp at hz ⊢; lia) λd' hd=>h d' (rg _ hd)]
   simp[hb]
  |false=>
   rw[hb]at e2
   rw[sV,IP hg (by simp at hz;lia) e1 e2,D7 hg hu (by simp at hz ⊢; lia) λd' hd=>h d' (rg _ hd)]
   simp[hb]
theorem Wa{as:Wp Nat}{ls:Wp Ld}(h:as.length=ls.length):as.map D.ref=(as.zip ls).map λz=>D.ref z.1:=by
 have:as=(as.zip ls).map Prod.fst:=(List.map_fst_zip (by lia)).symm
 conv=>lhs;rw[this]
 rw[v3];rfl
theorem bF{β:Type}{as:Wp Nat}{ls:Wp Ld}(h:as.length=ls.length)(g:Ld->β):ls.map g=(as.zip ls).map λz=>g z.2:=by
 have:ls=(as.zip ls).map Prod.snd:=(List.map_snd_zip (by lia)).symm
 conv=>lhs;rw[this]
 rw[v3];rfl
section
variable{s l m:Nat}{as:Wp Nat}{st:Stt}
theorem SAt.pS(h:SAt S s l m as st){z:Nat×Ld}(hz:z∈as.zip st.AB):S[z.1]?=Gc (B7 z.2):=by
 obtain⟨i,hi⟩:=vb.mp hz
 have:=wW.mp hi
 exact h.ld i z.1 z.2 this.1 this.2
theorem SAt.at(h:SAt S s l m as st){i:Nat}(hi:i<st.AB.length):∃a,as[i]?=Gc a/\S[a]?=Gc (B7 (AM st.AB i))/\atI (as.map D.ref) (i:Int)=Gc (.ref a):=by
 have h1:i<as.length:=by rw[h.len];exact hi
 refine⟨as[i],sF h1,h.ld i _ _ (sF h1) (Gi hi),C9 (by rw[sY,sF h1];rfl)⟩
theorem SAt.guard(h:SAt S s l m as st):gOk [(l,as.map D.ref)] S:=by
 intro g hg
 simp only[rZ,sC,tF]at hg
 subst hg
 exact AR h.lo
end
theorem VH{M:Int}(hM:0<=M):∀{xs:Wp Int},(∀x∈xs,0<=x/\x<=M)->0<=xs.sum/\xs.sum<=xs.length*M
 | [],_=>by simp
 |x::xs,h=>by
  have h1:=h x sN
  have h2:=VH hM λy hy=>h y (rg _ hy)
  simp only[vH,sk]
  refine⟨by lia,?_⟩
  have:((xs.length+1:Nat):Int)*M=xs.length*M+M:=by push_cast;grind
  lia
theorem Mv:∀{xs:Wp Int} {y:Int},(∀x∈xs,0<=x)->y∈xs->y<=xs.sum
 |x::xs,y,h,hy=>by
  have h1:=h x sN
  have h2:0<=xs.sum:=by
   clear hy
   induction xs with
   |nil=>simp
   |cons z zs ih=>
    have:=h z (by simp)
    have:=ih λw hw=>h w (by simp at hw ⊢; rcases hw with hw|hw<;>simp[hw])
    simp only[vH];lia
  simp only[vH]
  rcases rZ.mp hy with e|e
  .lia
  .have:=Mv (λz hz=>h z (rg _ hz)) e
   lia
section
variable{t:Tr}{k:Nat}{st:Stt}{ws:Wp Int}{n:Int}{l:Nat}
theorem Oq{i:Nat}(hw:∀w∈ws,1<=w/\w<=99)(hi:i<ws.length):1<=ws.getD i 0/\ws.getD i 0<=99:=hw _ (getD_mem hi)
theorem Ys{i:Nat}(hi:i<ws.length):atI (ws.map D.int) (i:Int)=Gc (.int (ws.getD i 0)):=C9 (by rw[sY,getD_get hi];rfl)
theorem QV(hi:ws.length=k+1):atI (ws.map D.int) (-1:Int)=Gc (.int (ws.getD k 0)):=by
 have ix:ixN (ws.map D.int).length (-1)=Gc k:=by
  rw[uJ,hi]
  unfold ixN
  simp
  lia
 unfold atI
 rw[ix]
 show(ws.map D.int)[k]?=_
 rw[sY,getD_get (d:=(0:Int)) (by lia)]
 rfl
theorem Ko(ht:KI t)(h:Gz t k st)(hk:k<=24)(hl:ws.length=t.k+1)(hw:∀w∈ws,1<=w/\w<=99):0<FK t st.AB ws/\FK t st.AB ws<2^(145+k):=by
 obtain⟨t1,t2,t3,t4,t5,t6⟩:=ht
 have hP:(0:Int)<=2^(131+k):=Int.le_of_lt (Int.pow_pos (by decide))
 have hs:=VH (M:=2^(131+k)*99) (by lia) (xs:=st.AB.map λl=>l.n*ws.getD l.k 0) (by
  intro x hx
  obtain⟨y,hy,rfl⟩:=uA.mp hx
  have h1:=h.pcs y hy
  have h2:=Oq hw (i:=y.k) (by have:=h.kind y hy;lia)
  refine⟨Int.mul_nonneg h1.1 (by lia),Int.mul_le_mul (by lia) h2.2 (by lia) hP⟩)
 have hb:=Oq hw (i:=t.k) (by lia)
 have hlen:=h.len
 rw[uJ]at hs
 have h3:(st.AB.length:Int)*(2^(131+k)*99)<=30*(2^(131+k)*99):=xX (by lia) (by lia)
 have h4:(1:Int)<=t.b*ws.getD t.k 0:=by
  have:0<(t.b:Int)*ws.getD t.k 0:=uw (by lia) (by lia)
  lia
 have h5:t.b*ws.getD t.k 0<=20*99:=Int.mul_le_mul (by lia) hb.2 (by lia) (by decide)
 have h6:(2:Int)^(145+k)=2^(131+k)*16384:=by rw[show 145+k=(131+k)+14 by lia,Int.pow_add];rfl
 have h7:(1:Int)<=2^(131+k):=by have:(0:Int)<2^(131+k):=Int.pow_pos (by decide);lia
 have h7':(2:Int)^11<=2^(131+k):=by
  have:(2^11:Nat)<=2^(131+k):=tL (by decide) (by lia)
  exact_mod_cast this
 unfold FK
 rw[h6]
 generalize (2:Int)^(131+k)=P at*
 lia
theorem UU(ht:KI t)(h:Gz t k st)(hl:ws.length=t.k+1)(hw:∀w∈ws,1<=w/\w<=99)(hi:l<st.AB.length)(h1:1<=n)(h2:n<=(AM st.AB l).n):0<n*ws.getD (AM st.AB l).k 0/\n*ws.getD (AM st.AB l).k 0<FK t st.AB ws:=by
 obtain⟨t1,t2,t3,t4,t5,t6⟩:=ht
 have hw1:=Oq hw (i:=(AM st.AB l).k) (by have:=h.kind _ (BN hi);lia)
 have hb:=Oq hw (i:=t.k) (by lia)
 have h4:(1:Int)<=t.b*ws.getD t.k 0:=by
  have:0<(t.b:Int)*ws.getD t.k 0:=uw (by lia) (by lia)
  lia
 have h5:=Mv (xs:=st.AB.map λl=>l.n*ws.getD l.k 0) (y:=(AM st.AB l).n*ws.getD (AM st.AB l).k 0) (by
  intro x hx
  obtain⟨y,hy,rfl⟩:=uA.mp hx
  have h1:=h.pcs y hy
  have h2:=Oq hw (i:=y.k) (by have:=h.kind y hy;lia)
  exact Int.mul_nonneg h1.1 (by lia)) (uA.mpr ⟨_,BN hi,rfl⟩)
 have h6:n*ws.getD (AM st.AB l).k 0<=(AM st.AB l).n*ws.getD (AM st.AB l).k 0:=xX h2 (by lia)
 refine⟨uw (by lia) (by lia),?_⟩
 unfold FK
 lia
theorem NW(hi:l<st.AB.length):MG t st.AB l n ws=((n*ws.getD (AM st.AB l).k 0:Int):Rat) / (FK t st.AB ws:Rat):=by
 unfold MG
 rw[Gi hi]
 rfl
theorem Jm{x:Int}{j:Nat}(h0:0<=x)(h1:x<2^j):x.natAbs<2^j:=by
 have:((x.natAbs:Nat):Int)<((2^j:Nat):Int):=by
  rw[Int.natAbs_of_nonneg h0];push_cast;exact h1
 exact_mod_cast this
theorem bI(ht:KI t)(h:Gz t k st)(hk:k<=24)(hl:ws.length=t.k+1)(hw:∀w∈ws,1<=w/\w<=99)(hi:l<st.AB.length)(h1:1<=n)(h2:n<=(AM st.AB l).n):Sz (145+k) (MG t st.AB l n ws):=by
 have a:=Ko ht h (by lia) hl hw
 have b:=UU ht h hl hw hi h1 h2
 rw[NW hi]
 exact MW a.1 (Jm (by lia) (by lia)) (Jm (by lia) a.2)
theorem Z8{s r m:Nat}{as:Wp Nat}(hS:SAt S s r m as st)(ht:KI t)(h:Gz t k st)(hk:k<=20)(hl:ws.length=t.k+1)(hw:∀w∈ws,1<=w/\w<=99)(hi:l<st.AB.length)(h1:1<=n)(h2:n<=(AM st.AB l).n):Hs [t.d,.ref r,(AX.thr l n ws).d] S=Gc (aD (MG t st.AB l n ws),S):=by
 have a:=Ko ht h (by lia) hl hw
 obtain⟨x,x1,x2,x3⟩:=hS.at hi
 have hlen:=h.len
 have e:=JS (gs:=[(r,as.map D.ref)]) (t:=tTp [tNm 1,tNm 2,tNm 3]) (f:=eOp (o2 Dx) [eV 2,eOp (o2 wIx) [eV 0,eV 1]]) (C:=[Gc (.tup (ws.map D.int))]) (m:=3) (e:=λz:Nat×Ld=>D.ref z.1) (g:=λz=>D.int (z.2.n*ws.getD z.2.k 0)) hS.guard (xs:=as.zip st.AB) (acc:=[]) (os:=[none,none,none]) rfl (sI (show _<=50 by simp;lia) (AI (by decide))) (by
  intro z hz os ho
  obtain⟨q1,q2,q3,rfl⟩:=pD ho
  have c1:=hS.pS hz
  have hm:z.2∈st.AB:=(vP (a:=z.1) (b:=z.2) hz).2
  have hk:=h.kind _ hm
  have w1:=Ys (ws:=ws) (i:=z.2.k) (by lia)
  have w2:=Oq hw (i:=z.2.k) (by lia)
  have m1:Dt z.2.n (ws.getD z.2.k 0)=true:=mulR (by lia) (by lia)
  generalize ws.getD z.2.k 0=wz at*
  refine⟨[Gc (.int z.2.k),Gc (.int z.2.n),Gc (shD z.2.ow)],rfl,?_,?_⟩
  .simp[AR c1,B7]
  .simp[w1,m1])
 rw[<-Wa hS.len,<-bF hS.len (λx=>D.int (x.n*ws.getD x.k 0))]at e
 have e':=e
 simp only[ua,uC]at e'
 rw[NW hi]
 have es:L5 (st.AB.map λx=>D.int (x.n*ws.getD x.k 0))=Gc (st.AB.map λx=>x.n*ws.getD x.k 0):=by
  have:=HV (st.AB.map λx=>x.n*ws.getD x.k 0)
  rwa [v3]at this
 have w1:=Ys (ws:=ws) (i:=(AM st.AB l).k) (by have:=h.kind _ (BN hi);lia)
 have w3:=Oq hw (i:=(AM st.AB l).k) (by have:=h.kind _ (BN hi);lia)
 have w2:=QV hl
 have w4:=Oq hw (i:=t.k) (by lia)
 have m1:Dt n (ws.getD (AM st.AB l).k 0)=true:=mulR (by lia) (by lia)
 have m2:Dt (t.b:Int) (ws.getD t.k 0)=true:=mulR (by lia) (by lia)
 have l1:=W0 (S:=S) (t:=n*ws.getD (AM st.AB l).k 0) a.1 (GK (Jm (by lia) a.2) (by lia))
 have e2:FK t st.AB ws=(st.AB.map λx=>x.n*ws.getD x.k 0).sum+t.b*ws.getD t.k 0:=rfl
 rw[e2]at l1⊢
 generalize aD (((n*ws.getD (AM st.AB l).k 0:Int):Rat) / (((st.AB.map λx=>x.n*ws.getD x.k 0).sum+t.b*ws.getD t.k 0:Int):Rat))=R at*
 generalize (st.AB.map λx=>x.n*ws.getD x.k 0)=es' at*
 generalize (st.AB.map λx=>D.int (x.n*ws.getD x.k 0))=es2 at*
 generalize ws.getD (AM st.AB l).k 0=wa at*
 generalize ws.getD t.k 0=wb at*
 have dx:=A4 x2
 have dl:=A4 hS.lo
 simp[Hs,MR,AX.d,Tr.d,HX hS.lo,e',es,w2,m2,dl,x3,dx,B7,w1,m1,l1]
theorem TV{G B:Nat}(ht:KI t)(h:Gz t k st)(hk:k<=24)(hl:ws.length=t.k+1)(hw:∀w∈ws,1<=w/\w<=99)(hi:l<st.AB.length)(h1:1<=n)(h2:n<=(AM st.AB l).n){os ss:Wp Rat}(ho:∀r∈os,Ok G B r)(hs:∀r∈ss,Ok G B r):∀r∈Kb (MG t st.AB l n ws) os ss,Ok (G*(FK t st.AB ws).toNat) (B*(FK t st.AB ws).toNat) r:=by
 have a:=Ko ht h (by lia) hl hw
 have b:=UU ht h hl hw hi h1 h2
 intro r hr
 unfold Kb at hr
 rw[vb]at hr
 obtain⟨i,hi'⟩:=hr
 rw[xi]at hi'
 obtain⟨x,y,hx,hy,rfl⟩:=hi'
 rw[NW hi]
 generalize n*ws.getD (AM st.AB l).k 0=c at*
 generalize FK t st.AB ws=W at*
 have:=Ok.mix (a:=(W-c).toNat) (b:=c.toNat) (t:=W.toNat) (hs x (sQ hx)) (ho y (sQ hy)) (by lia) (by lia)
 have e1:(((W-c).toNat:Nat):Rat)=(W:Rat)-(c:Rat):=by
  have:(((W-c).toNat:Nat):Int)=W-c:=uD (by lia)
  have:((((W-c).toNat:Nat):Int):Rat)=((W-c:Int):Rat):=by rw[this]
  push_cast at this
  exact this
 have e2:((c.toNat:Nat):Rat)=(c:Rat):=by
  have:((c.toNat:Nat):Int)=c:=uD (by lia)
  have:(((c.toNat:Nat):Int):Rat)=(c:Rat):=by rw[this]
  exact this
 have e3:((W.toNat:Nat):Rat)=(W:Rat):=by
  have:((W.toNat:Nat):Int)=W:=uD (by lia)
  have:(((W.toNat:Nat):Int):Rat)=(W:Rat):=by rw[this]
  exact this
 rw[e1,e2,e3]at this
 have ne:(W:Rat)≠0:=by
  intro z
  have:=xA.mp z
  lia
 have ev:(x*((W:Rat)-(c:Rat))+y*(c:Rat)) / (W:Rat)=x*(1-(c:Rat) / (W:Rat))+y*((c:Rat) / (W:Rat)):=by grind
 rw[ev]at this
 exact this
end
end
section
variable{S:Sto}
theorem bu{x y:Str}(h:uW x=true)(g:uW y=true):KZ (.str x) (.str y)=true:=by
 unfold KZ
 show(uW x && uW y && _)=true
 rw[h,g]
 rfl
theorem ae(c:Char):c.toNat<1114112:=by
 have h:c.toNat.isValidChar:=c.valid
 rcases h with h|h
 .exact xy h (by decide)
 .exact h.2
theorem Qq{x:vB}:uW (rh x)=true:=by
 unfold uW rh
 simp
 intro c hc
 rw[cpsOfBytes_string]at hc
 obtain⟨ch,_,rfl⟩:=uA.mp hc
 exact ae ch
theorem N6:∀{a b:Wp Char},a.map Char.toNat=b.map Char.toNat->a=b
 | [],[],_=>rfl
 |x::a,y::b,h=>by
  rw[sV,sV]at h
  injection h with h1 h2
  rw[Char.toNat_inj.mp h1,N6 h2]
 | [],_::_,h=>nomatch h
 |_::_,[],h=>nomatch h
theorem Ze{x y:vB}(h:rh x=rh y):x=y:=by
 rw[zE,zE]at h
 injection h with h
 exact String.toList_inj.mp (N6 (by simpa using h))
@[simp] theorem rP(x y:String):KZ (.str (Str.ofString x)) (.str (Str.ofString y))=true:=bu Qq Qq
@[simp] theorem rH(x y:String):deq (.str (Str.ofString x)) (.str (Str.ofString y))=decide (x=y):=by
  show(rh x==rh y)=_
  rw[zM,vC,uj]
  exact⟨Ze,λz=>by rw[z]⟩
@[simp] theorem Xo:wIn false (.val (.str "bring")) (.val (.tup [.str "spoil",.str "throw"]))=some (.val (.bl false)):=nr rfl
@[simp] theorem ag:wIn false (.val (.str "swap")) (.val (.tup [.str "swap",.str "trade"]))=some (.val (.bl true)):=nr rfl
@[simp] theorem Yk:wIn false (.val (.str "trade")) (.val (.tup [.str "swap",.str "trade"]))=some (.val (.bl true)):=nr rfl
@[simp] theorem Y9:wIn false (.val (.str "spoil")) (.val (.tup [.str "swap",.str "trade"]))=some (.val (.bl false)):=nr rfl
@[simp] theorem Xw:wIn false (.val (.str "spoil")) (.val (.tup [.str "spoil",.str "throw"]))=some (.val (.bl true)):=nr rfl
@[simp] theorem Yz:wIn false (.val (.str "throw")) (.val (.tup [.str "swap",.str "trade"]))=some (.val (.bl false)):=nr rfl
@[simp] theorem V7:wIn false (.val (.str "throw")) (.val (.tup [.str "spoil",.str "throw"]))=some (.val (.bl true)):=nr rfl
@[simp] theorem av:wIn false (.val (.str "sell")) (.val (.tup [.str "swap",.str "trade"]))=some (.val (.bl false)):=nr rfl
@[simp] theorem Yb:wIn false (.val (.str "sell")) (.val (.tup [.str "spoil",.str "throw"]))=some (.val (.bl false)):=nr rfl
@[simp] theorem hV:dr S Cy=.val Cy:=nr rfl
section
variable{a b c d e f:D}{r:Wp D}
@[simp] theorem jM:ID [a,b,c,d,e] (some (-4)) none=[b,c,d,e]:=nr rfl
@[simp] theorem jP:ID [a,b,c,d,e,f] (some (-4)) none=[c,d,e,f]:=nr rfl
@[simp] theorem jR:ID [a,b,c,d,e] (some 1) (some 2)=[b]:=nr rfl
@[simp] theorem jo:ID [a,b,c,d,e,f] (some 1) (some 2)=[b]:=nr rfl
@[simp] theorem jw{ds zs:List D}:jc S ds [.tup zs]=if ds.length+zs.length<=sizeLine then some (.non,ds++zs)else none:=nr rfl
end
end
section
variable{S S':Sto}{s l m:Nat}{as:Wp Nat}{st:Stt}
theorem SAt.same(h:SAt S s l m as st)(g:Ed A S S')(hA:∀n∈A,n∉s::l::m::as):SAt S' s l m as st where
 root:=g.get h.root λz=>hA _ z (by simp)
 lo:=g.get h.lo λz=>hA _ z (by simp)
 nu:=g.get h.nu λz=>hA _ z (by simp)
 ld:=λi a x ha hx=>g.get (h.ld i a x ha hx) λz=>hA _ z (by simp[sQ ha])
 len:=h.len
 nd:=h.nd
theorem SAt.UL(h:SAt S s l m as st)(g:Ed [] S S'):SAt S' s l m as st:=h.same g λ_ z=>(nomatch z)
theorem SAt.ne(h:SAt S s l m as st):s≠l/\s≠m/\l≠m/\s∉as/\l∉as/\m∉as/\as.Nodup:=by
 have:=h.nd
 simp only[vO,rZ,ze]at this
 obtain⟨⟨a,b,c⟩,⟨d,e⟩,f,g⟩:=this
 exact⟨a,b,d,c,e,f,g⟩
theorem SAt.P6(h:SAt S s l m as st){i a:Nat}{y:Ld}(ha:as[i]?=Gc a):SAt (S.set a (B7 y)) s l m as {st with AB:=st.AB.set i y}:=by
 obtain⟨n1,n2,n3,n4,n5,n6,n7⟩:=h.ne
 have ma:=sQ ha
 have q1:a≠s:=λe=>n4 (e▸ma)
 have q2:a≠l:=λe=>n5 (e▸ma)
 have q3:a≠m:=λe=>n6 (e▸ma)
 have hi:i<as.length:=(r9.mp ha).1
 have hi':i<st.AB.length:=by rw[<-h.len];exact hi
 refine⟨by rw[rm q1];exact h.root,by rw[rm q2];exact h.lo,by rw[rm q3];exact h.nu,?_,by simp[h.len],h.nd⟩
 intro j b x hb hx
 by_cases e:i=j
 .subst e
  rw[ha]at hb
  cases hb
  have hx':(st.AB.set i y)[i]?=Gc x:=hx
  rw[sP hi']at hx'
  cases hx'
  have hl:a<S.length:=Am (h.ld i a _ ha (sF hi'))
  exact sP hl
 .have hx':(st.AB.set i y)[j]?=Gc x:=hx
  rw[rm e]at hx'
  have:a≠b:=by
   intro z
   subst z
   exact e ((wF hi n7).mp (ha.trans hb.symm))
  rw[rm this]
  exact h.ld j b x hb hx'
theorem SAt.lts(h:SAt S s l m as st):∀n∈s::l::m::as,n<S.length:=by
 intro n hn
 simp only[rZ]at hn
 rcases hn with rfl|rfl|rfl|hn
 .exact Am h.root
 .exact Am h.lo
 .exact Am h.nu
 .obtain⟨i,hi⟩:=vb.mp hn
  have:i<st.AB.length:=by rw[<-h.len];exact(r9.mp hi).1
  exact Am (h.ld i n _ hi (sF this))
theorem SAt.app(h:SAt S s l m as st)(y:Ld):SAt ((S++[B7 y]).set l (.lst (as.map D.ref++[.ref S.length]))) s l m (as++[S.length]) {st with AB:=st.AB++[y]}:=by
 obtain⟨n1,n2,n3,n4,n5,n6,n7⟩:=h.ne
 have lt:=h.lts
 have ls:=lt s (by simp);have ll:=lt l (by simp);have lm:=lt m (by simp)
 have la:∀a∈as,a<S.length:=λa ha=>lt a (by simp[ha])
 refine⟨?_,?_,?_,?_,by simp[h.len],?_⟩
 .rw[rm (uX n1),rf ls];exact h.root
 .rw[sP (by simp;lia)];simp
 .rw[rm n3,rf lm];exact h.nu
 .intro i a x ha hx
  by_cases e:i<as.length
  .rw[rf e]at ha
   have hx':(st.AB++[y])[i]?=Gc x:=hx
   rw[rf (by rw[<-h.len];exact e)]at hx'
   have ma:=sQ ha
   rw[rm (show l≠a by rintro rfl;exact n5 ma),rf (la a ma)]
   exact h.ld i a x ha hx'
  .have hx':(st.AB++[y])[i]?=Gc x:=hx
   have:i=as.length:=by
    have:=(r9.mp ha).1
    simp at this;lia
   subst this
   rw[sU]at ha
   cases ha
   rw[h.len,sU]at hx'
   cases hx'
   rw[rm (by lia),sU]
 .have:(s::l::m::(as++[S.length]))=(s::l::m::as)++[S.length]:=by simp
  rw[this,wG]
  refine⟨h.nd,by simp,?_⟩
  intro a ha b hb e
  simp only[rZ,sC,tF]at hb
  have:=lt a ha
  lia
theorem SAt.hold(h:SAt S s l m as st)(rs:Wp Rat):SAt (S.set s (.lst [.ref l,shD rs,.ref m])) s l m as {st with hold:=rs}:=by
 obtain⟨n1,n2,n3,n4,n5,n6,n7⟩:=h.ne
 refine⟨sP (h.lts s (by simp)),by rw[rm n1];exact h.lo,by rw[rm n2];exact h.nu,?_,h.len,h.nd⟩
 intro i a x ha hx
 rw[rm (show s≠a by rintro rfl;exact n4 (sQ ha))]
 exact h.ld i a x ha hx
theorem SAt.nums(h:SAt S s l m as st)(us:Wp Int):SAt (S.set m (.lst (us.map D.int))) s l m as {st with nums:=us}:=by
 obtain⟨n1,n2,n3,n4,n5,n6,n7⟩:=h.ne
 refine⟨by rw[rm (uX n2)];exact h.root,by rw[rm (uX n3)];exact h.lo,sP (h.lts m (by simp)),?_,h.len,h.nd⟩
 intro i a x ha hx
 rw[rm (show m≠a by rintro rfl;exact n6 (sQ ha))]
 exact h.ld i a x ha hx
theorem Ov{f:Ld->Ld}{body:Ex}{C:En}{i8:Nat}{o0:rW D}(h:SAt S s l m as st)(hi:C.length=i8)(hb:∀(S':Sto) (a:Nat) (x:Ld),x∈st.AB->S'[a]?=Gc (B7 x)->∃S2,body (C++[Gc (.ref a)]) S'=Gc (.nx,C++[Gc (.ref a)],S2.set a (B7 (f x)))/\Ed [] S' S2):∃o S',MD [(l,as.map D.ref)] (tNm i8) body (as.map D.ref) (C++[o0]) S=Gc (.nx,C++[o],S')/\SAt S' s l m as {st with AB:=st.AB.map f}/\Ed as S S':=by
 obtain⟨E',S',e,i,o,i1,i2,rfl,i3,i4⟩:=E7 (gs:=[(l,as.map D.ref)]) (t:=tNm i8) (b:=body)
  (I:=λds E S'=>∃(i:Nat) (o:rW D),ds=(as.drop i).map D.ref/\i<=as.length/\E=C++[o]/\SAt S' s l m as {st with AB:=(st.AB.take i).map f++st.AB.drop i}/\Ed as S S')
  (λds E S' hI=>by obtain⟨i,o,_,_,_,h1,_⟩:=hI;exact h1.guard) (ds:=as.map D.ref) (E:=C++[o0]) (S:=S)
  ⟨0,o0,by simp,vv _,rfl,by simpa using h,.refl⟩ (by
    rintro d ds E S1 ⟨i,o,i1,i2,rfl,i3,i4⟩
    have hlt:i<as.length:=by
     rcases Nat.lt_or_ge i as.length with w|w
     .exact w
     .rw[xK w]at i1;cases i1
    rw[u7 hlt,sV]at i1
    injection i1 with e1 e2
    subst e1 e2
    have hl2:i<st.AB.length:=by rw[<-h.len];exact hlt
    have ha:=sF hlt
    have hx:((st.AB.take i).map f++st.AB.drop i)[i]?=Gc st.AB[i]:=by
     rw[tK (by simp;lia)]
     simp[Nat.min_eq_left (xu hl2)]
    obtain⟨S2,e3,g3⟩:=hb S1 as[i] st.AB[i] (wU hl2) (i3.ld i _ _ ha hx)
    have k:=(i3.UL g3).P6 (y:=f st.AB[i]) ha
    refine⟨C++[Gc (.ref as[i])],C++[Gc (.ref as[i])],S2.set as[i] (B7 (f st.AB[i])),?_,e3,i+1,Gc (.ref as[i]),rfl,hlt,rfl,?_,?_⟩
    .rw[bH]
     congr 1
     subst hi
     rw[zT _ _ (sD _)]
     simp
    .have:((st.AB.take i).map f++st.AB.drop i).set i (f st.AB[i])=(st.AB.take (i+1)).map f++st.AB.drop (i+1):=by
      rw[zT _ _ (by simp;lia)]
      have e0:i-((st.AB.take i).map f).length=0:=by simp;lia
      rw[e0,u7 hl2,List.set_cons_zero,List.take_succ_eq_append_getElem hl2,List.map_append]
      simp
     rw[<-this]
     exact k
    .exact(i4.trans (g3.mono λ_ z=>(nomatch z))).trans (.set (wU hlt)))
 refine⟨o,S',e,?_,i4⟩
 have hz:i=as.length:=by
  have:=congrArg List.length i1
  simp at this
  lia
 have:(st.AB.take i).map f++st.AB.drop i=st.AB.map f:=by
  rw[hz,h.len];simp
 rw[this]at i3
 exact i3
end
section
variable{S S':Sto}{s l m:Nat}{as:Wp Nat}{st:Stt}{t:Tr}{k:Nat}
theorem ZR{i:Nat}{n:Int}{j:Nat}(hi:i<st.AB.length)(h:∀x∈st.AB,∀r∈x.ow,Sz j r):∀x∈less st.AB i n,∀r∈x.ow,Sz j r:=by
 intro x hx
 rcases NP hx hi with h1|h1
 .exact h x h1
 .rw[h1];exact h (AM st.AB i) (BN hi)
theorem Tt{i:Nat}{n:Int}{j:Nat}(hi:i<st.AB.length)(h:∀x∈st.AB,x.ow.length=j):∀x∈less st.AB i n,x.ow.length=j:=by
 intro x hx
 rcases NP hx hi with h1|h1
 .exact h x h1
 .rw[h1];exact h (AM st.AB i) (BN hi)
theorem V3(hS:SAt S s l m as st)(ht:KI t)(h:Gz t k st)(hk:k<=20){i:Nat}{n:Int}{ws:Wp Int}(hc:Can t st (.thr i n ws)):∃S',Eh [t.d,.ref s,(AX.thr i n ws).d] S=Gc (.non,S')/\SAt S' s l m as (step t st (.thr i n ws))/\Ed (s::l::m::as) S S':=by
 obtain⟨hi,h1,h2,hl,hw⟩:=hc
 have cO:=Z8 hS ht h (by lia) hl hw hi h1 h2
 have cz:=bI ht h (by lia) hl hw hi h1 h2
 have sz:=h.sz
 obtain⟨a,a1,a2,a3⟩:=hS.at hi
 have hS1:=hS.P6 (y:=⟨(AM st.AB i).k,(AM st.AB i).n-n,(AM st.AB i).ow⟩) a1
 have o1:=sz.1 _ (BN hi)
 have tp:=ht.2.1
 have hdef:step t st (.thr i n ws)={st with AB:=(less st.AB i n).map λx=>{x with ow:=Kb (MG t st.AB i n ws) (AM st.AB i).ow x.ow},hold:=Kb (MG t st.AB i n ws) (AM st.AB i).ow st.hold}:=rfl
 rw[hdef]
 generalize hX:MG t st.AB i n ws=X at*
 obtain⟨o,S2,f1,f2,f3⟩:=Ov (f:=λx=>{x with ow:=Kb X (AM st.AB i).ow x.ow}) (body:=N0 (AF Dw [eOp (o2 wIx) [eV 8,eC (.int 2)],eV 6,eV 7]) (eV 8) (eC (.int 2))) (C:=[Gc t.d,Gc (.ref s),Gc (AX.thr i n ws).d,Gc (.ref l),Gc (shD st.hold),Gc (.ref m),Gc (aD X),Gc (shD (AM st.AB i).ow)]) (i8:=8) (o0:=none) hS1 rfl (by
  intro S' b x hx hb
  obtain⟨S2,e2,g2⟩:=QT (S:=S') (x:=X) (ss:=x.ow) (os:=(AM st.AB i).ow) (j:=30+170*k) (i:=145+k) (ZR (n:=n) hi sz.1 x hx) o1 cz (by lia) (by rw[Tt (n:=n) hi h.own x hx];lia)
  have hb2:=g2.get hb (by simp)
  refine⟨S2,?_,g2⟩
  simp[A4 hb,B7,e2,AR hb2])
 obtain⟨S3,e3,g3⟩:=QT (S:=S2) (x:=X) (ss:=st.hold) (os:=(AM st.AB i).ow) (j:=30+170*k) (i:=145+k) sz.2 o1 cz (by lia) (by rw[h.hold];lia)
 have f4:=(f2.UL g3)
 have rt:=f4.root
 refine⟨S3.set s (.lst [.ref l,shD (Kb X (AM st.AB i).ow st.hold),.ref m]),?_,f4.hold _,?_⟩
 .have f1':=f1
  simp only[ua,uC]at f1'
  have rt':EI S3 s=Gc [.ref l,shD st.hold,.ref m]:=AR rt
  have r0:=AR hS.root
  have lo:=A4 hS.lo
  have xx:=A4 a2
  have c2:=AR a2
  have sq1:=HX hS1.lo
  simp only[B7]at f1' sq1 c2 xx
  simp only[AX.d]at f1' cO⊢
  simp[Eh,Jw,r0,cO,lo,a3,xx,c2,sq1,f1',e3,rt']
 .have q1:Ed (s::l::m::as) S (S.set a (B7 ⟨(AM st.AB i).k,(AM st.AB i).n-n,(AM st.AB i).ow⟩)):=.set (by simp[sQ a1])
  exact((q1.trans (f3.mono λn hn=>by simp[hn])).trans (g3.mono λ_ z=>(nomatch z))).trans (.set (by simp))
theorem T5(hS:SAt S s l m as st)(ht:KI t)(h:Gz t k st)(hk:k<=20){p q:Nat}{x:Rat}(hc:Can t st (.Kc p q x)):∃S',Eh [t.d,.ref s,(AX.Kc p q x).d] S=Gc (.non,S')/\SAt S' s l m as (step t st (.Kc p q x))/\Ed (s::l::m::as) S S':=by
 obtain⟨hpq,hp,hq,x1,x2,x3⟩:=hc
 have sz:=h.sz
 have hx:Sz 4 x:=by
  refine⟨?_,by lia⟩
  show x.num.natAbs<16
  lia
 have hdef:step t st (.Kc p q x)={st with AB:=st.AB.map λy=>{y with ow:=JH p q x y.ow},hold:=JH p q x st.hold}:=rfl
 rw[hdef]
 obtain⟨o,S2,f1,f2,f3⟩:=Ov (f:=λy=>{y with ow:=JH p q x y.ow}) (body:=N0 (AF Eg [eOp (o2 wIx) [eV 8,eC (.int 2)],eV 2]) (eV 8) (eC (.int 2))) (C:=[Gc t.d,Gc (.ref s),Gc (AX.Kc p q x).d,Gc (.ref l),Gc (shD st.hold),Gc (.ref m),none,none]) (i8:=8) (o0:=none) hS rfl (by
  intro S' b y hy hb
  obtain⟨S2,e2,g2⟩:=UN (S:=S') (p:=p) (q:=q) (x:=x) (ss:=y.ow) (j:=30+170*k) (i:=4) (sz.1 y hy) hx (by lia) (by rw[h.own y hy];exact hp) (by rw[h.own y hy];exact hq) hpq
  have hb2:=g2.get hb (by simp)
  refine⟨S2,?_,g2⟩
  simp[A4 hb,B7,e2,AR hb2])
 obtain⟨S3,e3,g3⟩:=UN (S:=S2) (p:=p) (q:=q) (x:=x) (ss:=st.hold) (j:=30+170*k) (i:=4) sz.2 hx (by lia) (by rw[h.hold];exact hp) (by rw[h.hold];exact hq) hpq
 have f4:=(f2.UL g3)
 have rt:=f4.root
 refine⟨S3.set s (.lst [.ref l,shD (JH p q x st.hold),.ref m]),?_,f4.hold _,?_⟩
 .have f1':=f1
  simp only[ua,uC]at f1'
  have rt':EI S3 s=Gc [.ref l,shD st.hold,.ref m]:=AR rt
  have r0:=AR hS.root
  have sq1:=HX hS.lo
  simp only[AX.d]at f1' e3⊢
  simp[Eh,Jw,r0,sq1,f1',e3,rt']
 .exact((f3.mono λn hn=>by simp[hn]).trans (g3.mono λ_ z=>(nomatch z))).trans (.set (by simp))
end
section
variable{S S':Sto}{s l m:Nat}{as:Wp Nat}{st:Stt}{t:Tr}{k:Nat}
theorem SU{ls:Wp Ld}{l:Nat}{n:Int}:less ls l n=ls.set l ⟨(AM ls l).k,(AM ls l).n-n,(AM ls l).ow⟩:=rfl
theorem XU{P p:Nat}{cond:Int}{C:En}{dd:D}{f:Ev}(hP:P<=50)(hf:∀(i:Nat),f [Gc dd,Gc (.int i)] S=Gc (aD (if i=p then 1 else 0),S)):Bp [] (tNm 1) C1 f (MT 0 P) [] [Gc dd,none] S=Gc ((V4 P p).map aD,S):=by
 have:=JS (gs:=[]) (t:=tNm 1) (f:=f) (C:=[Gc dd]) (m:=1) (e:=λi:Nat=>D.int (0+(i:Int))) (g:=λi=>aD (if i=p then 1 else 0)) (S:=S) Aj (xs:=tj P) (acc:=[]) (os:=[none]) rfl (sI (show _<=50 by simp;lia) (AI (by decide))) (by
  intro i _ os ho
  obtain⟨o,rfl⟩:=Ru ho
  refine⟨[Gc (.int i)],rfl,by simp,hf i⟩)
 simp only[ua,uC]at this
 rw[V4,v3]
 exact this
inductive DoB(t:Tr)(S:Sto)(s l m:Nat)(as:Wp Nat)(st:Stt)(d:AX):Prop
 |mk (S':Sto) (as':Wp Nat) (e:Dg [t.d,.ref s,d.d] S=Gc (.non,S')) (h:SAt S' s l m as' (step t st d)) (g:Ed (s::l::m::as) S S') (f:∀n∈as',n∈as\/S.length<=n)
theorem V9(hS:SAt S s l m as st)(ht:KI t)(h:Gz t k st)(hk:k<=20){p kd:Nat}{n:Int}(hc:Can t st (.GX p kd n)):DoB t S s l m as st (.GX p kd n):=by
 have tp:=ht.2.1
 have e:=XU (S:=S) (P:=t.p) (p:=p) (cond:=0) (C:=[]) (dd:=(AX.GX p kd n).d) (f:=Az [eOp (o1 WV) [eOp (o2 wEq) [eV 1,eOp (o2 wIx) [eV 0,eC (.int 1)]]],eC (.int 1)]) (by lia) (by
  intro i
  by_cases hi:i=p
  .subst hi;simp[AX.d];rfl
  .have:((i:Int)==(p:Int))=false:=by simp;lia
   simp[AX.d,this,hi];rfl)
 have rn:Ka (t.p:Int)=true:=FZ (by lia) (by lia)
 have hz:as.length<sizeLine:=rz (show as.length<50 by rw[hS.len];have:=h.len;lia) (AI (by decide))
 refine⟨_,_,?_,hS.app ⟨kd,n,V4 t.p p⟩,?_,?_⟩
 .have r0:=AR hS.root
  have c0:=AR hS.lo
  have c1:EI (S++[B7 ⟨kd,n,V4 t.p p⟩]) l=Gc (as.map D.ref):=AR (by rw[rf (Am hS.lo)];exact hS.lo)
  simp only[B7]at c1⊢
  simp only[AX.d]at e⊢
  simp[Dg,Fc,r0,Tr.d,rn,e,c0,shD]at c1⊢
  simp[c1,hz]
 .exact Ed.app.trans (.set (by simp))
 .intro n hn
  rcases sX.mp hn with w|w
  .exact .inl w
  .simp at w;exact .inr (by lia)
theorem XT(hS:SAt S s l m as st)(ht:KI t)(h:Gz t k st)(hk:k<=20){i:Nat}{n:Int}(hc:Can t st (.G4 i n)):DoB t S s l m as st (.G4 i n):=by
 obtain⟨hi,h1,h2⟩:=hc
 obtain⟨a,a1,a2,a3⟩:=hS.at hi
 refine⟨_,as,?_,hS.P6 (y:=⟨(AM st.AB i).k,(AM st.AB i).n-n,(AM st.AB i).ow⟩) a1,.set (by simp[sQ a1]),λn hn=>.inl hn⟩
 have r0:=AR hS.root
 have lo:=A4 hS.lo
 have xx:=A4 a2
 have c2:=AR a2
 simp only[B7]at c2 xx⊢
 simp[Dg,Fc,AX.d,r0,lo,a3,xx,c2]
theorem eX(hS:SAt S s l m as st)(ht:KI t)(h:Gz t k st)(hk:k<=20){i:Nat}{n:Int}{ws:Wp Int}(hc:Can t st (.thr i n ws)):DoB t S s l m as st (.thr i n ws):=by
 obtain⟨S',e,g1,g2⟩:=V3 hS ht h hk hc
 refine⟨S',as,?_,g1,g2,λn hn=>.inl hn⟩
 have r0:=AR hS.root
 simp only[AX.d]at e⊢
 simp[Dg,Fc,r0,e]
theorem ZV(hS:SAt S s l m as st)(ht:KI t)(h:Gz t k st)(hk:k<=20){p q:Nat}{x:Rat}(hc:Can t st (.Kc p q x)):DoB t S s l m as st (.Kc p q x):=by
 obtain⟨S',e,g1,g2⟩:=T5 hS ht h hk hc
 refine⟨S',as,?_,g1,g2,λn hn=>.inl hn⟩
 have r0:=AR hS.root
 simp only[AX.d]at e⊢
 simp[Dg,Fc,r0,e]
theorem aL(hS:SAt S s l m as st)(ht:KI t)(h:Gz t k st)(hk:k<=20){i kd:Nat}{g n:Int}(hc:Can t st (.swap i g kd n)):DoB t S s l m as st (.swap i g kd n):=by
 obtain⟨hi,h1,h2,h3,h4,h5,h6⟩:=hc
 obtain⟨a,a1,a2,a3⟩:=hS.at hi
 have hS1:=hS.P6 (y:=⟨(AM st.AB i).k,(AM st.AB i).n-g,(AM st.AB i).ow⟩) a1
 have hS2:=hS1.app ⟨kd,n,(AM st.AB i).ow⟩
 have hz:as.length<sizeLine:=rz (show as.length<50 by rw[hS.len];have:=h.len;lia) (AI (by decide))
 have hz2:st.nums.length<=sizeLine:=sI (show _<=50 by have:=h.nm;lia) (AI (by decide))
 refine⟨_,_,?_,hS2,?_,?_⟩
 .have r0:=AR hS.root
  have lo:=A4 hS.lo
  have xx:=A4 a2
  have c2:=AR a2
  have lo1:=A4 hS1.lo
  have co1:=AR hS1.lo
  have x1:=A4 (sP (a:=B7 ⟨(AM st.AB i).k,(AM st.AB i).n-g,(AM st.AB i).ow⟩) (Am a2))
  have c4:EI ((S.set a (B7 ⟨(AM st.AB i).k,(AM st.AB i).n-g,(AM st.AB i).ow⟩))++[B7 ⟨kd,n,(AM st.AB i).ow⟩]) l=Gc (as.map D.ref):=AR (by rw[rf (Am hS1.lo)];exact hS1.lo)
  have nu:=hS2.nu
  have c5:=AR nu
  have st5:∀{T:Sto},T[m]?=Gc (.lst (st.nums.map D.int))->T.set m (.lst (st.nums.map D.int))=T:=λh=>set_same h
  have st6:=st5 nu
  simp only[B7]at c2 xx lo1 co1 x1 c4 c5 st6⊢
  have hz':(as.map D.ref).length<sizeLine:=by simpa using hz
  generalize (as.map D.ref)=refs at*
  simp[Dg,Fc,AX.d,r0,lo,a3,xx,c2,lo1,x1,co1]at c4 c5 st6⊢
  simp[c4,hz',c5,hz2,st6]
 .exact((Ed.set (by simp[sQ a1])).trans .app).trans (.set (by simp))
 .intro n hn
  rcases sX.mp hn with w|w
  .exact .inl w
  .simp at w;exact .inr (by lia)
theorem WW(hS:SAt S s l m as st)(ht:KI t)(h:Gz t k st)(hk:k<=20){i kd:Nat}{u g n:Int}(hc:Can t st (.FQ u i g kd n)):DoB t S s l m as st (.FQ u i g kd n):=by
 obtain⟨hi,h1,h2,h3,h4,h5,h6,h7,h8⟩:=hc
 obtain⟨a,a1,a2,a3⟩:=hS.at hi
 have hS1:=hS.P6 (y:=⟨(AM st.AB i).k,(AM st.AB i).n-g,(AM st.AB i).ow⟩) a1
 have hS2:=hS1.app ⟨kd,n,(AM st.AB i).ow⟩
 have hz:as.length<sizeLine:=rz (show as.length<50 by rw[hS.len];have:=h.len;lia) (AI (by decide))
 have hz2:st.nums.length+1<=sizeLine:=sI (show _<=50 by have:=h.nm;lia) (AI (by decide))
 refine⟨_,_,?_,hS2.nums (st.nums++[u]),?_,?_⟩
 .have r0:=AR hS.root
  have lo:=A4 hS.lo
  have xx:=A4 a2
  have c2:=AR a2
  have lo1:=A4 hS1.lo
  have co1:=AR hS1.lo
  have x1:=A4 (sP (a:=B7 ⟨(AM st.AB i).k,(AM st.AB i).n-g,(AM st.AB i).ow⟩) (Am a2))
  have c4:EI ((S.set a (B7 ⟨(AM st.AB i).k,(AM st.AB i).n-g,(AM st.AB i).ow⟩))++[B7 ⟨kd,n,(AM st.AB i).ow⟩]) l=Gc (as.map D.ref):=AR (by rw[rf (Am hS1.lo)];exact hS1.lo)
  have nu:=hS2.nu
  have c5:=AR nu
  simp only[B7]at c2 xx lo1 co1 x1 c4 c5⊢
  have hz':(as.map D.ref).length<sizeLine:=by simpa using hz
  generalize (as.map D.ref)=refs at*
  simp[Dg,Fc,AX.d,r0,lo,a3,xx,c2,lo1,x1,co1]at c4 c5⊢
  simp[c4,hz',c5,hz2]
 .exact(((Ed.set (by simp[sQ a1])).trans .app).trans (.set (by simp))).trans (.set (by simp))
 .intro n hn
  rcases sX.mp hn with w|w
  .exact .inl w
  .simp at w;exact .inr (by lia)
theorem Zn(hS:SAt S s l m as st)(ht:KI t)(h:Gz t k st)(hk:k<=20){i j:Nat}(hc:Can t st (.Mz i j)):DoB t S s l m as st (.Mz i j):=by
 obtain⟨hij,hi,hj,h1,h2,h3⟩:=hc
 obtain⟨a,a1,a2,a3⟩:=hS.at hi
 obtain⟨b,b1,b2,b3⟩:=hS.at hj
 have sz:=h.sz
 have pi:=h.pcs _ (BN hi)
 have pj:=h.pcs _ (BN hj)
 obtain⟨S1,e1,g1⟩:=Sx (S:=S) (x:=AM st.AB i) (y:=AM st.AB j) (j:=30+170*k) (i:=131+k) a2 b2 (sz.1 _ (BN hi)) (sz.1 _ (BN hj)) (Jm pi.1 pi.2) (Jm pj.1 pj.2) (by lia) (by lia) (by lia) (by rw[h.own _ (BN hi)];have:=ht.2.1;lia)
 have hS1:=hS.UL g1
 have hab:a≠b:=by
  rintro rfl
  exact hij ((wF (r9.mp a1).1 hS.ne.2.2.2.2.2.2).mp (a1.trans b1.symm))
 have hS2:=hS1.app ⟨(AM st.AB i).k,(AM st.AB i).n+(AM st.AB j).n,EJ (AM st.AB i).n (AM st.AB j).n (AM st.AB i).ow (AM st.AB j).ow⟩
 have ai:i<as.length:=(r9.mp a1).1
 have bj:j<as.length:=(r9.mp b1).1
 have a1':(as++[S1.length])[i]?=Gc a:=by rw[rf ai];exact a1
 have b1':(as++[S1.length])[j]?=Gc b:=by rw[rf bj];exact b1
 have hS3:=hS2.P6 (y:=⟨(AM st.AB i).k,0,(AM st.AB i).ow⟩) a1'
 have hS4:=hS3.P6 (y:=⟨(AM st.AB j).k,0,(AM st.AB j).ow⟩) b1'
 have hz:as.length<sizeLine:=rz (show as.length<50 by rw[hS.len];have:=h.len;lia) (AI (by decide))
 have est:step t st (.Mz i j)={st with AB:=((st.AB++[Ld.mk (AM st.AB i).k ((AM st.AB i).n+(AM st.AB j).n) (EJ (AM st.AB i).n (AM st.AB j).n (AM st.AB i).ow (AM st.AB j).ow)]).set i ⟨(AM st.AB i).k,0,(AM st.AB i).ow⟩).set j ⟨(AM st.AB j).k,0,(AM st.AB j).ow⟩}:=by
  have e0:AM (less st.AB i (AM st.AB i).n) j=AM st.AB j:=by
   unfold AM less
   rw[sv,rm hij,<-sv]
  have e1:less st.AB i (AM st.AB i).n=st.AB.set i ⟨(AM st.AB i).k,0,(AM st.AB i).ow⟩:=by
   unfold less
   rw[Int.sub_self]
  have e2:less (less st.AB i (AM st.AB i).n) j (AM st.AB j).n=(st.AB.set i ⟨(AM st.AB i).k,0,(AM st.AB i).ow⟩).set j ⟨(AM st.AB j).k,0,(AM st.AB j).ow⟩:=by
   rw[SU (ls:=less st.AB i (AM st.AB i).n),e0,Int.sub_self,e1]
  show{st with AB:=less (less st.AB i (AM st.AB i).n) j (AM st.AB j).n++_}=_
  rw[e2,zm _ _ hi,zm _ _ (by simpa using hj)]
 refine⟨_,_,?_,est▸hS4,?_,?_⟩
 .have r0:=AR hS.root
  have lo:=A4 hS.lo
  have c0:=AR hS.lo
  have xa:=A4 a2
  have xb:=A4 b2
  have c1:=AR hS1.lo
  have c4:EI (S1++[B7 ⟨(AM st.AB i).k,(AM st.AB i).n+(AM st.AB j).n,EJ (AM st.AB i).n (AM st.AB j).n (AM st.AB i).ow (AM st.AB j).ow⟩]) l=Gc (as.map D.ref):=AR (by rw[rf (Am hS1.lo)];exact hS1.lo)
  have c5:=AR (hS2.ld i a (AM st.AB i) a1' (by show(st.AB++_)[i]?=_;rw[rf hi];exact Gi hi))
  have c6:=AR (hS3.ld j b (AM st.AB j) b1' (by show((st.AB++_).set i _)[j]?=_;rw[rm hij,rf hj];exact Gi hj))
  simp only[B7]at xa xb c4 c5 c6⊢
  have hz':(as.map D.ref).length<sizeLine:=by simpa using hz
  generalize (as.map D.ref)=refs at*
  generalize EJ (AM st.AB i).n (AM st.AB j).n (AM st.AB i).ow (AM st.AB j).ow=pr at*
  simp[Dg,Fc,AX.d,r0,lo,a3,b3,xa,xb,c0,e1]at c4 c5 c6⊢
  simp[c4,hz',c5,c6]
 .exact(((g1.mono λ_ z=>(nomatch z)).trans .app).trans (.set (by simp))).trans ((Ed.set (by simp[sQ a1])).trans (.set (by simp[sQ b1])))
 .intro n hn
  rcases sX.mp hn with w|w
  .exact .inl w
  .simp at w;subst w;exact .inr g1.len
theorem lD(hS:SAt S s l m as st)(ht:KI t)(h:Gz t k st)(hk:k<=20){d:AX}(hc:Can t st d):DoB t S s l m as st d:=by
 cases d with
 |GX=>exact V9 hS ht h hk hc
 |Mz=>exact Zn hS ht h hk hc
 |swap=>exact aL hS ht h hk hc
 |FQ=>exact WW hS ht h hk hc
 |G4=>exact XT hS ht h hk hc
 |thr=>exact eX hS ht h hk hc
 |Kc=>exact ZV hS ht h hk hc
end
section
variable{st:Stt}{t:Tr}{k:Nat}
theorem Ln{a b:Nat}(h:a<=b):2^a<=2^b:=tL (by decide) h
theorem GI{a b:Nat}(h:a<=b):(2:Int)^a<=2^b:=by
 have:=Ln h
 exact_mod_cast this
theorem JA{c:Int}(h:0<=c):((c.toNat:Nat):Rat)=(c:Rat):=by
 have:((c.toNat:Nat):Int)=c:=uD h
 have:(((c.toNat:Nat):Int):Rat)=(c:Rat):=by rw[this]
 exact this
theorem U1{B T k j:Nat}(hB:B<2^(30+170*k))(hT:T<2^j)(hj:j<=170):B*T<2^(30+170*(k+1)):=by
 have:=Cn hB hT
 exact rz this (Ln (by lia))
theorem gy{G B P p:Nat}(h:G<=B):∀r∈V4 P p,Ok G B r:=by
 intro r hr
 obtain⟨i,_,rfl⟩:=uA.mp hr
 split
 .exact Ok.one h
 .exact Ok.zero
theorem SS{G B:Nat}{n m:Int}{ss os:Wp Rat}(hn:0<n)(hm:0<m)(hs:∀r∈ss,Ok G B r)(ho:∀r∈os,Ok G B r):∀r∈EJ n m ss os,Ok (G*(n+m).toNat) (B*(n+m).toNat) r:=by
 intro r hr
 unfold EJ at hr
 rw[vb]at hr
 obtain⟨i,hi'⟩:=hr
 rw[xi]at hi'
 obtain⟨x,y,hx,hy,rfl⟩:=hi'
 have:=Ok.mix (a:=n.toNat) (b:=m.toNat) (t:=(n+m).toNat) (hs x (sQ hx)) (ho y (sQ hy)) (by lia) (by lia)
 rwa [JA (by lia),JA (by lia),JA (by lia)]at this
theorem U5{G B p q:Nat}{x:Rat}{ss:Wp Rat}(hp:p<ss.length)(hq:q<ss.length)(x1:0<x.num)(x2:x.num<=x.den)(hs:∀r∈ss,Ok G B r):∀r∈JH p q x ss,Ok (G*x.den) (2*B*x.den) r:=by
 have dp:=x.den_pos
 have hsp:=hs _ (getD_mem (d:=0) hp)
 have hsq:=hs _ (getD_mem (d:=0) hq)
 have xs:=EY x
 have ex:(x.num:Rat)=((x.num.toNat:Nat):Rat):=(JA (by lia)).symm
 have nz:=KQ x
 intro r hr
 unfold JH at hr
 rcases vd hr with hr|hr
 .rcases vd hr with hr|hr
  .exact(hs r hr).up (by rw[yp];lia)
  .rw[hr]
   obtain⟨z,e,hz⟩:=Ok.mix (a:=x.den-x.num.toNat) (b:=x.num.toNat) (t:=x.den) hsp (Ok.zero (G:=G) (B:=B)) (by lia) dp
   refine⟨z,?_,sI hz (by rw[yp];lia)⟩
   rw[<-e]
   have e2:((x.den-x.num.toNat:Nat):Rat)=(x.den:Rat)-(x.num:Rat):=by
    have:(((x.den-x.num.toNat:Nat):Int):Rat)=((x.den-x.num:Int):Rat):=by
     congr 1;lia
    push_cast at this
    exact this
   rw[e2]
   generalize ss.getD p 0=sp at*
   congr 1
   grind
 .rw[hr]
  obtain⟨z,e1,hz⟩:=hsp
  obtain⟨y,e2,hy⟩:=hsq
  refine⟨y*x.den+z*x.num.toNat,?_,?_⟩
  .generalize ss.getD p 0=sp at*
   generalize ss.getD q 0=sq at*
   push_cast
   rw[<-ex,<-e1,<-e2]
   grind
  .have h1:y*x.den<=B*x.den:=uQ _ hy
   have h2:z*x.num.toNat<=B*x.den:=zl hz (by lia)
   rw[yp];lia
theorem IV{f:Rat->Rat->Rat}{a b:Wp Rat}{n:Nat}(h:a.length=n)(g:b.length=n):(zC f a b).length=n:=by rw[List.length_zipWith,h,g];lia
theorem Hn{P:Ld->Prop}{i:Nat}{n:Int}(hi:i<st.AB.length)(h:∀x∈st.AB,P x)(g:P ⟨(AM st.AB i).k,(AM st.AB i).n-n,(AM st.AB i).ow⟩):∀x∈less st.AB i n,P x:=by
 intro x hx
 rcases NP hx hi with h1|h1
 .exact h x h1
 .rw[h1];exact g
theorem Nk{P:Ld->Prop}{ls:Wp Ld}{y:Ld}(h:∀x∈ls,P x)(g:P y):∀x∈ls++[y],P x:=by
 intro x hx
 rcases sX.mp hx with w|w
 .exact h x w
 .simp at w;rw[w];exact g
structure LOk(t:Tr)(k G B:Nat)(x:Ld):Prop where
 kd:x.k<t.k
 n0:0<=x.n
 n1:x.n<2^(131+k)
 own:x.ow.length=t.p
 ok:∀r∈x.ow,Ok G B r
theorem LOk.up{G B T B':Nat}{x:Ld}(h:LOk t k G B x)(hT:B*T<=B'):LOk t (k+1) (G*T) B' x:=⟨h.kd,h.n0,va h.n1 (GI (by lia)),h.own,λr hr=>(h.ok r hr).up hT⟩
theorem LOk.up1{G B:Nat}{x:Ld}(h:LOk t k G B x):LOk t (k+1) G B x:=⟨h.kd,h.n0,va h.n1 (GI (by lia)),h.own,h.ok⟩
theorem LOk.less{G B:Nat}{x:Ld}{n:Int}(h:LOk t k G B x)(h0:0<=n)(h1:n<=x.n):LOk t k G B ⟨x.k,x.n-n,x.ow⟩:=⟨h.kd,show 0<=x.n-n by lia,show x.n-n<_ by have:=h.n1;lia,h.own,h.ok⟩
theorem Gz.of{G B:Nat}(h1:st.AB.length<=4+k)(h2:∀x∈st.AB,LOk t k G B x)(h3:st.hold.length=t.p)(h4:st.nums.length<=k)(g0:0<G)(g1:G<=B)(g2:B<2^(30+170*k))(h5:∀r∈st.hold,Ok G B r):Gz t k st:=⟨h1,λx hx=>(h2 x hx).kd,λx hx=>⟨(h2 x hx).n0,(h2 x hx).n1⟩,λx hx=>(h2 x hx).own,h3,h4,G,B,g0,g1,g2,λx hx=>(h2 x hx).ok,h5⟩
theorem jE{n:Int}(h:n<2^131):n<2^(131+k):=va h (GI (by lia))
theorem Wc(ht:KI t)(h:Gz t k st)(hk:k<=20){d:AX}(hc:Can t st d):Gz t (k+1) (step t st d):=by
 obtain⟨G,B,g0,g1,g2,hl,hh⟩:=h.gb
 have L:∀x∈st.AB,LOk t k G B x:=λx hx=>⟨h.kind x hx,(h.pcs x hx).1,(h.pcs x hx).2,h.own x hx,hl x hx⟩
 have g2':B<2^(30+170*(k+1)):=rz g2 (Ln (by lia))
 have hlen:=h.len
 have hnm:=h.nm
 cases d with
 |GX p kd n=>
  obtain⟨h1,h2,h3,h4⟩:=hc
  refine Gz.of (G:=G) (B:=B) (by simp[step];lia) (Nk (λx hx=>(L x hx).up1) ⟨h2,by show 0<=n;lia,jE h4,by simp[V4],gy g1⟩) h.hold (vi hnm) g0 g1 g2' hh
 |Mz i j=>
  obtain⟨hij,hi,hj,h1,h2,h3⟩:=hc
  have li:=L _ (BN hi)
  have lj:=L _ (BN hj)
  have tl:((AM st.AB i).n+(AM st.AB j).n).toNat<2^(132+k):=by
   have a:=li.n1;have b:=lj.n1
   have e:(2:Int)^(132+k)=2^(131+k)*2:=by rw[show 132+k=(131+k)+1 by lia,Int.pow_succ]
   have:(((AM st.AB i).n+(AM st.AB j).n).toNat:Int)<((2^(132+k):Nat):Int):=by
    rw[uD (by lia)]
    push_cast
    rw[e];lia
   exact_mod_cast this
  have t0:0<((AM st.AB i).n+(AM st.AB j).n).toNat:=by lia
  refine Gz.of (G:=G*((AM st.AB i).n+(AM st.AB j).n).toNat) (B:=B*((AM st.AB i).n+(AM st.AB j).n).toNat) (by simp[step,D0];lia) (Nk ?_ ⟨li.kd,by show 0<=(AM st.AB i).n+(AM st.AB j).n;lia,?_,?_,SS h1 h2 li.ok lj.ok⟩) h.hold (vi hnm) (yj g0 t0) (uQ _ g1) (U1 g2 tl (by lia)) (λr hr=>(hh r hr).up (sD _))
  .have e0:AM (less st.AB i (AM st.AB i).n) j=AM st.AB j:=by
    unfold AM less
    rw[sv,rm hij,<-sv]
   have A:=Hn (P:=LOk t (k+1) (G*((AM st.AB i).n+(AM st.AB j).n).toNat) (B*((AM st.AB i).n+(AM st.AB j).n).toNat)) (n:=(AM st.AB i).n) hi (λx hx=>(L x hx).up (sD _)) ((li.up (sD _)).less (by lia) (Int.le_refl _))
   have A2:=Hn (st:={st with AB:=less st.AB i (AM st.AB i).n}) (i:=j) (n:=(AM st.AB j).n) (by simpa[D0]using hj) A (by
    show LOk _ _ _ _ ⟨(AM (less st.AB i (AM st.AB i).n) j).k,(AM (less st.AB i (AM st.AB i).n) j).n-_,(AM (less st.AB i (AM st.AB i).n) j).ow⟩
    rw[e0]
    exact(lj.up (sD _)).less (by lia) (Int.le_refl _))
   exact A2
  .show(AM st.AB i).n+(AM st.AB j).n<2^(131+(k+1))
   have a:=li.n1;have b:=lj.n1
   rw[show 131+(k+1)=(131+k)+1 by lia,Int.pow_succ];lia
  .exact IV li.own lj.own
 |swap i g kd n=>
  obtain⟨hi,h1,h2,h3,h4,h5,h6⟩:=hc
  have li:=L _ (BN hi)
  refine Gz.of (G:=G) (B:=B) (by simp[step,D0];lia) (Nk (Hn hi (λx hx=>(L x hx).up1) (li.up1.less (by lia) h2)) ⟨h3,by show 0<=n;lia,jE h6,li.own,li.ok⟩) h.hold (vi hnm) g0 g1 g2' hh
 |FQ u i g kd n=>
  obtain⟨hi,h1,h2,h3,h4,h5,h6,h7⟩:=hc
  have li:=L _ (BN hi)
  refine Gz.of (G:=G) (B:=B) (by simp[step,D0];lia) (Nk (Hn hi (λx hx=>(L x hx).up1) (li.up1.less (by lia) h2)) ⟨h3,by show 0<=n;lia,jE h6,li.own,li.ok⟩) h.hold (by simp[step];lia) g0 g1 g2' hh
 |G4 i n=>
  obtain⟨hi,h1,h2⟩:=hc
  have li:=L _ (BN hi)
  refine Gz.of (G:=G) (B:=B) (by simp[step,D0];lia) (Hn hi (λx hx=>(L x hx).up1) (li.up1.less (by lia) h2)) h.hold (vi hnm) g0 g1 g2' hh
 |thr i n ws=>
  obtain⟨hi,h1,h2,h3,h4⟩:=hc
  have li:=L _ (BN hi)
  have W:=Ko ht h (by lia) h3 h4
  have wl:(FK t st.AB ws).toNat<2^(145+k):=by
   have:((FK t st.AB ws).toNat:Int)<((2^(145+k):Nat):Int):=by
    rw[uD (by lia)];push_cast;exact W.2
   exact_mod_cast this
  have bo:=λ{ss:Wp Rat} (hs:∀r∈ss,Ok G B r)=>TV ht h (by lia) h3 h4 hi h1 h2 li.ok hs
  refine Gz.of (G:=G*(FK t st.AB ws).toNat) (B:=B*(FK t st.AB ws).toNat) (by simp[step,D0];lia) ?_ (IV h.hold li.own) (vi hnm) (yj g0 (by lia)) (uQ _ g1) (U1 g2 wl (by lia)) (bo hh)
  intro x hx
  obtain⟨y,hy,rfl⟩:=uA.mp hx
  have ly:=Hn (P:=LOk t k G B) hi L (li.less (n:=n) (by lia) h2) y hy
  exact⟨ly.kd,ly.n0,ly.up1.n1,IV ly.own li.own,bo ly.ok⟩
 |Kc p q x=>
  obtain⟨h1,h2,h3,h4,h5,h6⟩:=hc
  have dp:=x.den_pos
  refine Gz.of (G:=G*x.den) (B:=2*B*x.den) (by simp[step];lia) ?_ (by simp[step,JH,h.hold]) (vi hnm) (yj g0 dp) (uQ _ (by lia)) ?_ (U5 (by rw[h.hold];exact h2) (by rw[h.hold];exact h3) h4 h5 hh)
  .intro y hy
   obtain⟨z,hz,rfl⟩:=uA.mp hy
   have lz:=L z hz
   exact⟨lz.kd,lz.n0,lz.up1.n1,by simp[JH,lz.own],U5 (by rw[lz.own];exact h2) (by rw[lz.own];exact h3) h4 h5 lz.ok⟩
  .have:=U1 (B:=B) (T:=2*x.den) (j:=5) g2 (by lia) (by lia)
   rw[show 2*B*x.den=B*(2*x.den) by rw[<-yp,vx 2 B]]
   exact this
end
theorem Nm{α:Type}{f:α->D}:∀{xs:Wp α},(∀x∈xs,(f x).lay=true)->D.N3 (xs.map f)=true
 | [],_=>rfl
 |x::xs,h=>by
  show((f x).lay && D.N3 (xs.map f))=true
  rw[h x sN,Nm λy hy=>h y (rg _ hy)]
  rfl
theorem YC{ds:Wp D}(h:D.N3 ds=true):KZ (.lst ds) (.lst [])=true:=by
 unfold KZ
 show(D.N3 ds && true && _)=true
 rw[h]
 simp only[Bool.true_and,uj]
 exact sI (Nat.min_le_right _ _) (by decide)
noncomputable def GD(is:Wp Nat):Wp D:=is.map λ(i:Nat)=>D.int i
theorem LV{is:Wp Nat}:KZ (.lst (GD is)) (.lst [])=true:=YC (Nm λ_ _=>rfl)
theorem XB{d:D}{ds:Wp D}:deq (.lst (d::ds)) (.lst [])=false:=rfl
theorem Z9:deq (.lst []) (.lst [])=true:=rfl
theorem NG{is:Wp Nat}:deq (.lst (GD is)) (.lst [])=is.isEmpty:=by
 cases is with
 |nil=>exact Z9
 |cons i is=>exact XB
theorem OG{ds:Wp D}:N2 0 ds=(tj ds.length).map λ(i:Nat)=>D.tup [.int i,ds.getD i .non]:=by
 apply List.ext_getElem?
 intro i
 rw[Kg,sY]
 by_cases h:i<ds.length
 .rw[sF h,List.getElem?_range h]
  simp[sF h]
 .rw[zU (by lia),zU (by simp;lia)]
  rfl
theorem JV{is:Wp Nat}:(GD is).length=is.length:=by simp[GD]
theorem LM{is:Wp Nat}{r:Int}(h0:0<=r)(h1:r<is.length):∃i∈is,atI (GD is) r=Gc (.int (i:Nat)):=by
 have h2:r.toNat<is.length:=by lia
 refine⟨is[r.toNat],wU h2,?_⟩
 have:=Yw (xs:=GD is) h0 (by rw[JV];exact h1)
 rw[this]
 simp[GD]
theorem U2{x K:Int}(h0:0<=x)(h1:x<2*K):x % K=if x<K then x else x-K:=by
 split
 .exact Int.emod_eq_of_lt h0 (by assumption)
 .have:x % K=(x-K) % K:=by rw[Int.sub_emod_right]
  rw[this]
  exact Int.emod_eq_of_lt (by lia) (by lia)
section
variable{S:Sto}{p s l m:Nat}{as:Wp Nat}{st:Stt}{t:Tr}{k:Nat}
noncomputable def CC(st:Stt):Wp Nat:=(tj st.AB.length).filter λi=>decide (0<(AM st.AB i).n)
theorem aE(hS:SAt S s l m as st)(hl:st.AB.length<=50):Bp [(l,as.map D.ref)] (tTp [tNm 0,tNm 1]) (eOp (o2 wGt) [eOp (o2 wIx) [eV 1,eC (.int 1)],eC (.int 0)]) (eV 0) (N2 0 (as.map D.ref)) [] [none,none] S=Gc (GD (CC st),S):=by
 have:=D7 (gs:=[(l,as.map D.ref)]) (t:=tTp [tNm 0,tNm 1]) (c:=eOp (o2 wGt) [eOp (o2 wIx) [eV 1,eC (.int 1)],eC (.int 0)]) (f:=eV 0) (C:=[]) (m:=2) (e:=λi:Nat=>D.tup [.int i,(as.map D.ref).getD i .non]) (g:=λi:Nat=>D.int i) (b:=λi=>decide (0<(AM st.AB i).n)) (S:=S) hS.guard (xs:=tj st.AB.length) (acc:=[]) (os:=[none,none]) rfl (sI (show _<=50 by simp;lia) (AI (by decide))) (by
  intro i hi os ho
  obtain⟨o1,o2,rfl⟩:=mK ho
  obtain⟨a,a1,a2,a3⟩:=hS.at (yG.mp hi)
  have e:(as.map D.ref).getD i .non=.ref a:=by simp[a1]
  rw[e]
  refine⟨[Gc (.int i),Gc (.ref a)],rfl,by simp,?_,by simp⟩
  simp[A4 a2,B7])
 rw[OG,uJ,hS.len]
 exact this
theorem Kk{i:Nat}(h:i∈CC st):i<st.AB.length/\0<(AM st.AB i).n:=by
 unfold CC at h
 rw[we]at h
 exact⟨yG.mp h.1,by simpa using h.2⟩
noncomputable def ES(st:Stt)(j:Nat):Wp Nat:=(CC st).filter λi=> !(i==j) && ((AM st.AB i).k==(AM st.AB j).k)
theorem NU:(CC st).length<=st.AB.length:=by
 unfold CC
 exact sI (xR _ _) (by simp)
theorem XZ{a b:Nat}:((a:Int)==(b:Int))=(a==b):=by
 by_cases h:a=b
 .subst h;simp
 .have:((a:Int)==(b:Int))=false:=by simp;lia
  rw[this];simp[h]
theorem bW(hS:SAt S s l m as st)(hl:st.AB.length<=50){j:Nat}(hj:j∈CC st):Bp [] (tNm 2) (D2 (eOp (o2 wNe) [eV 2,eV 1]) (eOp (o2 wEq) [eOp (o2 wIx) [eOp (o2 wIx) [eV 0,eV 2],eC (.int 0)],eOp (o2 wIx) [eOp (o2 wIx) [eV 0,eV 1],eC (.int 0)]])) (eV 2) (GD (CC st)) [] [Gc (.ref l),Gc (.int j),none] S=Gc (GD (ES st j),S):=by
 have fl:=NU (st:=st)
 exact D7 (gs:=[]) (t:=tNm 2) (f:=eV 2) (C:=[Gc (.ref l),Gc (.int j)]) (m:=1) (e:=λi:Nat=>D.int i) (g:=λi:Nat=>D.int i) (b:=λi=> !(i==j) && ((AM st.AB i).k==(AM st.AB j).k)) (S:=S) Aj (xs:=CC st) (acc:=[]) (os:=[none]) rfl (sI (show _<=50 by simp;lia) (AI (by decide))) (by
  intro i hi os ho
  obtain⟨o1,rfl⟩:=Ru ho
  obtain⟨a,a1,a2,a3⟩:=hS.at (Kk hi).1
  obtain⟨b,b1,b2,b3⟩:=hS.at (Kk hj).1
  refine⟨[Gc (.int i)],rfl,by simp,?_,by simp⟩
  by_cases e:i=j
  .subst e
   simp
  .have e':((i:Int)==(j:Int))=false:=by simp;lia
   have e2:(i==j)=false:=by simp[e]
   simp[e',e2,A4 hS.lo,a3,b3,A4 a2,A4 b2,B7,XZ])
theorem Wl{i j:Nat}(h:i∈ES st j):i∈CC st/\i≠j/\(AM st.AB i).k=(AM st.AB j).k:=by
 unfold ES at h
 rw[we]at h
 simp at h
 exact⟨h.1,h.2.1,h.2.2⟩
noncomputable def FE(st:Stt):Wp Nat:=(tj 10).filter λi=> !(st.nums.any λu=>u==(i:Int))
theorem QQ{us:Wp Int}{i:Int}:inD (.int i) (us.map D.int)=us.any λu=>u==i:=by
 unfold inD
 rw[List.any_map]
 rfl
@[simp] theorem mS{b:Bool}{w:Wv}{r:List D}:wIn b w (.own r)=if(F7 (fz w) && r.all F7)=true then some (.val (.bl (if b then !inD (fz w) r else inD (fz w) r)))else none:=nr rfl
@[simp] theorem kX{b:Bool}{w:Wv}{r:List D}:wIn b w (.val (.lst r))=if(F7 (fz w) && r.all F7)=true then some (.val (.bl (if b then !inD (fz w) r else inD (fz w) r)))else none:=nr rfl
theorem OM{us:Wp Int}:(us.map D.int).all F7=true:=by
 rw[List.all_map,List.all_eq_true]
 intro x _;rfl
@[simp] theorem oP{i:Int}:F7 (.int i)=true:=nr rfl
theorem Zr(hS:SAt S s l m as st):Bp [] (tNm 1) (eOp (o2 (wIn true)) [eV 1,eV 0]) (eV 1) (MT 0 10) [] [Gc (.ref m),none] S=Gc (GD (FE st),S):=by
 exact D7 (gs:=[]) (t:=tNm 1) (f:=eV 1) (C:=[Gc (.ref m)]) (m:=1) (e:=λi:Nat=>D.int (0+(i:Int))) (g:=λi:Nat=>D.int i) (b:=λi=> !(st.nums.any λu=>u==(i:Int))) (S:=S) Aj (xs:=tj 10) (acc:=[]) (os:=[none]) rfl (sI (show _<=50 by simp) (AI (by decide))) (by
  intro i hi os ho
  obtain⟨o1,rfl⟩:=Ru ho
  refine⟨[Gc (.int i)],rfl,by simp,?_,by simp⟩
  have nu:=A4 hS.nu
  have fi:=OM (us:=st.nums)
  have ii:=QQ (us:=st.nums) (i:=(i:Int))
  generalize st.nums.map D.int=ud at*
  generalize (st.nums.any λu=>u==(i:Int))=bb at*
  simp[nu,fi,ii])
theorem WH{i:Nat}(h:i∈FE st):(i:Int)∉st.nums/\i<=9:=by
 unfold FE at h
 rw[we]at h
 have h1:=yG.mp h.1
 refine⟨?_,by lia⟩
 intro z
 have h2:=h.2
 have:(st.nums.any λu=>u==(i:Int))=true:=List.any_eq_true.mpr ⟨_,z,by simp⟩
 rw[this]at h2
 cases h2
theorem Wh:(FE st).length<=10:=by
 unfold FE
 exact sI (xR _ _) (by simp)
theorem Xs{j:Nat}:(ES st j).length<=st.AB.length:=by
 unfold ES
 exact sI (xR _ _) NU
end
section
variable{S:Sto}{p s l m:Nat}{as:Wp Nat}{st:Stt}{t:Tr}{k:Nat}
def Ul:Ex:=(AV (xIf (D2 (eOp (o2 wEq) [eV 7,eC (.int 7)]) (eOp (o2 wNe) [eV 12,G3 []])) (Ah (Az [eC (.str "trade"),eOp (o2 wIx) [eV 12,AF AG [eV 0,eOp (o1 F2) [eV 12]]],eV 8,eV 9,eV 11,AF BF [eV 0]])) Bo)
    (Ah (Az [eC (.str "swap"),eV 8,eV 9,eV 11,AF BF [eV 0]])))
def T6:Ex:=(AV (xIf (eOp (o2 wEq) [eV 7,eC (.int 8)]) (Ah (Az [eC (.str "spoil"),eV 8,eV 9])) Bo)
    (AV (xIf (D2 (eOp (o2 wEq) [eV 7,eC (.int 9)]) (eOp (o2 wGt) [eOp (o2 wIx) [eV 1,eC (.int 0)],eC (.int 1)])) (AV (Bs 13 (AF AG [eV 0,eOp (o2 wIx) [eV 1,eC (.int 0)]]))
    (Ah (Az [eC (.str "sell"),eV 13,eOp (o2 PQ) [eOp (o2 CP) [eOp (o2 CP) [eV 13,eC (.int 1)],AF AG [eV 0,eOp (o2 NQ) [eOp (o2 wIx) [eV 1,eC (.int 0)],eC (.int 1)]]],eOp (o2 wIx) [eV 1,eC (.int 0)]],AF Es [eV 0]]))) Bo)
    (Ah (Az [eC (.str "throw"),eV 8,eV 9,AF DB [eV 0,eOp (o2 CP) [eOp (o2 wIx) [eV 1,eC (.int 1)],eC (.int 1)]]]))))
def OV:Ex:=(AV (xIf (D2 (eOp (o2 wLt) [eV 7,eC (.int 8)]) (eOp (o2 wGt) [eOp (o2 wIx) [eV 1,eC (.int 1)],eC (.int 1)])) (AV (Bs 11 (eOp (o2 PQ) [eOp (o2 CP) [eOp (o2 CP) [eOp (o2 wIx) [eOp (o2 wIx) [eV 3,eV 8],eC (.int 0)],eC (.int 1)],AF AG [eV 0,eOp (o2 NQ) [eOp (o2 wIx) [eV 1,eC (.int 1)],eC (.int 1)]]],eOp (o2 wIx) [eV 1,eC (.int 1)]]))
    (AV (Bs 12 (EA [5] 1 (QZ [eC (.int 10)]) (tNm 1) (eOp (o2 (wIn true)) [eV 1,eV 0]) (eV 1)))
    Ul)) Bo) T6)
def Ut:Ex:=(xIf (eOp (o2 wLt) [eV 7,eC (.int 5)]) (AV (Bs 10 (EA [3,8] 1 (IH (eV 6)) (tNm 2) (D2 (eOp (o2 wNe) [eV 2,eV 1]) (eOp (o2 wEq) [eOp (o2 wIx) [eOp (o2 wIx) [eV 0,eV 2],eC (.int 0)],eOp (o2 wIx) [eOp (o2 wIx) [eV 0,eV 1],eC (.int 0)]])) (eV 2)))
    (xIf (eOp (o2 wNe) [eV 10,G3 []]) (Ah (Az [eC (.str "pool"),eV 8,eOp (o2 wIx) [eV 10,AF AG [eV 0,eOp (o1 F2) [eV 10]]]])) Bo)) Bo)
def Sm:AX->Prop
 | .FQ _ _ g _ n=>g<=2000/\n<2^130
 |_=>yk
def Wo:Ex:=(AV (xIf (eOr (eOp (o2 wLt) [eV 7,eC (.int 2)]) (eOp (o2 wEq) [eV 6,G3 []])) (Ah (Az [eC (.str "bring"),AF AG [eV 0,eOp (o2 wIx) [eV 1,eC (.int 0)]],AF AG [eV 0,eOp (o2 wIx) [eV 1,eC (.int 1)]],AF BF [eV 0]])) Bo)
    (AV (Bs 8 (eOp (o2 wIx) [eV 6,AF AG [eV 0,eOp (o1 F2) [eV 6]]]))
    (AV (Bs 9 (eOp (o2 CP) [eC (.int 1),AF AG [eV 0,eOp (o2 js) [eOp (o2 wIx) [eOp (o2 wIx) [eV 3,eV 8],eC (.int 1)],eC (.int 2000)]]]))
    (AV Ut OV))))
theorem WQ:Mp=(AV (Mj (tTp [tNm 3,tNm 4,tNm 5]) (eV 2)) (AV (Bs 6 (EA [] 2 (Z0 (eV 3)) (tTp [tNm 0,tNm 1]) (eOp (o2 wGt) [eOp (o2 wIx) [eV 1,eC (.int 1)],eC (.int 0)]) (eV 0))) (AV (Bs 7 (AF AG [eV 0,eC (.int 12)])) Wo))):=rfl
theorem Wd(hp:C5 p S)(hS:SAt S s l m as st)(hps:p∉s::l::m::as)(ht:KI t)(h:Gz t k st)(hk:k<=20):∃d S',Dk [.ref p,t.d,.ref s] S=Gc (AX.d d,S')/\Pn p S S'/\Can t st d/\Sm d:=by
 obtain⟨t1,t2,t3,t4,t5,t6⟩:=ht
 have hlen:=h.len
 have st':∀{S':Sto},Pn p S S'->SAt S' s l m as st:=λg=>hS.same g.same (by simpa using hps)
 have r0:=AR hS.root
 have cf:=aE hS (by lia)
 have fl:=NU (st:=st)
 have sq:=HX hS.lo
 obtain⟨way,S1,e1,a1,b1,p1⟩:=Aa hp (n:=12) (by decide) (by decide)
 have okF:=LV (is:=CC st)
 have dqF:=NG (is:=CC st)
 have pr0:Dk [.ref p,t.d,.ref s] S=(Wo [Gc (.ref p),Gc t.d,Gc (.ref s),Gc (.ref l),Gc (shD st.hold),Gc (.ref m),Gc (.lst (GD (CC st))),Gc (.int way),none,none,none,none,none,none] S1).map λr=>(flD r.1,r.2.2):=by
  simp[Dk,WQ,r0,sq,cf,e1]
 by_cases hb:way<2\/(CC st).isEmpty=true
 .obtain⟨x2,S2,e2,a2,b2,p2⟩:=Aa p1.pen (n:=t.p) (by lia) (by lia)
  obtain⟨x3,S3,e3,a3,b3,p3⟩:=Aa p2.pen (n:=t.k) (by lia) (by lia)
  obtain⟨x4,S4,e4,p4,a4,b4⟩:=K1 p3.pen
  obtain⟨x2,rfl⟩:=Gu a2
  obtain⟨x3,rfl⟩:=Gu a3
  refine⟨.GX x2 x3 x4,S4,?_,((p1.trans p2).trans p3).trans p4,⟨by lia,by lia,a4,b4⟩,trivial⟩
  rw[pr0]
  have ho:∀(x y:Ex),xIf (eOr (eOp (o2 wLt) [eV 7,eC (.int 2)]) (eOp (o2 wEq) [eV 6,G3 []])) x y [Gc (.ref p),Gc t.d,Gc (.ref s),Gc (.ref l),Gc (shD st.hold),Gc (.ref m),Gc (.lst (GD (CC st))),Gc (.int way),none,none,none,none,none,none] S1=x [Gc (.ref p),Gc t.d,Gc (.ref s),Gc (.ref l),Gc (shD st.hold),Gc (.ref m),Gc (.lst (GD (CC st))),Gc (.int way),none,none,none,none,none,none] S1:=by
   intro x y
   by_cases hw:way<2
   .simp[hw]
   .simp[hw,okF,dqF,hb.resolve_left hw]
  simp[Wo,-To,ho]
  simp[Tr.d,e2,e3,e4,AX.d]
 .have hw2:¬way<2:=λz=>hb (.inl z)
  have hf:(CC st).isEmpty=false:=by
   cases z:(CC st).isEmpty with
   |true=>exact absurd (.inr z) hb
   |false=>rfl
  have hfl:0<(CC st).length:=by
   cases z:CC st with
   |nil=>rw[z]at hf;cases hf
   |cons a b=>simp
  obtain⟨rl,S2,e2,a2,b2,p2⟩:=Aa p1.pen (n:=(CC st).length) (by lia) (by lia)
  obtain⟨i,mi,ei⟩:=LM a2 b2
  have fi:=Kk mi
  have hS1:=st' p1
  have hS2:=st' (p1.trans p2)
  obtain⟨a,x1,x2,x3⟩:=hS2.at fi.1
  have n1:=fi.2
  obtain⟨rs,S3,e3,a3,b3,p3⟩:=Aa p2.pen (n:=if 2000<(AM st.AB i).n then 2000 else(AM st.AB i).n) (by split<;>lia) (by split<;>lia)
  have hsome:1<=1+rs/\1+rs<=(AM st.AB i).n:=by split at b3<;>lia
  have p23:=(p1.trans p2).trans p3
  have hS3:=st' p23
  have lo2:=A4 hS2.lo
  have lo3:=A4 hS3.lo
  have x2':=A4 x2
  have x4:S3[a]?=Gc (B7 (AM st.AB i)):=hS3.ld i a _ x1 (Gi fi.1)
  have x4':=A4 x4
  have kd:=h.kind _ (BN fi.1)
  have nl:=JV (is:=CC st)
  have cs:=bW hS3 (by lia) mi
  have okS:=LV (is:=ES st i)
  have dqS:=NG (is:=ES st i)
  have sl:=Xs (st:=st) (j:=i)
  have nls:=JV (is:=ES st i)
  have pre:Dk [.ref p,t.d,.ref s] S=((Ut [Gc (.ref p),Gc t.d,Gc (.ref s),Gc (.ref l),Gc (shD st.hold),Gc (.ref m),Gc (.lst (GD (CC st))),Gc (.int way),Gc (.int i),Gc (.int (1+rs)),none,none,none,none] S3).bind (dA OV)).map λr=>(flD r.1,r.2.2):=by
   rw[pr0]
   simp[Wo,hw2,okF,dqF,hf,nl,e2,ei,lo2,x3,x2',e3]
  have tail:∀o10,(way<5->(ES st i).isEmpty=true)->∃d S',(OV [Gc (.ref p),Gc t.d,Gc (.ref s),Gc (.ref l),Gc (shD st.hold),Gc (.ref m),Gc (.lst (GD (CC st))),Gc (.int way),Gc (.int i),Gc (.int (1+rs)),o10,none,none,none] S3).map (λr=>(flD r.1,r.2.2))=Gc (AX.d d,S')/\Pn p S S'/\Can t st d/\Sm d:=by
   intro o10 _
   generalize hE:([Gc (.ref p),Gc t.d,Gc (.ref s),Gc (.ref l),Gc (shD st.hold),Gc (.ref m),Gc (.lst (GD (CC st))),Gc (.int way),Gc (.int i),Gc (.int (1+rs)),o10,none,none,none]:En)=E
   clear pre cs okS dqS
   by_cases hsw:way<8/\1<t.k
   .obtain⟨hw8,hk1⟩:=hsw
    have hk1':(1:Int)<t.k:=by lia
    obtain⟨rk,S4,e4,a4,b4,p4⟩:=Aa p3.pen (n:=(t.k:Int)-1) (by lia) (by lia)
    have hS4:=st' (p23.trans p4)
    have hmod:=U2 (x:=((AM st.AB i).k:Int)+1+rk) (K:=t.k) (by lia) (by lia)
    obtain⟨kd2,ekd⟩:∃q:Nat,((AM st.AB i).k+1+rk) % (t.k:Int)=(q:Int):=⟨_,(uD (vf _ (by lia))).symm⟩
    have hkd:kd2<t.k/\kd2≠(AM st.AB i).k:=by
     rw[ekd]at hmod
     split at hmod<;>lia
    have kp:0<t.k:=by lia
    have cl:=Zr hS4
    have okL:=LV (is:=FE st)
    have dqL:=NG (is:=FE st)
    have ll:=Wh (st:=st)
    have nll:=JV (is:=FE st)
    have rt:Ka 10=true:=FZ (by decide) (by decide)
    have mid:OV E S3=(Ul [Gc (.ref p),Gc t.d,Gc (.ref s),Gc (.ref l),Gc (shD st.hold),Gc (.ref m),Gc (.lst (GD (CC st))),Gc (.int way),Gc (.int i),Gc (.int (1+rs)),o10,Gc (.int kd2),Gc (.lst (GD (FE st))),none] S4).bind (dA T6):=by
     subst hE
     simp[OV,Tr.d,x3,hw8,hk1',lo3,x4',e4,kp,ekd,rt,cl]
    rw[mid]
    clear mid hE
    by_cases htr:way=7/\(FE st).isEmpty=false
    .obtain⟨hw7,hle⟩:=htr
     have hll:0<(FE st).length:=by
      cases z:FE st with
      |nil=>rw[z]at hle;cases hle
      |cons a b=>simp
     obtain⟨ru,S5,e5,a5,b5,p5⟩:=Aa p4.pen (n:=(FE st).length) (by lia) (by lia)
     obtain⟨u,mu,eu⟩:=LM a5 b5
     obtain⟨x6,S6,e6,p6,a6,b6⟩:=MJ p5.pen
     have fu:=WH mu
     refine⟨.FQ u i (1+rs) kd2 x6,S6,?_,((p23.trans p4).trans p5).trans p6,⟨fi.1,hsome.1,hsome.2,hkd.1,hkd.2,a6,Int.lt_trans b6 (by decide),fu.1,by lia,by lia⟩,by split at b3<;>lia,b6⟩
     subst hw7
     simp[Ul,okL,dqL,hle,nll,e5,eu,e6,AX.d]
    .obtain⟨x6,S6,e6,p6,a6,b6⟩:=K1 p4.pen
     refine⟨.swap i (1+rs) kd2 x6,S6,?_,(p23.trans p4).trans p6,⟨fi.1,hsome.1,hsome.2,hkd.1,hkd.2,a6,b6⟩,trivial⟩
     by_cases h7:way=7
     .subst h7
      have hle:(FE st).isEmpty=true:=by
       cases z:(FE st).isEmpty with
       |true=>rfl
       |false=>exact absurd ⟨rfl,z⟩ htr
      simp[Ul,okL,dqL,hle,e6,AX.d]
     .have h7':(way==7)=false:=by simpa using h7
      simp[Ul,h7',e6,AX.d]
   .have sw:OV E S3=T6 E S3:=by
     subst hE
     by_cases w8:way<8
     .have hk1:¬(1:Int)<t.k:=by lia
      simp[OV,Tr.d,w8,hk1]
     .simp[OV,w8]
    rw[sw]
    clear sw
    by_cases h8:way=8
    .subst h8
     refine⟨.G4 i (1+rs),S3,?_,p23,⟨fi.1,hsome.1,hsome.2⟩,trivial⟩
     subst hE
     rfl
    .have h8':(way==8)=false:=by simpa using h8
     by_cases h9:way=9/\1<t.p
     .obtain⟨h9,hP⟩:=h9
      subst h9
      have hP':(1:Int)<t.p:=by lia
      obtain⟨rp,S4,e4,a4,b4,p4⟩:=Aa p3.pen (n:=t.p) (by lia) (by lia)
      obtain⟨rq,S5,e5,a5,b5,p5⟩:=Aa p4.pen (n:=(t.p:Int)-1) (by lia) (by lia)
      obtain⟨sh,S6,e6,p6,a6,b6,c6⟩:=Xh p5.pen
      have hmod:=U2 (x:=rp+1+rq) (K:=t.p) (by lia) (by lia)
      obtain⟨q,eq⟩:∃q:Nat,(rp+1+rq) % (t.p:Int)=(q:Int):=⟨_,(uD (vf _ (by lia))).symm⟩
      obtain⟨rp,rfl⟩:=Gu a4
      have hq:q<t.p/\q≠rp:=by
       rw[eq]at hmod
       split at hmod<;>lia
      have pp:0<t.p:=by lia
      refine⟨.Kc rp q sh,S6,?_,((p23.trans p4).trans p5).trans p6,⟨λz=>hq.2 z.symm,by lia,hq.1,a6,b6,c6⟩,trivial⟩
      subst hE
      simp[T6,Tr.d,hP',e4,e5,pp,eq,e6,AX.d]
     .have s9:∀(x y:Ex) (T:Sto),xIf (D2 (eOp (o2 wEq) [eV 7,eC (.int 9)]) (eOp (o2 wGt) [eOp (o2 wIx) [eV 1,eC (.int 0)],eC (.int 1)])) x y E T=y E T:=by
       intro x y T
       subst hE
       by_cases z:way=9
       .have hP:¬(1:Int)<t.p:=by have:¬1<t.p:=λw=>h9 ⟨z,w⟩;lia
        subst z
        simp[Tr.d,hP]
       .have z':(way==9)=false:=by simpa using z
        simp[z']
      obtain⟨ws,S4,e4,p4,a4,b4⟩:=Uv p3.pen (n:=t.k+1) (by lia)
      have e4':DB [.ref p,.int ((t.k:Int)+1)] S3=Gc (.tup (ws.map .int),S4):=e4
      refine⟨.thr i (1+rs) ws,S4,?_,p23.trans p4,⟨fi.1,hsome.1,hsome.2,a4,b4⟩,trivial⟩
      have s8:∀(x y:Ex) (T:Sto),xIf (eOp (o2 wEq) [eV 7,eC (.int 8)]) x y E T=y E T:=by
       intro x y T
       subst hE
       simp[h8']
      simp[T6,-To,s8,s9]
      subst hE
      simp[Tr.d,e4',AX.d]
  by_cases hpool:way<5/\(ES st i).isEmpty=false
  .obtain⟨hw5,hse⟩:=hpool
   have hsl:0<(ES st i).length:=by
    cases z:ES st i with
    |nil=>rw[z]at hse;cases hse
    |cons a b=>simp
   obtain⟨rj,S4,e4,a4,b4,p4⟩:=Aa p3.pen (n:=(ES st i).length) (by lia) (by lia)
   obtain⟨j,mj,ej⟩:=LM a4 b4
   have fj:=Wl mj
   have fj':=Kk fj.1
   refine⟨.Mz i j,S4,?_,p23.trans p4,⟨λz=>fj.2.1 z.symm,fi.1,fj'.1,n1,fj'.2,fj.2.2.symm⟩,trivial⟩
   rw[pre]
   simp[Ut,hw5,cs,okS,dqS,hse,nls,e4,ej,AX.d]
  .by_cases w5:way<5
   .have hse:(ES st i).isEmpty=true:=by
     cases z:(ES st i).isEmpty with
     |true=>rfl
     |false=>exact absurd ⟨w5,z⟩ hpool
    obtain⟨d,S',e,pn,hc⟩:=tail (Gc (.lst (GD (ES st i)))) (λ_=>hse)
    refine⟨d,S',?_,pn,hc⟩
    rw[pre,<-e]
    simp[Ut,w5,cs,okS,dqS,hse]
   .obtain⟨d,S',e,pn,hc⟩:=tail none (λz=>absurd z w5)
    refine⟨d,S',?_,pn,hc⟩
    rw[pre,<-e]
    simp[Ut,w5]
end
noncomputable def runs(t:Tr)(st:Stt)(ds:Wp AX):Stt:=ds.foldl (step t) st
def Lx(t:Tr):Stt->Wp AX->Prop
 |_,[]=>yk
 |st,d::ds=>Can t st d/\Lx t (step t st d) ds
theorem Mb{t:Tr}{d:AX}:∀{ds:Wp AX} {st:Stt},Lx t st ds->Can t (runs t st ds) d->Lx t st (ds++[d])
 | [],st,_,h=>⟨h,trivial⟩
 |x::ds,st,h,g=>⟨h.1,Mb h.2 g⟩
theorem Kh{t:Tr}{ds:Wp AX}{st:Stt}{i:Nat}{d:AX}(h:Lx t st ds)(g:ds[i]?=Gc d):Can t (runs t st (ds.take i)) d:=by
 induction ds generalizing st i with
 |nil=>simp at g
 |cons x ds ih=>
  cases i with
  |zero=>simp at g;subst g;exact h.1
  |succ i=>simp at g;exact ih h.2 g
theorem OF{t:Tr}{st:Stt}{ds:Wp AX}{d:AX}:runs t st (ds++[d])=step t (runs t st ds) d:=by simp[runs]
theorem U3{t:Tr}{st:Stt}{ds:Wp AX}{i:Nat}{d:AX}(h:ds[i]?=Gc d):runs t st (ds.take (i+1))=step t (runs t st (ds.take i)) d:=by
 rw[List.take_succ,h]
 exact OF
theorem NV{t:Tr}(ht:KI t):∀{ds:Wp AX} {st:Stt} {k:Nat},Gz t k st->Lx t st ds->k+ds.length<=21->Gz t (k+ds.length) (runs t st ds)
 | [],st,k,h,_,_=>h
 |d::ds,st,k,h,g,hl=>by
  have:=NV ht (ds:=ds) (Wc ht h (by simp at hl;lia) g.1) g.2 (by simp at hl;lia)
  rw[show k+(d::ds).length=k+1+ds.length by simp;lia]
  exact this
theorem J4{t:Tr}:∀{ds:Wp AX} {st:Stt} {i:Nat},Lx t st ds->Lx t st (ds.take i)
 | [],st,i,h=>by simp;exact trivial
 |d::ds,st,0,h=>trivial
 |d::ds,st,i+1,h=>⟨h.1,J4 h.2⟩
noncomputable def st0(t:Tr)(ls:Wp Ld):Stt:=⟨ls,t.ho,[]⟩
structure CB(t:Tr)(ls:Wp Ld)(ds:Wp AX):Prop where
 tr:KI t
 inv:Gz t 0 (st0 t ls)
 good:Lx t (st0 t ls) ds
 len:ds.length<=20
theorem CB.at{t:Tr}{ls:Wp Ld}{ds:Wp AX}(h:CB t ls ds)(i:Nat):Gz t (ds.take i).length (runs t (st0 t ls) (ds.take i)):=by
 have:=NV h.tr (ds:=ds.take i) h.inv (J4 h.good) (by have:=h.len;simp;lia)
 rwa [Nat.zero_add]at this
noncomputable def AO(t:Tr)(ls:Wp Ld)(ds:Wp AX):D:=.tup [t.d,.tup (ls.map Ld.d),.tup (ds.map AX.d)]
theorem OU{t:Tr}{ls:Wp Ld}(h:Ew t ls)(hl:ls.length<=4)(h1:t.ho.length=t.p){g:Nat}(g0:0<g)(g1:g<=32)(g2:∀r∈t.ho,Ok g g r):Gz t 0 (st0 t ls):=by
 obtain⟨ha,G,G0,G1,G2⟩:=h
 have hG:G<=32^4:=sI G1 (tL (by decide) hl)
 have hB:G*g<2^30:=by
  have:=zl hG g1
  lia
 refine Gz.of (G:=G*g) (B:=G*g) (by simpa[st0]using hl) ?_ h1 (sD _) (yj G0 g0) (sD _) hB ?_
 .intro x hx
  have:=ha x hx
  exact⟨this.1,by lia,jE this.2.2.1,this.2.2.2.1,λr hr=>(G2 x hx r hr).up (sD _)⟩
 .intro r hr
  have:=(g2 r hr).up (t:=G) (B':=G*g) (by rw[vx];exact sD _)
  rwa [vx g G]at this
noncomputable def Fx:AX->sx
 | .thr .. =>true
 |_=>false
section
variable{S:Sto}{p:Nat}
theorem Qr(d:AX)(E:En)(h:E=[Gc d.d]):eOp (o2 wEq) [eOp (o2 wIx) [eV 0,eC (.int 0)],eC (.str "throw")] E S=Gc (.bl (Fx d),S):=by
 subst h
 cases d<;>simp[AX.d,Fx]
theorem qL{q:Nat}{ds:Wp AX}(hq:S[q]?=Gc (.lst (ds.map AX.d)))(hl:ds.length<=50):Bp [(q,ds.map AX.d)] (tNm 0) (eOp (o2 wEq) [eOp (o2 wIx) [eV 0,eC (.int 0)],eC (.str "throw")]) (eV 0) (ds.map AX.d) [] [none] S=Gc ((ds.filter Fx).map AX.d,S):=
 D7 (gs:=[(q,ds.map AX.d)]) (t:=tNm 0) (f:=eV 0) (C:=[]) (m:=1) (e:=AX.d) (g:=AX.d) (b:=Fx) (S:=S) (λg hg=>by rw[sj.mp hg];exact AR hq) (xs:=ds) (acc:=[]) (os:=[none]) rfl (sI (show _<=50 by simp;lia) (AI (by decide))) (by
  intro d _ os ho
  obtain⟨o1,rfl⟩:=Ru ho
  exact⟨[Gc d.d],rfl,by simp,Qr d _ rfl,by simp⟩)
theorem WA{M:Nat}(hM:M<=20)(h:C5 p S):∃t ls ds S',Ek [.ref p,.int M] S=Gc (AO t ls ds,S')/\(CB t ls ds/\ds.length<=M/\(∀d∈ds,Sm d)/\kC t/\(ds.filter Fx).length<=3/\Ew t ls/\ls.length<=4/\∃G:Nat,0<G/\G<=32/\∀r∈t.ho,Ok G G r)/\((∀l∈ls,l.ow.sum=1)/\t.ho.sum=1)/\C5 p S'/\∀n c,S[n]?=Gc c->n≠p->S'[n]?=Gc c:=by
 obtain⟨t,S1,e1,p1,ht,⟨hh,hhr⟩,g,g0,g1,g2⟩:=OD h
 obtain⟨ls,S2,e2,p2,hf,hl⟩:=Qz p1.pen ht
 have hi:=OU hf hl hh.1 g0 g1 g2
 obtain⟨s,l,m,as,S3,e3,hS,sm,hn⟩:=Xp (S:=S2) (t:=t) (ls:=ls) (x:=.tup []) (by lia)
 have lp:=p2.pen.lt
 have l02:S.length<=S2.length:=sI p1.same.len p2.same.len
 have pen3:C5 p S3:=by
  obtain⟨ds,e,hp⟩:=p2.pen
  exact⟨ds,sm.get e (by simp),hp⟩
 have hq:(S3++[Cl.lst []])[S3.length]?=Gc (.lst []):=sU
 obtain⟨rn,S4,e4,a4,b4,p4⟩:=Aa (pen3.app [Cl.lst []]) (n:=(M:Int)+1) (by lia) (by lia)
 have lt3:=hS.lts
 have pn:p∉s::l::m::as:=λz=>by have:=hn p z;lia
 have qn:S3.length∉s::l::m::as:=λz=>by have:=lt3 _ z;lia
 have hpq:S3.length≠p:=by have:=pen3.lt;lia
 have hS4:SAt S4 s l m as (st0 t ls):=(hS.UL (.app)).same p4.same (by simpa using pn)
 have hq4:S4[S3.length]?=Gc (.lst []):=p4.get hq hpq
 obtain⟨rn,rfl⟩:=Gu a4
 have rk:Ka (rn:Int)=true:=FZ (by lia) (by lia)
 have lqS:S.length<=S3.length:=sI l02 sm.len
 generalize hQ:S3.length=q at*
 obtain⟨E',S',ef,ds,as',o6,o7,rfl,f1,f2,f3,f4,f5,f6,f7,f8,f9,f10,f11⟩:=E7 (gs:=[]) (t:=tNm 6) (b:=AV (Bs 7 (AF Dk [eV 0,eV 2,eV 4]))
  (xIf (eOr (eOp (o2 wNe) [eOp (o2 wIx) [eV 7,eC (.int 0)],eC (.str "throw")]) (eOp (o2 wLt) [eOp (o1 F2) [EA [] 1 (IH (eV 5)) (tNm 0) (eOp (o2 wEq) [eOp (o2 wIx) [eV 0,eC (.int 0)],eC (.str "throw")]) (eV 0)],eC (.int 3)])) (AV (CM (AF Dg [eV 2,eV 4,eV 7]))
  (CM (Nz Ou (eV 5) [eV 7]))) Bo))
  (I:=λrs E S'=>∃(ds:Wp AX) (as':Wp Nat) (o6 o7:rW D),E=[Gc (.ref p),Gc (.int M),Gc t.d,Gc (.tup (ls.map Ld.d)),Gc (.ref s),Gc (.ref q),o6,o7]/\S'[q]?=Gc (.lst (ds.map AX.d))/\C5 p S'/\SAt S' s l m as' (runs t (st0 t ls) ds)/\Lx t (st0 t ls) ds/\ds.length+rs.length<=M/\p∉s::l::m::as'/\q∉s::l::m::as'/\(∀n∈s::l::m::as',S.length<=n)/\(∀n c,S[n]?=Gc c->n≠p->S'[n]?=Gc c)/\(∀d∈ds,Sm d)/\(ds.filter Fx).length<=3)
  (λ_ _ _ _=>Aj) (ds:=MT 0 rn) (E:=[Gc (.ref p),Gc (.int M),Gc t.d,Gc (.tup (ls.map Ld.d)),Gc (.ref s),Gc (.ref q),none,none]) (S:=S4)
  ⟨[],as,none,none,rfl,hq4,p4.pen,hS4,trivial,by rw[Fh];simp;lia,pn,qn,λn z=>sI l02 (hn n z),λn c e ne=>p4.get (Ed.get (A:=[]) .app (sm.get (p2.get (p1.get e ne) ne) (by simp)) (by simp)) ne,(λ_ z=>nomatch z),by simp⟩ (by
    rintro dd rs E T ⟨ds,as',o6,o7,rfl,i1,i2,i3,i4,i5,i6,i7,i8,i9,i10,i11⟩
    simp only[sk]at i5
    have inv:=NV ht hi i4 (by lia)
    rw[Nat.zero_add]at inv
    obtain⟨d,T1,d1,d2,d3,d4⟩:=Wd i2 i3 i6 ht inv (by lia)
    have lS:S.length<=T1.length:=by have:=i8 s sN;have:=Am i3.root;have:=d2.same.len;lia
    have j3:=i3.same d2.same (by simpa using i6)
    have j1:T1[q]?=Gc (.lst (ds.map AX.d)):=d2.get i1 hpq
    have tc:=qL j1 (by lia)
    have w1:∀(c:Ev),eOr (eOp (o2 wNe) [eOp (o2 wIx) [eV 7,eC (.int 0)],eC (.str "throw")]) c [Gc (.ref p),Gc (.int M),Gc t.d,Gc (.tup (ls.map Ld.d)),Gc (.ref s),Gc (.ref q),Gc dd,Gc d.d] T1=if Fx d=true then c [Gc (.ref p),Gc (.int M),Gc t.d,Gc (.tup (ls.map Ld.d)),Gc (.ref s),Gc (.ref q),Gc dd,Gc d.d] T1 else Gc (.bl true,T1):=by
     intro c
     cases d<;>simp[AX.d,Fx]
    by_cases hb:Fx d=false\/(ds.filter Fx).length<3
    .obtain⟨T2,as2,k1,k2,k3,k4⟩:=lD j3 ht inv (by lia) d3
     have lt:=j3.lts
     have q2:T2[q]?=Gc (.lst (ds.map AX.d)):=k3.get j1 i7
     have hz:ds.length<sizeLine:=rz (show ds.length<50 by lia) (AI (by decide))
     refine⟨_,[Gc (.ref p),Gc (.int M),Gc t.d,Gc (.tup (ls.map Ld.d)),Gc (.ref s),Gc (.ref q),Gc dd,Gc d.d],T2.set q (.lst ((ds++[d]).map AX.d)),by simp;rfl,?_,ds++[d],as2,Gc dd,Gc d.d,rfl,sP (Am q2),?_,?_,Mb i4 d3,by simp;lia,?_,?_,?_,?_,λx hx=>(sX.mp hx).elim (i10 x) λz=>by rw[sj.mp z];exact d4,by
      rw[AAN,tV]
      cases ht':Fx d with
      |false=>simpa[ht']using i11
      |true=>
       have:=hb.resolve_left (by rw[ht'];simp)
       simp[ht'];lia⟩
     .have kk:=AR q2
      have sq:=HX j1
      have hz':(ds.map AX.d).length<sizeLine:=by simpa using hz
      have hfin:(ds++[d]).map AX.d=ds.map AX.d++[d.d]:=by simp
      rw[hfin]
      generalize hDD:ds.map AX.d=DD at*
      cases ht':Fx d with
      |false=>
       simp[d1,-Pa,w1,ht',k1,kk,hz']
      |true=>
       have h3:((ds.filter Fx).length:Int)<3:=by
        have:=hb.resolve_left (by rw[ht'];simp)
        lia
       simp[d1,-Pa,w1,ht',sq,tc,h3,k1,kk,hz']
     .obtain⟨pd,pe,ph⟩:=d2.pen
      exact⟨pd,by rw[rm hpq];exact k3.get pe i6,ph⟩
     .rw[OF]
      exact k2.same (A:=[q]) (.set (by simp)) (by
       intro n hn z
       simp at hn;subst hn
       simp only[rZ]at z i7
       rcases z with z|z|z|z
       .exact i7 (.inl z)
       .exact i7 (.inr (.inl z))
       .exact i7 (.inr (.inr (.inl z)))
       .rcases k4 _ z with w|w
        .exact i7 (.inr (.inr (.inr w)))
        .have:=Am j1;lia)
     .intro z
      simp only[rZ]at z i6
      rcases z with z|z|z|z
      .exact i6 (.inl z)
      .exact i6 (.inr (.inl z))
      .exact i6 (.inr (.inr (.inl z)))
      .rcases k4 _ z with w|w
       .exact i6 (.inr (.inr (.inr w)))
       .have:=d2.pen.lt;lia
     .intro z
      simp only[rZ]at z i7
      rcases z with z|z|z|z
      .exact i7 (.inl z)
      .exact i7 (.inr (.inl z))
      .exact i7 (.inr (.inr (.inl z)))
      .rcases k4 _ z with w|w
       .exact i7 (.inr (.inr (.inr w)))
       .have:=Am j1;lia
     .intro n z
      simp only[rZ]at z i8
      rcases z with z|z|z|z
      .exact i8 n (.inl z)
      .exact i8 n (.inr (.inl z))
      .exact i8 n (.inr (.inr (.inl z)))
      .rcases k4 _ z with w|w
       .exact i8 n (.inr (.inr (.inr w)))
       .exact sI lS w
     .intro n c e ne
      have ln:n<S.length:=Am e
      rw[rm (λz=>by have:=lqS;lia)]
      exact k3.get (d2.get (i9 n c e ne) ne) λz=>by have:=i8 n z;lia
    .have ht':Fx d=true:=by
      cases z:Fx d with
      |true=>rfl
      |false=>exact absurd (.inl z) hb
     have h3:¬((ds.filter Fx).length:Int)<3:=by
      have:¬(ds.filter Fx).length<3:=λz=>hb (.inr z)
      lia
     refine⟨_,[Gc (.ref p),Gc (.int M),Gc t.d,Gc (.tup (ls.map Ld.d)),Gc (.ref s),Gc (.ref q),Gc dd,Gc d.d],T1,by simp;rfl,?_,ds,as',Gc dd,Gc d.d,rfl,j1,d2.pen,j3,i4,by lia,i6,i7,i8,λn c e ne=>d2.get (i9 n c e ne) ne,i10,i11⟩
     have sq:=HX j1
     generalize hDD:ds.map AX.d=DD at*
     simp[d1,-Pa,w1,ht',sq,tc,h3])
 refine⟨t,ls,ds,S',?_,⟨⟨ht,hi,f4,by simp at f5;lia⟩,by simpa using f5,f10,hhr,f11,hf,hl,g,g0,g1,g2⟩,⟨λx hx=>(hf.1 x hx).2.2.2.2,hh.2⟩,f2,f9⟩
 have df:=A4 f1
 simp[Ek,Mu,e1,e2,e3,hQ,e4,rk,ef,df,AO]
end
section
variable{S:Sto}{s l m:Nat}{as:Wp Nat}{st:Stt}
end
theorem QC{n m d:Nat}(h:n<=m):HT.sIx m d (Gc (n:Int))=n:=by
 unfold HT.sIx
 have:¬((n:Int)<0):=by lia
 simp[this]
 lia
theorem NF{α:Type}{ds:Wp α}{n:Nat}(h:n<=ds.length):ID ds none (Gc (n:Int))=ds.take n:=by
 unfold ID
 rw[QC h]
 simp[HT.sIx]
theorem Wt{α:Type}{ds:Wp α}{n:Nat}(h:n<=ds.length):ID ds (Gc (n:Int)) none=ds.drop n:=by
 unfold ID
 rw[QC h]
 simp[HT.sIx]
 exact xH (by simp)
noncomputable def hD(x:Ld):D:=.tup [.int x.k,.int x.n]
noncomputable def CO(ls:Wp Ld):D:=.lst (ls.map hD)
section
variable{S:Sto}{ls:Wp Ld}{i j:Nat}{n:Int}
@[simp] theorem lA:dr S (CO ls)=.val (CO ls):=nr rfl
@[simp] theorem ja:asS (.val (CO ls))=some (ls.map hD):=nr rfl
theorem QI(hi:i<ls.length):atI (ls.map hD) (i:Int)=Gc (hD (AM ls i)):=C9 (by rw[sY,Gi hi];rfl)
@[simp] theorem qI{x:Ld}:dr S (hD x)=.val (.tup [.int x.k,.int x.n]):=nr rfl
@[simp] theorem oX{ts:List Tf}{x:Ld}{E:En}:tTp ts (hD x) E S=tMs ts [.int x.k,.int x.n] E S:=nr rfl
theorem WE{lo hi:rW Int}:wSl lo hi (.val (CO ls))=Gc (.own (ID (ls.map hD) lo hi)):=nr rfl
theorem El(hi:i<ls.length)(hl:ls.length<=60):BS [CO ls,.int i,.int n] S=Gc (CO (less ls i n),S):=by
 have c1:=NF (ds:=ls.map hD) (n:=i) (by simp;lia)
 have c2:ID (ls.map hD) (Gc ((i:Int)+1)) none=(ls.map hD).drop (i+1):=by
  have:=Wt (ds:=ls.map hD) (n:=i+1) (by simp;lia)
  simpa using this
 have ef:CO (less ls i n)=.lst ((ls.map hD).take i++[.tup [.int (AM ls i).k,.int ((AM ls i).n-n)]]++(ls.map hD).drop (i+1)):=by
  rw[SU,CO,zD,List.set_eq_take_append_cons_drop,sZ (by simpa using hi)]
  simp[hD]
 have z1:(List.take i (ls.map hD)).length+1<=sizeLine:=sI (show _<=100 by simp;lia) (AI (by decide))
 have z2:(List.take i (ls.map hD)++[D.tup [.int (AM ls i).k,.int ((AM ls i).n-n)]]).length+(List.drop (i+1) (ls.map hD)).length<=sizeLine:=sI (show _<=100 by simp;lia) (AI (by decide))
 rw[ef]
 have ah:=QI hi
 have ws:=λ{lo hi:rW Int}=>WE (ls:=ls) (lo:=lo) (hi:=hi)
 generalize List.take i (ls.map hD)=A at*
 generalize List.drop (i+1) (ls.map hD)=B at*
 simp only[tV,sk,v7]at z2
 simp[BS,Gy,ah,ws,c1,c2,z1,z2]
end
section
variable{S:Sto}{st:Stt}{t:Tr}{k:Nat}
@[simp] theorem EF{ls:List Ld}{r:List D}:CP (.val (CO ls)) (.val (.lst r))=if(ls.map hD).length+r.length<=sizeLine then some (.own (ls.map hD++r))else none:=nr rfl
theorem Kt{ls:Wp Ld}{y:Ld}:D.lst (ls.map hD++[.tup [.int y.k,.int y.n]])=CO (ls++[y]):=by simp[CO,hD]
theorem Ue(h:Gz t k st)(hk:k<=21){d:AX}(hc:Can t st d):As [CO st.AB,d.d] S=Gc (CO (step t st d).AB,S):=by
 have hlen:=h.len
 have hz:(st.AB.map hD).length+1<=sizeLine:=sI (show _<=100 by simp;lia) (AI (by decide))
 have hz2:∀{i:Nat} {n:Int},((less st.AB i n).map hD).length+1<=sizeLine:=λ{i n}=>sI (show _<=100 by simp[D0];lia) (AI (by decide))
 cases d with
 |GX p kd n=>
  have e:=Kt (ls:=st.AB) (y:=⟨kd,n,V4 t.p p⟩)
  show _=Gc (CO (st.AB++[⟨kd,n,V4 t.p p⟩]),S)
  rw[<-e]
  have wA:=EF (ls:=st.AB) (r:=[.tup [.int kd,.int n]])
  rw[sZ (by simpa using hz)]at wA
  simp[As,BM,AX.d,-EF,wA]
 |Mz i j=>
  obtain⟨hij,hi,hj,h1,h2,h3⟩:=hc
  have e0:AM (less st.AB i (AM st.AB i).n) j=AM st.AB j:=by
   unfold AM less
   rw[sv,rm hij,<-sv]
  have w1:=El (S:=S) (n:=(AM st.AB i).n) hi (by lia)
  have w2:=El (S:=S) (ls:=less st.AB i (AM st.AB i).n) (i:=j) (n:=(AM st.AB j).n) (by rw[D0];exact hj) (by rw[D0];lia)
  have z3:((less (less st.AB i (AM st.AB i).n) j (AM st.AB j).n).map hD).length+1<=sizeLine:=sI (show _<=100 by simp[D0];lia) (AI (by decide))
  have e:=Kt (ls:=less (less st.AB i (AM st.AB i).n) j (AM st.AB j).n) (y:=⟨(AM st.AB i).k,(AM st.AB i).n+(AM st.AB j).n,EJ (AM st.AB i).n (AM st.AB j).n (AM st.AB i).ow (AM st.AB j).ow⟩)
  show _=Gc (CO (less (less st.AB i (AM st.AB i).n) j (AM st.AB j).n++[_]),S)
  rw[<-e]
  have a1:=QI hi
  have a2:=QI hj
  have wA:=EF (ls:=less (less st.AB i (AM st.AB i).n) j (AM st.AB j).n) (r:=[.tup [.int (AM st.AB i).k,.int ((AM st.AB i).n+(AM st.AB j).n)]])
  rw[sZ (by simpa using z3)]at wA
  generalize (less (less st.AB i (AM st.AB i).n) j (AM st.AB j).n).map hD=A at*
  simp[As,BM,AX.d,a1,a2,w1,w2,-EF,wA]
 |swap i g kd n=>
  obtain⟨hi,h1,h2,h3,h4,h5,h6⟩:=hc
  have w1:=El (S:=S) (n:=g) hi (by lia)
  have e:=Kt (ls:=less st.AB i g) (y:=⟨kd,n,(AM st.AB i).ow⟩)
  show _=Gc (CO (less st.AB i g++[⟨kd,n,(AM st.AB i).ow⟩]),S)
  rw[<-e]
  have wA:=EF (ls:=less st.AB i g) (r:=[.tup [.int kd,.int n]])
  rw[sZ (by simpa using hz2)]at wA
  simp[As,BM,AX.d,w1,-EF,wA]
 |FQ u i g kd n=>
  obtain⟨hi,h1,h2,h3,h4,h5,h6,h7⟩:=hc
  have w1:=El (S:=S) (n:=g) hi (by lia)
  have e:=Kt (ls:=less st.AB i g) (y:=⟨kd,n,(AM st.AB i).ow⟩)
  show _=Gc (CO (less st.AB i g++[⟨kd,n,(AM st.AB i).ow⟩]),S)
  rw[<-e]
  have wA:=EF (ls:=less st.AB i g) (r:=[.tup [.int kd,.int n]])
  rw[sZ (by simpa using hz2)]at wA
  simp[As,BM,AX.d,w1,-EF,wA]
 |G4 i n=>
  obtain⟨hi,h1,h2⟩:=hc
  have w1:=El (S:=S) (n:=n) hi (by lia)
  show _=Gc (CO (less st.AB i n),S)
  simp[As,BM,AX.d,w1]
 |thr i n ws=>
  obtain⟨hi,h1,h2,h3,h4⟩:=hc
  have w1:=El (S:=S) (n:=n) hi (by lia)
  have e:CO (step t st (.thr i n ws)).AB=CO (less st.AB i n):=by
   show D.lst (((less st.AB i n).map _).map hD)=_
   rw[v3];rfl
  rw[e]
  simp[As,BM,AX.d,w1]
 |Kc p q x=>
  have e:CO (step t st (.Kc p q x)).AB=CO st.AB:=by
   show D.lst ((st.AB.map _).map hD)=_
   rw[v3];rfl
  rw[e]
  simp[As,BM,AX.d]
noncomputable def Gv:AX->rW Int
 | .FQ u .. =>Gc u
 |_=>none
theorem UC{ls:Wp Ld}:∀{ds:Wp AX},(runs t (st0 t ls) ds).nums=ds.filterMap Gv:=by
 intro ds
 have:∀(ds:Wp AX) (st:Stt),(runs t st ds).nums=st.nums++ds.filterMap Gv:=by
  intro ds
  induction ds with
  |nil=>intro st;simp[runs]
  |cons d ds ih=>
   intro st
   show(runs t (step t st d) ds).nums=_
   rw[ih]
   cases d<;>simp[step,Gv,tQ]
 rw[this];rfl
theorem KA:∀{ds:Wp AX} {acc:Wp D} {o:rW D},acc.length+ds.length<=100->Bp [] (tNm 0) (eOp (o2 wEq) [eOp (o2 wIx) [eV 0,eC (.int 0)],eC (.str "trade")]) (eOp (o2 wIx) [eV 0,eC (.int 1)]) (ds.map AX.d) acc [o] S=Gc (acc++(ds.filterMap Gv).map D.int,S)
 | [],acc,o,h=>by rw[vQ,E5 Aj];simp
 |d::ds,acc,o,h=>by
  have hz:acc.length<sizeLine:=rz (show acc.length<101 by simp at h;lia) (AI (by decide))
  have ht:tNm 0 d.d [o] S=Gc [Gc d.d]:=by simp
  rw[sV]
  cases d with
  |FQ u i g kd n=>
   rw[Ju Aj hz ht (S1:=S) (by simp[AX.d])]
   have:eOp (o2 wIx) [eV 0,eC (.int 1)] [Gc (AX.FQ u i g kd n).d] S=Gc (.int u,S):=by simp[AX.d]
   rw[this,BP,KA (by simp at h ⊢; lia)]
   simp[Gv,tQ]
  |GX=>rw[IP Aj hz ht (S1:=S) (by simp[AX.d]),KA (by simp at h ⊢; lia)];simp[Gv,tQ]
  |Mz=>rw[IP Aj hz ht (S1:=S) (by simp[AX.d]),KA (by simp at h ⊢; lia)];simp[Gv,tQ]
  |swap=>rw[IP Aj hz ht (S1:=S) (by simp[AX.d]),KA (by simp at h ⊢; lia)];simp[Gv,tQ]
  |G4=>rw[IP Aj hz ht (S1:=S) (by simp[AX.d]),KA (by simp at h ⊢; lia)];simp[Gv,tQ]
  |thr=>rw[IP Aj hz ht (S1:=S) (by simp[AX.d]),KA (by simp at h ⊢; lia)];simp[Gv,tQ]
  |Kc=>rw[IP Aj hz ht (S1:=S) (by simp[AX.d]),KA (by simp at h ⊢; lia)];simp[Gv,tQ]
end
def Wf(t:Tr):AX->Prop
 | .GX p k n=>p<t.p/\k<t.k/\1<=n/\n<2^131
 | .Mz a b=>a≠b
 | .swap _ g k n=>1<=g/\k<t.k/\1<=n/\n<2^131
 | .FQ u _ g k n=>1<=g/\k<t.k/\1<=n/\n<2^131/\0<=u/\u<=9
 | .G4 _ n=>1<=n
 | .thr _ n ws=>1<=n/\ws.length=t.k+1/\∀w∈ws,1<=w/\w<=99
 | .Kc p q x=>p≠q/\p<t.p/\q<t.p/\0<x.num/\x.num<=x.den/\x.den<=12
noncomputable def thB(st:Stt)(l:Nat)(n:Int):sx:=decide (l<st.AB.length) && decide (n<=(AM st.AB l).n)
noncomputable def swB(st:Stt)(l:Nat)(g:Int)(k:Nat):sx:=thB st l g && !((AM st.AB l).k==k)
noncomputable def QJ(st:Stt):AX->sx
 | .GX .. =>true
 | .Mz a b=>thB st a 1 && (thB st b 1 && ((AM st.AB a).k==(AM st.AB b).k))
 | .swap l g k _=>swB st l g k
 | .FQ u l g k _=> !(st.nums.any λx=>x==u) && swB st l g k
 | .G4 l n=>thB st l n
 | .thr l n _=>thB st l n
 | .Kc .. =>true
section
variable{S:Sto}{t:Tr}{st:Stt}
theorem nM{us:Wp Int}{u:Int}:(us.any λx=>x==u)=false↔u∉us:=by
 rw[List.any_eq_false]
 constructor
 .intro h z
  exact h u z (by simp)
 .intro h x hx z
  have:x=u:=by simpa using z
  exact h (this▸hx)
theorem eO{d:AX}(h:Can t st d):Wf t d/\QJ st d=true:=by
 cases d with
 |GX p k n=>exact⟨h,rfl⟩
 |Mz a b=>
  obtain⟨h1,h2,h3,h4,h5,h6⟩:=h
  refine⟨h1,?_⟩
  simp only[QJ,thB,sA,uj,vC]
  exact⟨⟨h2,by lia⟩,⟨h3,by lia⟩,h6⟩
 |swap l g k n=>
  obtain⟨h1,h2,h3,h4,h5,h6,h7⟩:=h
  refine⟨⟨h2,h4,h6,h7⟩,?_⟩
  simp only[QJ,swB,thB,sA,uj,yg,tO,ne_eq]
  exact⟨⟨h1,h3⟩,λz=>h5 z.symm⟩
 |FQ u l g k n=>
  obtain⟨h1,h2,h3,h4,h5,h6,h7,h8,h9,h10⟩:=h
  refine⟨⟨h2,h4,h6,h7,h9,h10⟩,?_⟩
  simp only[QJ,swB,thB,sA,uj,yg,tO,ne_eq]
  exact⟨nM.mpr h8,⟨h1,h3⟩,λz=>h5 z.symm⟩
 |G4 l n=>
  obtain⟨h1,h2,h3⟩:=h
  refine⟨h2,?_⟩
  simp only[QJ,thB,sA,uj]
  exact⟨h1,h3⟩
 |thr l n ws=>
  obtain⟨h1,h2,h3,h4⟩:=h
  refine⟨⟨h2,h4⟩,?_⟩
  simp only[QJ,thB,sA,uj]
  exact⟨h1,h3⟩
 |Kc p q x=>exact⟨h,rfl⟩
theorem NB{l:Nat}(h:l<st.AB.length):atI (st.AB.map hD) (l:Int)=Gc (hD (AM st.AB l)):=C9 (by rw[sY,Gi h];rfl)
theorem LR{l:Nat}{n:Int}:Be [CO st.AB,.int l,.int n] S=Gc (.bl (thB st l n),S):=by
 by_cases h:l<st.AB.length
 .have a:=NB h
  have h':(l:Int)<(st.AB.length:Int):=by lia
  have e:thB st l n=decide (n<=(AM st.AB l).n):=by simp[thB,h]
  rw[e]
  simp[Be,Fw,CO,h',a,hD]
 .have h':¬(l:Int)<(st.AB.length:Int):=by lia
  have e:thB st l n=false:=by simp[thB,h]
  rw[e]
  simp[Be,Fw,CO,h']
theorem Td{l:Nat}{n:Int}(h:thB st l n=true):l<st.AB.length:=by
 simp only[thB,sA,uj]at h
 exact h.1
theorem Sq{a b:Nat}:((a:Int)==(b:Int))=(a==b):=by
 rw[zM,vC,vC]
 exact Int.ofNat_inj
theorem RB{l k:Nat}{g:Int}:DM [CO st.AB,.int l,.int g,.int k] S=Gc (.bl (swB st l g k),S):=by
 have e:=LR (S:=S) (st:=st) (l:=l) (n:=g)
 unfold swB
 cases h:thB st l g with
 |false=>
  rw[h]at e
  generalize CO st.AB=HD at*
  simp[DM,HC,e]
 |true=>
  rw[h]at e
  have a:=NB (Td h)
  simp only[CO]at e⊢
  have nb:=Sq (a:=(AM st.AB l).k) (b:=k)
  generalize st.AB.map hD=HL at*
  simp[DM,HC,e,a,hD,nb]
theorem Xk{a b:Nat}:DF [CO st.AB,.int a,.int b] S=Gc (.bl (thB st a 1 && (thB st b 1 && ((AM st.AB a).k==(AM st.AB b).k))),S):=by
 have e1:=LR (S:=S) (st:=st) (l:=a) (n:=1)
 have e2:=LR (S:=S) (st:=st) (l:=b) (n:=1)
 cases h:thB st a 1 with
 |false=>
  rw[h]at e1
  generalize CO st.AB=HD at*
  simp[DF,Ff,e1]
 |true=>
  rw[h]at e1
  cases h2:thB st b 1 with
  |false=>
   rw[h2]at e2
   generalize CO st.AB=HD at*
   simp[DF,Ff,e1,e2]
  |true=>
   rw[h2]at e2
   have a1:=NB (Td h)
   have a2:=NB (Td h2)
   have nb:=Sq (a:=(AM st.AB a).k) (b:=(AM st.AB b).k)
   simp only[CO]at e1 e2⊢
   generalize st.AB.map hD=HL at*
   simp[DF,Ff,e1,e2,a1,a2,hD,nb]
theorem lP{ds:Wp AX}{d:AX}(hd:ds.length<=50)(hn:st.nums=ds.filterMap Gv):B4 [CO st.AB,.tup (ds.map AX.d),d.d] S=Gc (.bl (QJ st d),S):=by
 cases d with
 |GX p kd n=>simp[B4,DK,AX.d,QJ]
 |Mz i j=>
  have e:=Xk (S:=S) (st:=st) (a:=i) (b:=j)
  simp[B4,DK,AX.d,e,QJ]
 |swap i g kd n=>
  have e:=RB (S:=S) (st:=st) (l:=i) (g:=g) (k:=kd)
  simp[B4,DK,AX.d,e,QJ]
 |FQ u i g kd n=>
  have e:=RB (S:=S) (st:=st) (l:=i) (g:=g) (k:=kd)
  have tc:=KA (S:=S) (ds:=ds) (acc:=[]) (o:=none) (by simp;lia)
  rw[<-hn]at tc
  have fi:=OM (us:=st.nums)
  have ii:=QQ (us:=st.nums) (i:=u)
  have cb:QJ st (.FQ u i g kd n)=(!(st.nums.any λx=>x==u) && swB st i g kd):=rfl
  rw[cb]
  generalize st.nums.map D.int=ud at*
  generalize (st.nums.any λx=>x==u)=q at*
  rw[uC]at tc
  cases q<;>simp[B4,DK,AX.d,tc,fi,ii,e]
 |G4 i n=>
  have e:=LR (S:=S) (st:=st) (l:=i) (n:=n)
  simp[B4,DK,AX.d,e,QJ]
 |thr i n ws=>
  have e:=LR (S:=S) (st:=st) (l:=i) (n:=n)
  simp[B4,DK,AX.d,e,QJ]
 |Kc p q x=>simp[B4,DK,AX.d,QJ]
end
section
variable{S:Sto}{st:Stt}{t:Tr}{k:Nat}
theorem RQ{ls:Wp Ld}{x y:D}(hl:ls.length<=50):Cm [.tup [x,.tup (ls.map Ld.d),y]] S=Gc (CO ls,S):=by
 have e:=JS (gs:=[]) (t:=tNm 0) (f:=Az [eOp (o2 wIx) [eV 0,eC (.int 0)],eOp (o2 wIx) [eV 0,eC (.int 1)]]) (C:=[]) (m:=1) (e:=Ld.d) (g:=hD) (S:=S) Aj (xs:=ls) (acc:=[]) (os:=[none]) rfl (sI (show _<=50 by simp;lia) (AI (by decide))) (by
  intro x hx os ho
  obtain⟨q1,rfl⟩:=Ru ho
  refine⟨[Gc x.d],rfl,by simp,?_⟩
  simp[Ld.d,hD])
 simp only[uC]at e
 simp[Cm,F6,e,CO]
theorem L0{ls:Wp Ld}{ds:Wp AX}(h:CB t ls ds):DU [AO t ls ds] S=Gc (.non,S):=by
 have hl0:ls.length<=4:=h.inv.len
 have hd:=h.len
 obtain⟨E',S',ef,i,o1,o2,f1,f2,rfl,rfl⟩:=E7 (gs:=[]) (t:=tTp [tNm 3,tNm 4]) (b:=AV (xIf (Di (AF B4 [eV 1,eOp (JZ false true) [eV 2,eV 3],eV 4])) (Ah (eV 3)) Bo)
  (Bs 1 (AF As [eV 1,eV 4])))
  (I:=λrs E S'=>∃(i:Nat) (o1 o2:rW D),rs=(N2 0 (ds.map AX.d)).drop i/\i<=ds.length/\E=[Gc (AO t ls ds),Gc (CO (runs t (st0 t ls) (ds.take i)).AB),Gc (.tup (ds.map AX.d)),o1,o2]/\S'=S)
  (λ_ _ _ _=>Aj) (ds:=N2 0 (ds.map AX.d)) (E:=[Gc (AO t ls ds),Gc (CO ls),Gc (.tup (ds.map AX.d)),none,none]) (S:=S)
  ⟨0,none,none,by simp,vv _,by simp[runs,st0],rfl⟩ (by
    rintro dd rs E T ⟨i,o1,o2,i1,i2,rfl,rfl⟩
    have el:(N2 0 (ds.map AX.d)).length=ds.length:=by rw[OG];simp
    have hlt:i<ds.length:=by
     rcases Nat.lt_or_ge i ds.length with w|w
     .exact w
     .rw[xK (by lia)]at i1;cases i1
    rw[u7 (by lia)]at i1
    injection i1 with z1 z2
    have hd1:dd=.tup [.int i,ds[i].d]:=by
     have:=Kg (ds:=ds.map AX.d) (k:=0) (i:=i)
     rw[sF (by lia),<-z1,sY,sF hlt]at this
     simpa using this
    subst z2
    subst hd1
    have inv:=h.at i
    have il:(ds.take i).length<=20:=by simp;lia
    have can:=Kh h.good (sF hlt)
    have cd:=lP (S:=T) (st:=runs t (st0 t ls) (ds.take i)) (ds:=ds.take i) (d:=ds[i]) (by lia) UC
    rw[(eO can).2]at cd
    have e3:=Ue (S:=T) inv (by lia) can
    have rt:=U3 (t:=t) (st:=st0 t ls) (sF hlt)
    have ct:=NF (ds:=ds.map AX.d) (n:=i) (by simp;lia)
    rw[AAB]at cd
    refine⟨_,[Gc (AO t ls ds),Gc (CO (runs t (st0 t ls) (ds.take (i+1))).AB),Gc (.tup (ds.map AX.d)),Gc (.int i),Gc ds[i].d],T,by simp;rfl,?_,i+1,Gc (.int i),Gc ds[i].d,rfl,hlt,rfl,rfl⟩
    rw[rt]
    simp[ct,cd,e3])
 have fh:=RQ (S:=S') (ls:=ls) (x:=t.d) (y:=.tup (ds.map AX.d)) (by lia)
 simp only[AO]at ef⊢
 simp[DU,Hf,fh,ef]
theorem LN{ls:Wp Ld}{ds:Wp AX}(h:CB t ls ds):Al [AO t ls ds] S=Gc (.non,S):=by
 have e:=L0 (S:=S) h
 simp[Al,F8,e,isN]
end
theorem nv{n:Nat}:∀{ds:Wp D},(∀d∈ds,d.py.depth<=n)->zN (D.pys ds)<=n
 | [],_=>by simp[D.pys,zN]
 |d::ds,h=>by
  have h1:=h d sN
  have h2:=nv λe he=>h e (rg _ he)
  simp only[D.pys,zN]
  lia
theorem mV{n:Nat}{ds:Wp D}(h:∀d∈ds,d.py.depth<=n):(D.tup ds).py.depth<=n+1:=by
 have:=nv h
 simp only[D.py,PyData.depth]
 lia
theorem mq{i:Int}{n:Nat}:(D.int i).py.depth<=n+1:=by
 simp only[D.py,PyData.depth]
 lia
theorem TL{d:D}(h:d.lay=true)(g:d.py.depth<=60):KZ d d=true:=by
 unfold KZ
 rw[h]
 simp only[Bool.true_and,uj]
 lia
theorem Xy{d:D}(h:d.lay=true):deq d d=true:=PySem.SeqAt.eqv_refl _ (Jo h)
section
variable{S:Sto}
theorem bA{ns:Wp Int}{k:Nat}:∃c,Cj [.scr ns,.int k] S=Gc (.int c,S):=by
 by_cases h:k<ns.length
 .have h':(k:Int)<ns.length:=by lia
  refine⟨ns[k],?_⟩
  have e:atI (ns.map D.int) (k:Int)=Gc (.int ns[k]):=C9 (by rw[sY,sF h];rfl)
  simp[Cj,Gk,h,h',e]
 .have h':¬(k:Int)<ns.length:=by lia
  exact⟨0,by simp[Cj,Gk,h,h']⟩
end
section
variable{E:En}{S:Sto}{r r1 r2:Rx}{f:Ex}{k:Ev}{R:Rf}{fs:Wp Ev}{x:Str}
noncomputable def nxR(r2:Rx)(q:Fl×En×Sto):rW (Tg×En×Sto):=match q.1 with
 | .nx=>r2 q.2.1 q.2.2
 | .ret _=>none
theorem Ui:nxR r2 (.nx,E,S)=r2 E S:=nr rfl
theorem JT:Kw r f r2 E S=(r E S).or ((f E S).bind (nxR r2)):=by
 unfold Kw
 cases r E S with
 |some z=>exact nr rfl
 |none=>exact nr rfl
theorem Na:rNo E S=none:=nr rfl
noncomputable def ifR(r1 r2:Rx)(E:En)(q:D×Sto):rW (Tg×En×Sto):=match q.1 with
 | .bl true=>r1 E q.2
 | .bl false=>r2 E q.2
 |_=>none
theorem YD:ifR r1 r2 E (.bl true,S)=r1 E S:=nr rfl
theorem dP:ifR r1 r2 E (.bl false,S)=r2 E S:=nr rfl
theorem Lo:rIf k r1 r2 E S=(k E S).bind (ifR r1 r2 E):=nr rfl
theorem Ox:Pb R fs E S=(evs fs E S).bind λq=>(R q.1 q.2).map λz=>(z.1,E,z.2):=nr rfl
theorem Hl:HM x fs E S=(evs fs E S).map λq=>(⟨x,none⟩,E,q.2):=nr rfl
theorem cR{N:Nat}{ds:Wp D}:AW (Iy N r) ds S=(r (ds.map Gc++sH (N-ds.length) none) S).map λq=>(q.1,q.2.2):=by
 rw[IY];rfl
theorem Hk:B0 E S=none:=nr rfl
end
structure Up(t:Tr)(ls:Wp Ld)(ds:Wp AX)(i:Nat):Prop where
 tr:KI t
 inv:Gz t 0 (st0 t ls)
 len:ds.length<=21
 le:i<=ds.length
 good:Lx t (st0 t ls) (ds.take i)
 bad:∀d,ds[i]?=Gc d->QJ (runs t (st0 t ls) (ds.take i)) d=false
section
variable{S:Sto}{t:Tr}{ls:Wp Ld}{ds:Wp AX}{i j:Nat}
end
theorem Ok.add{G B C:Nat}{r q:Rat}(h:Ok G B r)(g:Ok G C q):Ok G (B+C) (r+q):=by
 obtain⟨z,e1,h1⟩:=h
 obtain⟨y,e2,h2⟩:=g
 refine⟨z+y,?_,Nat.add_le_add h1 h2⟩
 push_cast
 rw[<-e1,<-e2]
 grind
theorem Qc{F:Fn}(hF:∀{j k:Nat} {p q:Rat} (S:Sto),Sz j p->Sz k q->j+k<=7990->F [aD p,aD q] S=Gc (aD (p+q),S)){gs:Gd}{S:Sto}(hg:gOk gs S){X:rW D}{G B K:Nat}(hG:0<G)(gK:G<2^K)(hK:2*K<=7990):∀{rs:Wp Rat} {acc:Rat} {m:Nat} {o:rW D},Ok G (m*B) acc->(∀r∈rs,Ok G B r)->(m+rs.length)*B<2^K->∃o',MD gs (tNm 2) (Bs 1 (AF F [eV 1,eV 2])) (rs.map aD) [X,Gc (aD acc),o] S=Gc (.nx,[X,Gc (aD (acc+rs.sum)),o'],S)
 | [],acc,m,o,ha,hr,hb=>⟨o,by
     rw[vQ,Kn hg,List.sum_nil]
     have:acc+0=acc:=by grind
     rw[this]⟩
 |r::rs,acc,m,o,ha,hr,hb=>by
  have h1:=hr r sN
  have b1:(m+1)*B<=(m+(r::rs).length)*B:=uQ _ (by simp)
  have mb:(m+1)*B=m*B+B:=by rw[Nat.succ_mul]
  have za:Sz K acc:=ha.sz hG gK (by lia)
  have zr:Sz K r:=h1.sz hG gK (by lia)
  have e:=hF S za zr (by lia)
  have ha2:Ok G ((m+1)*B) (acc+r):=by rw[mb];exact ha.add h1
  obtain⟨o',ih⟩:=Qc hF hg hG gK hK (X:=X) (B:=B) (rs:=rs) (acc:=acc+r) (m:=m+1) (o:=Gc (aD r)) ha2 (λq hq=>hr q (rg _ hq)) (by
   have:m+1+rs.length=m+(r::rs).length:=by simp;lia
   rw[this];exact hb)
  refine⟨o',?_⟩
  have ea:acc+(r::rs).sum=acc+r+rs.sum:=by rw[vH];grind
  rw[sV,Ho hg,ea,<-ih]
  simp[e]
theorem cM:aD 0=.tup [.int 0,.int 1]:=rfl
theorem Ok.nn{G B:Nat}{r:Rat}(h:Ok G B r)(hG:0<G):0<=r:=by
 obtain⟨z,e,_⟩:=h
 have g:(0:Rat)<(G:Rat):=by exact_mod_cast hG
 have hz:(0:Rat)<=(z:Rat):=by exact_mod_cast vv z
 rcases(Rat.le_total:0<=r\/r<=0)with w|w
 .exact w
 .have:=xY w (Rat.le_of_lt g)
  rw[e,Rat.zero_mul]at this
  have z0:(z:Rat)=0:=Rat.le_antisymm this hz
  rw[z0]at e
  rcases Rat.mul_eq_zero.mp e with e|e
  .rw[e];exact Rat.le_refl
  .rw[e]at g;exact absurd g (by decide)
theorem YO:∀{rs:Wp Rat},(∀r∈rs,0<=r)->0<=rs.sum
 | [],_=>by rw[List.sum_nil];exact Rat.le_refl
 |r::rs,h=>by
  rw[vH]
  have h1:=h r sN
  have h2:=YO λq hq=>h q (rg _ hq)
  grind
theorem YN:∀{rs:Wp Rat} {x:Rat},(∀r∈rs,0<=r)->x∈rs->x<=rs.sum
 |r::rs,x,h,hx=>by
  rw[vH]
  have h1:=h r sN
  have h2:=YO λq hq=>h q (rg _ hq)
  rcases rZ.mp hx with e|e
  .rw[e];grind
  .have:=YN (λq hq=>h q (rg _ hq)) e
   grind
theorem ff{r:Rat}(h:r<=1):r.num<=r.den:=by
 have e:=EY r
 have d:(0:Rat)<(r.den:Rat):=by exact_mod_cast r.den_pos
 have h1:(r.num:Rat)<=(r.den:Rat):=by
  have:(r.num:Rat)=r*(r.den:Rat):=by
   have:=KQ r
   grind
  rw[this]
  have:=xY h (Rat.le_of_lt d)
  rwa [Rat.one_mul]at this
 exact_mod_cast h1
section
variable{S:Sto}
theorem XJ{rs:Wp Rat}{G B K:Nat}(hG:0<G)(gK:G<2^K)(hK:2*K<=7990)(hr:∀r∈rs,Ok G B r)(hb:rs.length*B<2^K):FC [shD rs] S=Gc (aD rs.sum,S):=by
 obtain⟨o',e⟩:=Qc (F:=Fb) (λS h1 h2 h3=>lX h1 h2 h3) (gs:=[]) (S:=S) Aj (X:=Gc (shD rs)) (B:=B) hG gK hK (rs:=rs) (acc:=0) (m:=0) (o:=none) (by rw[Nat.zero_mul];exact Ok.zero) hr (by simpa using hb)
 have ez:(0:Rat)+rs.sum=rs.sum:=by grind
 rw[ez,cM]at e
 simp[FC,Lm,Hc,shD]at e⊢
 simp[e]
theorem hO{oa ob oc:Ev}{E:En}{i j k:Int}{S1 S2:Sto}(e1:evs [oa,ob] E S=Gc ([.int i,.int j],S1))(h:i<=j)(e2:oc E S1=Gc (.int k,S2)):Ni oa ob oc E S=Gc (.bl (decide (j<=k)),S2):=by
 unfold Ni
 rw[e1]
 show(if i<=j then _ else _)=_
 rw[sZ h,e2]
 rfl
theorem Of{i:Int}:CD [.int i] S=Gc (.bl true,S):=by
 have k1:St.Kd.int.isA "int"=true:=by decide
 have k2:St.Kd.int.isA "bool"=false:=by decide
 simp[k1,k2,CD,Fj,kdW]
theorem Nx{i j:Int}:Bm [.int i,.int j] S=Gc (.bl (decide (j<=i)),S):=by
 have e:=Of (S:=S) (i:=i)
 simp[Bm,Gf,e]
theorem within_int{i j k:Int}:AQ [.int i,.int j,.int k] S=Gc (.bl (decide (j<=i) && decide (i<=k)),S):=by
 have e:=Nx (S:=S) (i:=i) (j:=j)
 by_cases h:j<=i
 .simp[AQ,DR,e,h]
 .simp[AQ,DR,e,h]
theorem Vo{r:Rat}(h0:0<=r)(h1:r<=1):BJ [aD r] S=Gc (.bl true,S):=by
 have g:=UO (S:=S) r.num r.den
 have ge:JY r.num r.den=1:=by
  have:=r.reduced
  unfold Nat.Coprime at this
  simp[JY,this]
 rw[ge]at g
 have n0:0<=r.num:=Rat.num_nonneg.mpr h0
 have n1:=ff h1
 have d1:(1:Int)<=r.den:=by have:=r.den_pos;omega
 have w:=Of (S:=S) (i:=r.num)
 have f:=Nx (S:=S) (i:=r.den) (j:=1)
 have k3:St.Kd.tup.isA "tuple"=true:=by decide
 have am:Bq [aD r] S=Gc (.bl true,S):=by
  simp[Bq,DY,aD,kdW,k3,w,f,d1,g]
 have ll:Ni (eC (.int 0)) (eOp (o2 wIx) [eV 0,eC (.int 0)]) (eOp (o2 wIx) [eV 0,eC (.int 1)]) [Gc (aD r)] S=Gc (.bl true,S):=by
  rw[hO (i:=0) (j:=r.num) (k:=r.den) (S1:=S) (S2:=S) (by simp[aD]) n0 (by simp[aD])]
  simp[n1]
 simp[BJ,FW,am,ll]
theorem mI{α:Type}{f:Ev}{e:α->D}{C:En}{os:En}{xs:Wp α}{gs:Gd}{t:Tf}(hg:gOk gs S)(hz:xs.length<=1000){m:Nat}(hm:os.length=m)(h:∀x∈xs,∀os:En,os.length=m->∃us:En,us.length=m/\t (e x) (C++os) S=Gc (C++us)/\f (C++us) S=Gc (.bl true,S)):∃r,Bp gs t C1 f (xs.map e) [] (C++os) S=Gc (r,S)/\(bls r).map (λbs=>bs.all id)=Gc true:=by
 have:=JS (gs:=gs) (t:=t) (f:=f) (C:=C) (m:=m) (e:=e) (g:=λ_=>D.bl true) (S:=S) hg (xs:=xs) (acc:=[]) (os:=os) hm (AI (by simpa using hz)) h
 refine⟨_,this,?_⟩
 rw[uC,Lu (λ_=>true)]
 simp
theorem Oz{rs:Wp Rat}{P:Nat}{G B K:Nat}(hp:rs.length=P)(h4:P<=4)(hG:0<G)(gK:G<2^K)(hK:2*K<=7990)(hr:∀r∈rs,Ok G B r)(hb:4*B<2^K)(hs:rs.sum=1):A9 [.int P,shD rs] S=Gc (.bl true,S):=by
 have nn:∀r∈rs,0<=r:=λr hr'=>(hr r hr').nn hG
 have le1:∀r∈rs,r<=1:=λr hr'=>by rw[<-hs];exact YN nn hr'
 have k3:St.Kd.tup.isA "tuple"=true:=by decide
 have T:=XJ (S:=S) hG gK hK hr (su (uQ _ (by omega)) hb)
 rw[hs,Y8]at T
 obtain⟨bs,e1,e2⟩:=mI (S:=S) (f:=AF BJ [eV 0]) (e:=aD) (C:=[]) (os:=[none]) (xs:=rs) (gs:=[]) (t:=tNm 0) Aj (by omega) rfl (by
  intro r hr' os ho
  match os,ho with
  | [a],_=>
  refine⟨[Gc (aD r)],rfl,by simp,?_⟩
  have:=Vo (S:=S) (nn r hr') (le1 r hr')
  simp[this])
 have T2:FC [D.tup (rs.map aD)] S=Gc (.tup [.int 1,.int 1],S):=T
 have it:Ad [shD rs,.int P] S=Gc (.bl true,S):=by
  simp[Ad,B8,shD,kdW,k3,hp]
 have hE:KZ (.tup [.int 1,.int 1]) N9=true:=rfl
 have hD:deq (.tup [.int 1,.int 1]) N9=true:=rfl
 simp only[uC]at e1
 obtain⟨b',e3,e4⟩:=vy.mp e2
 have hk:dr S N9=.val N9:=rfl
 simp[A9,CQ,it]
 simp[shD,RG,e1,e3,e4,T2,hk,hE,hD]
theorem SM{t:Tr}{x:Ld}{G B K:Nat}(ht:KI t)(h1:x.k<t.k)(h2:0<=x.n)(hp:x.ow.length=t.p)(hG:0<G)(gK:G<2^K)(hK:2*K<=7990)(hr:∀r∈x.ow,Ok G B r)(hb:4*B<2^K)(hs:x.ow.sum=1):BU [t.d,x.d] S=Gc (.bl true,S):=by
 have O:=Oz (S:=S) hp ht.2.1 hG gK hK hr hb hs
 have k3:St.Kd.tup.isA "tuple"=true:=by decide
 have it:Ad [x.d,.int 3] S=Gc (.bl true,S):=by
  simp[Ad,B8,Ld.d,kdW,k3]
 have w:=within_int (S:=S) (i:=x.k) (j:=0) (k:=(t.k:Int)-1)
 have w1:(x.k:Int)<=(t.k:Int)-1:=by omega
 have f:=Nx (S:=S) (i:=x.n) (j:=0)
 have ik:Cd [t.d,.int x.k] S=Gc (.bl true,S):=by
  simp[Cd,IZ,Tr.d,w,w1]
 simp[BU,Ey,it]
 generalize hsd:shD x.ow=sd at*
 have:x.d=.tup [.int x.k,.int x.n,sd]:=by rw[<-hsd];rfl
 rw[this]
 simp[ik,f,h2]
 simp[Tr.d,O]
end
section
variable{S:Sto}{E:En}{C f m:Str}{o v:Ev}{fs:Wp Ev}{F:Fn}{R:Rf}
@[simp] theorem jv:N1 C f o E S=(o E S).bind λr=>(Jy r.2 C r.1).bind λas=>(as.lookup f).map λd=>(d,r.2):=nr rfl
@[simp] theorem fA:GU C m F o fs E S=(o E S).bind λr=>(Jy r.2 C r.1).bind λas=>if(as.lookup m).isNone=true then(evs fs E r.2).bind λq=>F (r.1::q.1) q.2 else none:=nr rfl
theorem O3:Nu C m R o fs E S=(o E S).bind λr=>(Jy r.2 C r.1).bind λas=>if(as.lookup m).isNone=true then(evs fs E r.2).bind λq=>(R (r.1::q.1) q.2).map λz=>(z.1,E,z.2)else none:=nr rfl
theorem Pd{n:Nat}{d:D}{as:Wp (Str×D)}{S1 S2:Sto}(e1:v E S=Gc (d,S1))(e2:o E S1=Gc (.ref n,S2))(e3:S2[n]?=Gc (.ins C as))(hl:as.length<1000):Xd C f o v E S=Gc (.nx,E,S2.set n (.ins C (Lb f d as))):=by
 unfold Xd
 rw[e1,BP,e2,BP,Qk e3,BP]
 exact sZ hl
end
noncomputable def lds(b:D)(q:Nat):Wp (Str×D):=[("kept",b),("earlier",.ref q)]
@[simp] theorem qi{b:D}{q:Nat}:(lds b q).lookup (Str.ofString "kept")=some b:=nr rfl
@[simp] theorem pE{b:D}{q:Nat}:(lds b q).lookup (Str.ofString "earlier")=some (.ref q):=nr rfl
noncomputable def lead(b:D)(q:Nat):Cl:=.ins "Leader" (lds b q)
structure LAt(S:Sto)(L q:Nat)(b:D)(m:Nat):Prop where
 ob:S[L]?=Gc (lead b q)
 er:∃es,S[q]?=Gc (.lst es)/\es.length<=m
section
variable{S S':Sto}{L q m:Nat}{b b':D}
theorem LAt.ne(h:LAt S L q b m):q≠L:=λz=>by
 obtain⟨es,e,_⟩:=h.er
 rw[z,h.ob]at e
 cases e
theorem LAt.ins(h:LAt S L q b m):Jy S "Leader" (.ref L)=Gc (lds b q):=Qk h.ob
theorem LAt.kept(h:LAt S L q b m){E:En}{i:Nat}(e:at? E i=Gc (.ref L)):N1 "Leader" "kept" (eV i) E S=Gc (b,S):=by
 simp[eV,e,h.ins]
theorem Zv(h:LAt S L q b m)(hm:m<1000):∃S',BD [.ref L,b'] S=Gc (.non,S')/\LAt S' L q b' (m+1)/\Ed [L,q] S S':=by
 obtain⟨es,e,l⟩:=h.er
 have ne:=h.ne
 have hq:=Am e
 have hL:=Am h.ob
 have i1:=h.ins
 have c1:=AR e
 have sz:es.length<sizeLine:=su l (rz hm (AI (by decide)))
 have o1:(S.set q (.lst (es++[b])))[L]?=Gc (lead b q):=by rw[rm ne];exact h.ob
 have x:=Pd (d:=b') (n:=L) (f:="kept") (E:=[Gc (D.ref L),Gc b']) (o:=eV 0) (v:=eV 1) (S:=S.set q (.lst (es++[b]))) (C:="Leader") (S1:=S.set q (.lst (es++[b]))) (S2:=S.set q (.lst (es++[b]))) (by simp) (by simp) o1 (by simp[lds])
 refine⟨(S.set q (.lst (es++[b]))).set L (lead b' q),?_,⟨sP (by simpa using hL),es++[b],?_,by simp;exact l⟩,(Ed.set (by simp)).trans (.set (by simp))⟩
 .generalize hz:Xd "Leader" "kept" (eV 0) (eV 1)=Z at x
  have eb:Fd=(AV (CM (Nz Ou (N1 "Leader" "earlier" (eV 0)) [N1 "Leader" "kept" (eV 0)])) Z):=by rw[<-hz];rfl
  have x':Z [Gc (D.ref L),Gc b'] (S.set q (.lst (es++[b])))=Gc (.nx,[Gc (D.ref L),Gc b'],(S.set q (.lst (es++[b]))).set L (lead b' q)):=x
  simp[BD,eb,i1,c1,sz,x']
 .rw[rm ne.symm]
  exact sP (by simpa using hq)
theorem Zi(h:LAt S L q b m):Cb [.ref L] S=Gc (b,S):=by
 have e:=h.kept (E:=[Gc (.ref L)]) (i:=0) rfl
 generalize hz:N1 "Leader" "kept" (eV 0)=Z at e
 have eb:HA=Ah Z:=by rw[<-hz];rfl
 simp[Cb,eb,e]
end
section
variable{S:Sto}{t:Tr}{st:Stt}{d:AX}{ls:Wp Ld}{ds:Wp AX}
noncomputable def makes:AX->sx
 | .GX _ _ _=>true
 | .Mz _ _=>true
 | .swap _ _ _ _=>true
 | .FQ _ _ _ _ _=>true
 | .G4 _ _=>false
 | .thr _ _ _=>false
 | .Kc _ _ _=>false
noncomputable def wordOf:AX->Str
 | .GX _ _ _=>"bring"
 | .Mz _ _=>"pool"
 | .swap _ _ _ _=>"swap"
 | .FQ _ _ _ _ _=>"trade"
 | .G4 _ _=>"spoil"
 | .thr _ _ _=>"throw"
 | .Kc _ _ _=>"sell"
theorem Sk(d:AX):∃r,d.d=.tup (.str (wordOf d)::r):=by
 cases d<;>exact⟨_,rfl⟩
theorem UJ:wIn true (.val (.str (wordOf d))) (.val Cy)=Gc (.val (.bl (!makes d))):=by
 cases d<;>exact nr rfl
theorem Rw:wIn false (.val (.str (wordOf d))) (.val Cy)=Gc (.val (.bl (makes d))):=by
 cases d<;>exact nr rfl
noncomputable def cnt(ls:Wp Ld)(ds:Wp AX):Int:=(ls.length:Int)+((ds.filter makes).length:Int)
theorem Z3{m:Nat}(hm:ds[m]?=Gc d):atI (ds.map AX.d) (m:Int)=Gc d.d:=C9 (by rw[sY,hm];rfl)
theorem kh{os:En}{X:D}(hX:∀{d:AX},wIn false (.val (.str (wordOf d))) (dr S X)=Gc (.val (.bl (makes d))))(ho:os.length=1){xs:Wp AX}(hl:xs.length<=100){f:Ev}(hf:∀E,f E S=Gc (X,S)):Bp [] (tNm 0) (eOp (o2 (wIn false)) [eIx (eV 0) (eI 0),f]) (eV 0) (xs.map AX.d) [] os S=Gc ((xs.filter makes).map AX.d,S):=by
 have:=D7 (gs:=[]) (t:=tNm 0) (c:=eOp (o2 (wIn false)) [eIx (eV 0) (eI 0),f]) (f:=eV 0) (C:=[]) (m:=1) (e:=AX.d) (g:=AX.d) (b:=makes) (S:=S) Aj (xs:=xs) (acc:=[]) (os:=os) ho (AI (by simp;lia)) (by
  intro x hx os ho
  obtain⟨a,rfl⟩:=Ru ho
  obtain⟨r,e⟩:=Sk x
  refine⟨[Gc x.d],rfl,by simp,?_,by simp⟩
  rw[e]
  have h1:=hX (d:=x)
  simp[hf,h1])
 simpa using this
theorem XC{m:Nat}(h:m<ds.length):DC [AO t ls ds,.int m] S=Gc (.bl true,S):=by
 have w:=within_int (S:=S) (i:=m) (j:=0) (k:=(ds.length:Int)-1)
 have w2:(m:Int)<=(ds.length:Int)-1:=by lia
 simp[DC,J7,AO,w,w2]
theorem Pq{m:Nat}(h:CB t ls ds)(hm:ds[m]?=Gc d):Du [AO t ls ds,.int m] S=Gc (if makes d=true then .int (cnt ls (ds.take m))else .non,S):=by
 have hlt:=(r9.mp hm).1
 have hl:=h.len
 have r1:=LN (S:=S) h
 have pl:=XC (S:=S) (t:=t) (ls:=ls) hlt
 have a:=Z3 hm
 obtain⟨r,e⟩:=Sk d
 rw[e]at a
 have hk:dr S Cy=.val Cy:=rfl
 have im:=UJ (d:=d)
 cases hmk:makes d with
 |false=>
  rw[hmk]at im
  simp[Du,IM,r1,pl]
  simp[AO,a,hk,im]
 |true=>
  rw[hmk]at im
  have c:=kh (S:=S) (X:=Cy) (os:=[none]) (by rw[hk];exact Rw) rfl (xs:=ds.take m) (by simp;lia) (f:=eC Cy) (λ_=>rfl)
  have sl:wSl none (Gc (m:Int)) (.val (.tup (ds.map AX.d)))=Gc (.val (.tup ((ds.take m).map AX.d))):=by
   show Gc (Wv.val (.tup (ID _ _ _)))=_
   rw[NF (by simp;lia),AAB]
  have ml:Cq [AO t ls ds,.int m] S=Gc (.int (cnt ls (ds.take m)),S):=by
   rw[AAB]at c sl
   simp[Cq,IB,AO,sl,c,cnt]
  have ml2:Cq [.tup [t.d,.tup (ls.map Ld.d),.tup (ds.map AX.d)],.int m] S=Gc (.int (cnt ls (ds.take m)),S):=ml
  simp[Du,IM,r1,pl,ml]
  simp[AO,a,hk,im,ml2]
noncomputable def VE(ds:Wp AX):Nat:=(ds.filter Fx).length
theorem ZU{os:En}(ho:os.length=1)(hl:ds.length<=50):Bp [] (tNm 0) (eOp (o2 wEq) [eIx (eV 0) (eI 0),eC (.str "throw")]) (eV 0) (ds.map AX.d) [] os S=Gc ((ds.filter Fx).map AX.d,S):=by
 have:=D7 (gs:=[]) (t:=tNm 0) (c:=eOp (o2 wEq) [eIx (eV 0) (eI 0),eC (.str "throw")]) (f:=eV 0) (C:=[]) (m:=1) (e:=AX.d) (g:=AX.d) (b:=Fx) (S:=S) Aj (xs:=ds) (acc:=[]) (os:=os) ho (AI (by simp;lia)) (by
  intro x hx os ho
  obtain⟨a,rfl⟩:=Ru ho
  exact⟨[Gc x.d],rfl,by simp,Qr x _ rfl,by simp⟩)
 simpa using this
theorem Ow(hw:∀d∈ds,AK [t.d,d.d] S=Gc (.bl true,S))(hl:ds.length<=50):BH [t.d,.tup (ds.map AX.d)] S=Gc (.bl (decide (ds.length<=20) && decide (VE ds<=3)),S):=by
 have k3:St.Kd.tup.isA "tuple"=true:=by decide
 have d1:dr S FY=.val (.int 20):=rfl
 have d2:dr S Ef=.val (.int 3):=rfl
 by_cases c:ds.length<=20
 .obtain⟨bs,e1,e2⟩:=mI (S:=S) (f:=AF AK [eV 0,eV 1]) (e:=AX.d) (C:=[Gc t.d]) (os:=[none]) (xs:=ds) (gs:=[]) (t:=tNm 1) Aj (by lia) rfl (by
   intro x hx os ho
   obtain⟨a,rfl⟩:=Ru ho
   have e:=hw x hx
   exact⟨[Gc x.d],rfl,by simp,by simp[e]⟩)
  obtain⟨b',e3,e4⟩:=vy.mp e2
  have tc:=ZU (S:=S) (os:=[none]) rfl hl
  have c1:¬(20:Int)<ds.length:=by lia
  have c2:decide ((((ds.filter Fx).length:Nat):Int)<=3)=decide (VE ds<=3):=by
   unfold VE
   rw[zM];simp;lia
  generalize t.d=T at*
  simp[BH,Ge,kdW,k3,d1,d2,c,c1,RG]
  try simp only[ua,uC]at e1
  simp[e1,e3,e4,tc,d2,c2]
 .have c1:(20:Int)<ds.length:=by lia
  generalize t.d=T
  simp[BH,Ge,kdW,k3,d1,d2,c,c1]
end
end Mi
namespace Mi
open PySem PySem.Spec L2
section
variable{S:Sto}{t:Tr}{d:AX}{ls:Wp Ld}{ds:Wp AX}{L q m:Nat}
theorem take_snoc:(ds++[d]).take ds.length=ds:=by simp
def bkE:Ev:=Az [eV 2,eV 3,eOp (o2 CP) [eV 4,Az [eV 1]]]
def doB(Z:Ev):Ex:=(AV (xIf (Di (AF AK [eV 2,eV 1])) B0 Bo)
    (AV (Bs 5 Z)
    (AV (CM (AF Al [eV 5]))
    (AV (xIf (Di (AF BH [eV 2,eIx (eV 5) (eI 2)])) B0 Bo)
    (AV (CM (GU "Leader" "turn_to" BD (eV 0) [eV 5]))
    (Ah (AF Du [eV 5,eOp (o1 F2) [eV 4]])))))))
def doR(Z:Ev):Rx:=(Kw (rIf (Di (AF AK [eV 2,eV 1])) (HM "NoDeed" [eC (.str "this is no deed of the train")]) rNo) (xIf (Di (AF AK [eV 2,eV 1])) B0 Bo)
    (Kw rNo (Bs 5 Z)
    (Kw rNo (CM (AF Al [eV 5]))
    (Kw (rIf (Di (AF BH [eV 2,eIx (eV 5) (eI 2)])) (HM "TooMany" [eC (.str "a book hasn't so many deeds or throws")]) rNo) (xIf (Di (AF BH [eV 2,eIx (eV 5) (eI 2)])) B0 Bo)
    (Kw rNo (CM (GU "Leader" "turn_to" BD (eV 0) [eV 5]))
    (Pb IQ [eV 5,eOp (o1 F2) [eV 4]]))))))
theorem Uz(h:LAt S L q (AO t ls ds) m){o:rW D}:(Mj (tTp [tNm 2,tNm 3,tNm 4]) (N1 "Leader" "kept" (eV 0))) [Gc (.ref L),o,none,none,none,none] S=Gc (.nx,[Gc (.ref L),o,Gc t.d,Gc (.tup (ls.map Ld.d)),Gc (.tup (ds.map AX.d)),none],S):=by
 simp[h.ins,AO]
theorem Yp(h:LAt S L q (AO t ls ds) m){X:D}:BI [.ref L,X] S=(doB bkE [Gc (.ref L),Gc X,Gc t.d,Gc (.tup (ls.map Ld.d)),Gc (.tup (ds.map AX.d)),none] S).map (λr=>(flD r.1,r.2.2))/\CG [.ref L,X] S=(doR bkE [Gc (.ref L),Gc X,Gc t.d,Gc (.tup (ls.map Ld.d)),Gc (.tup (ds.map AX.d)),none] S).map λr=>(r.1,r.2.2):=by
 have u:=λo=>Uz h (o:=o)
 constructor
 .generalize hz:(Mj (tTp [tNm 2,tNm 3,tNm 4]) (N1 "Leader" "kept" (eV 0)))=Z at u
  have eb:JC=AV Z (doB bkE):=by rw[<-hz];rfl
  generalize doB bkE=B at*
  simp[BI,eb,u]
 .generalize hz:(Mj (tTp [tNm 2,tNm 3,tNm 4]) (N1 "Leader" "kept" (eV 0)))=Z at u
  have eb:JJ=Kw rNo Z (doR bkE):=by rw[<-hz];rfl
  generalize doR bkE=B at*
  simp[CG,eb,cR,JT,Na,u,Ui]
end
section
variable{E:En}{S:Sto}{f g k o:Ev}{d:D}{es:Wp (Key×D)}
@[simp] theorem km:evP [] E S=some ([],S):=nr rfl
@[simp] theorem jW{r:List (Ev×Ev)}:evP ((k,f)::r) E S=(k E S).bind λa=>(jX a.1).bind λkk=>(f E a.2).bind λb=>(evP r E b.2).map λq=>((kk,b.1)::q.1,q.2):=nr rfl
@[simp] theorem jQ{x:Str}:jX (.str x)=some (.inr x):=nr rfl
@[simp] theorem fB{cf:Bool}{fs:List (Ev×Ev)}:Vb cf fs E S=(evP fs E S).map λr=>W7 cf (MN [] r.1) r.2:=nr rfl
@[simp] theorem oK:W7 false es S=(.dct es,S):=nr rfl
end
section
variable{S:Sto}
inductive Tq:D->Prop
 |non:Tq .non
 |bl (b:sx):Tq (.bl b)
 |int {i:Int} (h:i.natAbs<2^160):Tq (.int i)
 |str (x:Str):Tq (.str x)
 |tup {ds:Wp D} (h:∀d∈ds,Tq d) (l:ds.length<=1000):Tq (.tup ds)
 |lst {ds:Wp D} (h:∀d∈ds,Tq d) (l:ds.length<=1000):Tq (.lst ds)
 |dct (kvs:Wp (Key×D)):Tq (.dct kvs)
noncomputable def cg:D->sx
 | .int _=>true
 |_=>false
noncomputable def Ag(lo:Int):D->sx
 | .int i=>decide (lo<=i)
 |_=>false
noncomputable def AJ(lo hi:Int):D->sx
 | .int i=>decide (lo<=i) && decide (i<=hi)
 |_=>false
section
variable{d:D}
@[simp] theorem mO:kdW (.val .non)=some .non:=nr rfl
@[simp] theorem oJ{b:Bool}:kdW (.val (.bl b))=some .bl:=nr rfl
@[simp] theorem lu{i:Int}:kdW (.val (.int i))=some .int:=nr rfl
@[simp] theorem kz{x:Str}:kdW (.val (.str x))=some .str:=nr rfl
@[simp] theorem lh{ds:List D}:kdW (.val (.tup ds))=some .tup:=nr rfl
@[simp] theorem my{ds:List D}:kdW (.val (.lst ds))=some .lst:=nr rfl
@[simp] theorem lB{ds:List (Key×D)}:kdW (.val (.dct ds))=some .dct:=nr rfl
theorem Tq.kd(h:Tq d):(∃ds,(∀x∈ds,Tq x)/\ds.length<=1000/\d=.tup ds)\/((∃kk,kdW (.val d)=Gc kk/\St.Kd.isA kk "tuple"=false)/\dr S d=.val d/\∀ds,d≠.tup ds):=by
 cases h with
 | @tup ds h l=>exact .inl ⟨ds,h,l,rfl⟩
 |_=>exact .inr ⟨⟨_,rfl,rfl⟩,rfl,λ_ z=>nomatch z⟩
theorem Tq.ks(h:Tq d)(hx:∀w,d≠.str w):∃kk,kdW (.val d)=Gc kk/\St.Kd.isA kk "str"=false/\dr S d=.val d:=by
 cases h with
 |str x=>exact absurd rfl (hx x)
 |_=>exact⟨_,rfl,rfl,rfl⟩
theorem Yu:St.Kd.isA .tup "tuple"=true:=rfl
theorem Tq.ki(h:Tq d):(∃i:Int,i.natAbs<2^160/\d=.int i)\/(∃kk,kdW (.val d)=Gc kk/\(St.Kd.isA kk "int" && !St.Kd.isA kk "bool")=false/\dr S d=.val d/\∀i,d≠.int i):=by
 cases h with
 | @int i h=>exact .inl ⟨i,h,rfl⟩
 |_=>exact .inr ⟨_,rfl,rfl,rfl,λ_ z=>nomatch z⟩
theorem ia:St.Kd.isA .int "int"=true:=rfl
theorem ak:St.Kd.isA .int "bool"=false:=rfl
theorem Oi(h:Tq d):CD [d] S=Gc ((.bl (cg d)),S):=by
 rcases h.ki (S:=S)with⟨i,hi,rfl⟩|⟨kk,q1,q2,q3,q4⟩
 .simp[CD,Fj,ia,ak,cg]
 .have z:cg d=false:=by cases d<;>first|rfl|exact absurd rfl (q4 _)
  cases b1:St.Kd.isA kk "int" <;>simp[b1]at q2<;>simp[CD,Fj,q1,q3,b1,q2,z]
theorem Iw(h:Tq d)(lo:Int):Bm [d,.int lo] S=Gc ((.bl (Ag lo d)),S):=by
 have w:=Oi (S:=S) h
 rcases h.ki (S:=S)with⟨i,hi,rfl⟩|⟨kk,q1,q2,q3,q4⟩
 .simp[Bm,Gf,w,cg,Ag]
 .have z:cg d=false:=by cases d<;>first|rfl|exact absurd rfl (q4 _)
  have z2:Ag lo d=false:=by cases d<;>first|rfl|exact absurd rfl (q4 _)
  simp[Bm,Gf,w,z,z2]
theorem Ck(h:Tq d)(lo hi:Int):AQ [d,.int lo,.int hi] S=Gc ((.bl (AJ lo hi d)),S):=by
 have w:=Iw (S:=S) h lo
 rcases h.ki (S:=S)with⟨i,hi,rfl⟩|⟨kk,q1,q2,q3,q4⟩
 .by_cases c:lo<=i<;>simp[AQ,DR,w,Ag,AJ,c]
 .have z:AJ lo hi d=false:=by cases d<;>first|rfl|exact absurd rfl (q4 _)
  have z2:Ag lo d=false:=by cases d<;>first|rfl|exact absurd rfl (q4 _)
  simp[AQ,DR,w,z,z2]
noncomputable def B6(n:Int):D->sx
 | .tup ds=>decide ((ds.length:Int)=n)
 |_=>false
theorem Gs(h:Tq d)(n:Int):Ad [d,.int n] S=Gc ((.bl (B6 n d)),S):=by
 rcases h.kd (S:=S)with⟨ds,g,l,rfl⟩|⟨⟨kk,q1,q2⟩,q3,q4⟩
 .simp[Ad,B8,Yu,B6]
  rfl
 .have z:B6 n d=false:=by cases d<;>first|rfl|exact absurd rfl (q4 _)
  simp[Ad,B8,q1,q2,q3,z]
noncomputable def Ig:D->sx
 | .tup [.int t,.int b]=>decide (1<=b) && decide (JY t b=1)
 |_=>false
noncomputable def B3:D->sx
 | .tup [.int t,.int b]=>decide (1<=b) && decide (JY t b=1) && (decide (0<=t) && decide (t<=b))
 |_=>false
theorem RM(h:Tq d):Bq [d] S=Gc ((.bl (Ig d)),S):=by
 rcases h.kd (S:=S)with⟨ds,g,l,rfl⟩|⟨⟨kk,q1,q2⟩,q3,q4⟩
 .replace h:=g
  by_cases hl:ds.length=2
  .match ds,hl,h with
   | [x,y],_,h=>
     have hx:=h x (by simp)
     have hy:=h y (by simp)
     have w1:=Oi (S:=S) hx
     have w2:=Iw (S:=S) hy 1
     simp[Bq,DY,St.Kd.isA,w1]
     cases c1:cg x with
     |false=>
      have z:Ig (.tup [x,y])=false:=by cases x<;>first|rfl|(cases c1)
      simp[z]
     |true=>
      obtain⟨i,rfl⟩:∃i,x=.int i:=by cases x<;>first|exact⟨_,rfl⟩|cases c1
      simp[w2]
      cases c2:Ag 1 y with
      |false=>
       have z:Ig (.tup [.int i,y])=false:=by
        cases y<;>first|rfl|skip
        rename_i j' hq
        have c2:decide (1<=j')=false:=c2
        show(decide (1<=j') && _)=false
        rw[c2];rfl
       simp[z]
      |true=>
       obtain⟨j,rfl⟩:∃i,y=.int i:=by cases y<;>first|exact⟨_,rfl⟩|cases c2
       have c:1<=j:=sM c2
       simp[Ig,c,UO]
       rfl
  .have z1:Ig (.tup ds)=false:=by
    unfold Ig
    split
    .rename_i e
     cases e
     exact absurd rfl hl
    .rfl
   have z2:((ds.length:Int)==2)=false:=tO.mpr (by lia)
   simp[Bq,DY,St.Kd.isA,z1,z2]
 .have z1:(Ig d)=false:=by cases d<;>first|rfl|exact absurd rfl (q4 _)
  simp[Bq,DY,q1,q2,q3,z1]
end
theorem lL{oa ob oc:Ev}{E:En}{i j k:Int}{S1 S2:Sto}(e1:evs [oa,ob] E S=Gc ([.int i,.int j],S1))(e2:oc E S1=Gc (.int k,S2)):Ni oa ob oc E S=Gc (.bl (decide (i<=j) && decide (j<=k)),if i<=j then S2 else S1):=by
 unfold Ni
 rw[e1]
 show(if i<=j then _ else _)=_
 by_cases h:i<=j
 .rw[sZ h,sZ h,e2];simp[h]
 .rw[sg h,sg h];simp[h]
theorem ML{d:D}(h:Ig d=true):∃t b:Int,d=.tup [.int t,.int b]/\1<=b/\JY t b=1:=by
 unfold Ig at h
 split at h
 .rename_i t b
  rw[sA]at h
  exact⟨t,b,rfl,sM h.1,sM h.2⟩
 .cases h
theorem Kz{d:D}(h:Ig d=false):B3 d=false:=by
 cases hs:B3 d with
 |false=>rfl
 |true=>
  exfalso
  have:Ig d=true:=by
   cases d with
   |tup ds=>
    match ds,hs with
    | [.int t,.int b],hs=>
      have hs':(decide (1<=b) && decide (JY t b=1) && (decide (0<=t) && decide (t<=b)))=true:=hs
      rw[sA]at hs'
      exact hs'.1
   |_=>cases hs
  rw[h]at this
  cases this
theorem Oy{d:D}(h:Tq d):BJ [d] S=Gc ((.bl (B3 d)),S):=by
 have a:=RM (S:=S) h
 by_cases hb:Ig d=true
 .obtain⟨t,b,rfl,h1,h2⟩:=ML hb
  have ll:Ni (eC (.int 0)) (eOp (o2 wIx) [eV 0,eC (.int 0)]) (eOp (o2 wIx) [eV 0,eC (.int 1)]) [Gc (.tup [.int t,.int b])] S=Gc (.bl (decide (0<=t) && decide (t<=b)),S):=by
   rw[lL (i:=0) (j:=t) (k:=b) (S1:=S) (S2:=S) (by simp) (by simp)]
   simp
  by_cases c:0<=t<;>simp[BJ,FW,a,Ig,B3,h1,h2,c,ll]
 .have hb':Ig d=false:=by simpa using hb
  simp[BJ,FW,a,hb',Kz hb']
noncomputable def MM(p q:Int×Int):Int×Int:=lowP (p.1*q.2+q.1*p.2) (p.2*q.2)
def zBd(k:Nat)(p:Int×Int):Prop:=p.1.natAbs<2^k/\p.2.natAbs<2^k/\0<p.2
theorem Oo(a b:Int):(a / b).natAbs<=a.natAbs:=yX a b
theorem Vf{t b:Int}:JY t b∣b:=by
 unfold JY
 have:xf t.natAbs b.natAbs∣b.natAbs:=Nat.gcd_dvd_right _ _
 exact Int.ofNat_dvd_left.mpr this
theorem We{t b:Int}(h:0<b):0<(lowP t b).2:=by
 show 0<b / JY t b
 exact Int.ediv_pos_of_pos_of_dvd h (Int.le_of_lt (NS h)) Vf
theorem XQ{p q:Int×Int}{j k:Nat}(hp:zBd j p)(hq:zBd k q):zBd (j+k+1) (MM p q):=by
 obtain⟨p1,p2,p3⟩:=hp
 obtain⟨q1,q2,q3⟩:=hq
 have a1:=Cn p1 q2
 have a2:=Cn q1 p2
 have a3:=Cn p2 q2
 rw[Nat.add_comm k j]at a2
 have e:2^(j+k+1)=2^(j+k)+2^(j+k):=by rw[zB];lia
 refine⟨?_,?_,We (uw p3 q3)⟩
 .refine su (Oo _ _) ?_
  refine su (yi _ _) ?_
  rw[u5,u5,e]
  lia
 .refine su (Oo _ _) ?_
  rw[u5,e]
  lia
theorem XM{p q:Int×Int}{j k:Nat}(hp:zBd j p)(hq:zBd k q)(hj:j<=4000)(hk:k<=4000)(hjk:j+k<=8000):Fb [amD p,amD q] S=Gc ((amD (MM p q)),S):=by
 have up:∀{n m:Nat} {x:Int},x.natAbs<2^n->n<=m->x.natAbs<2^m:=λh g=>rz h (tL (by decide) g)
 have m1:Dt p.1 q.2=true:=GL (k:=4000) (m:=4000) (up hp.1 hj) (up hq.2.1 hk) (by decide) (by decide)
 have m2:Dt q.1 p.2=true:=GL (k:=4000) (m:=4000) (up hq.1 hk) (up hp.2.1 hj) (by decide) (by decide)
 have m3:Dt p.2 q.2=true:=GL (k:=4000) (m:=4000) (up hp.2.1 hj) (up hq.2.1 hk) (by decide) (by decide)
 have b1:(p.2*q.2).natAbs<2^8000:=by
  rw[u5]
  exact rz (Cn hp.2.1 hq.2.1) (tL (by decide) hjk)
 have l:=OE (t:=p.1*q.2+q.1*p.2) (S:=S) (uw hp.2.2 hq.2.2) b1
 simp[Fb,NX,amD,m1,m2,m3,l,MM]
noncomputable def dC:D->Int×Int
 | .tup [.int t,.int b]=>(t,b)
 |_=>(0,1)
noncomputable def WY(ps:Wp (Int×Int))(a:Int×Int):Int×Int:=ps.foldl MM a
theorem fw{F:Fn}(hF:∀{p q:Int×Int} {j k:Nat},zBd j p->zBd k q->j<=4000->k<=4000->j+k<=8000->F [amD p,amD q] S=Gc (amD (MM p q),S)):∀(ps:Wp (Int×Int)) (a:Int×Int) (k:Nat) (x:D) (o:rW D),zBd (161*k+1) a->(∀p∈ps,zBd 160 p)->k+ps.length<=20->∃o',MD [] (tNm 2) (Bs 1 (AF F [eV 1,eV 2])) (ps.map amD) [Gc x,Gc (amD a),o] S=Gc (.nx,[Gc x,Gc (amD (WY ps a)),o'],S)
 | [],a,k,x,o,ha,hp,hk=>⟨o,by rw[vQ,Kn Aj];rfl⟩
 |p::ps,a,k,x,o,ha,hp,hk=>by
  have hk':k+(ps.length+1)<=20:=by simpa using hk
  have hpp:=hp p (by simp)
  have pl:=hF ha hpp (by lia) (by decide) (by lia)
  have bd:=XQ ha hpp
  have e1:161*k+1+160+1=161*(k+1)+1:=by lia
  rw[e1]at bd
  obtain⟨o',ih⟩:=fw hF ps (MM a p) (k+1) x (Gc (amD p)) bd (λq hq=>hp q (rg _ hq)) (by lia)
  refine⟨o',?_⟩
  rw[sV,Ho Aj]
  simp[pl,ih,WY]
theorem qo:zBd (161*0+1) (0,1):=⟨by decide,by decide,by decide⟩
theorem T8{d:D}(h:Tq d)(s:B3 d=true):d=amD (dC d)/\zBd 160 (dC d):=by
 cases h with
 | @tup ds h l=>
   match ds,h,s with
   | [.int t,.int b],h,s=>
     have s':(decide (1<=b) && decide (JY t b=1) && (decide (0<=t) && decide (t<=b)))=true:=s
     rw[sA,sA,sA]at s'
     have h1:=h (.int t) (by simp)
     have h2:=h (.int b) (by simp)
     cases h1 with
     |int h1=>
      cases h2 with
      |int h2=>
       have:=sM s'.1.1
       exact⟨rfl,h1,h2,by show 0<b;lia⟩
 |_=>cases s
theorem MS:∀{ds:Wp D},(∀d∈ds,Tq d)->ds.all B3=true->ds=(ds.map dC).map amD/\∀p∈ds.map dC,zBd 160 p
 | [],_,_=>⟨rfl,λp hp=>by simp at hp⟩
 |d::ds,h,s=>by
  rw[vm,sA]at s
  obtain⟨h1,h2⟩:=T8 (h d (by simp)) s.1
  obtain⟨h3,h4⟩:=MS (λx hx=>h x (rg _ hx)) s.2
  refine⟨?_,λp hp=>?_⟩
  .rw[sV,sV,<-h1,<-h3]
  .rw[sV]at hp
   rcases rZ.mp hp with rfl|hp
   .exact h2
   .exact h4 p hp
theorem Sy{ps:Wp (Int×Int)}(hp:∀p∈ps,zBd 160 p)(hl:ps.length<=20):FC [.tup (ps.map amD)] S=Gc ((amD (WY ps (0,1))),S):=by
 obtain⟨o',h⟩:=fw (S:=S) (F:=Fb) XM ps (0,1) 0 (.tup (ps.map amD)) none qo hp (by lia)
 have e:Hc=amD (0,1):=rfl
 simp[FC,Lm,e,h]
@[simp] theorem om{p:Int×Int}:dr S (amD p)=.val (amD p):=nr rfl
@[simp] theorem kA{p q:Int×Int}:KZ (amD p) (amD q)=true:=nr rfl
@[simp] theorem lK{p q:Int×Int}:deq (amD p) (amD q)=decide (p=q):=by
  show((p.1==q.1) && ((p.2==q.2) && true))=decide (p=q)
  rw[Bool.and_true]
  by_cases h:p=q
  .subst h;simp
  .rw[ue h]
   by_cases h1:p.1=q.1
   .by_cases h2:p.2=q.2
    .exact absurd (Prod.ext h1 h2) h
    .simp[h2]
   .simp[h1]
noncomputable def Fe(n:Int):D->sx
 | .tup ds=>decide ((ds.length:Int)=n) && (ds.all B3 && decide (WY (ds.map dC) (0,1)=(1,1)))
 |_=>false
theorem OX{ds:Wp D}(h:∀d∈ds,Tq d)(hl:ds.length<=1000):Bp [] (tNm 0) C1 (AF BJ [eV 0]) ds [] [none] S=Gc (ds.map λd=>.bl (B3 d),S):=by
 have:=comp_map (gs:=[]) (t:=tNm 0) (f:=AF BJ [eV 0]) (C:=[]) (m:=1) (g:=λd=>.bl (B3 d)) (S:=S) Aj (ds:=ds) (acc:=[]) (os:=[none]) rfl (AI (by simpa using hl)) (by
  intro d hd os ho
  match os,ho with
  | [a],_=>exact⟨[Gc d],rfl,by simp,by simp[Oy (h d hd)]⟩)
 simpa using this
theorem Kl{α:Type}(p:α->sx)(xs:Wp α):(xs.map p).all id=xs.all p:=by
 induction xs with
 |nil=>rfl
 |cons x xs ih=>simp[ih]
theorem Mg{d:D}(h:Tq d)(n:Int)(hn:n<=20):A9 [.int n,d] S=Gc ((.bl (Fe n d)),S):=by
 have t:=Gs (S:=S) h n
 rcases h.kd (S:=S)with⟨ds,g,l,rfl⟩|⟨⟨kk,q1,q2⟩,q3,q4⟩
 .replace h:=g
  by_cases c:(ds.length:Int)=n
  .have ct:B6 n (.tup ds)=true:=by simp[B6,c]
   have e:=OX (S:=S) h l
   have b:=Lu B3 ds
   by_cases s:ds.all B3=true
   .obtain⟨s1,s2⟩:=MS h s
    have tt:=Sy (S:=S) (ps:=ds.map dC) s2 (by simp;lia)
    rw[<-s1]at tt
    have e1:N9=amD (1,1):=rfl
    have am:=Kl B3 ds
    simp[A9,CQ,t,ct,e,b,am,s,tt,e1,Fe,c]
   .have s':ds.all B3=false:=by simpa using s
    have am:=Kl B3 ds
    simp[A9,CQ,t,ct,e,b,am,s',Fe,c]
  .have ct:B6 n (.tup ds)=false:=by simp[B6,c]
   simp[A9,CQ,t,ct,Fe,c]
 .have z1:(Fe n d)=false:=by cases d<;>first|rfl|exact absurd rfl (q4 _)
  have z2:B6 n d=false:=by cases d<;>first|rfl|exact absurd rfl (q4 _)
  simp[A9,CQ,t,z2,q1,q2,q3,z1]
end
section
variable{S:Sto}
noncomputable def F3(p k:Int)(r:Wp D):D:=.tup (.int p:: .int k::r)
section
variable{d:D}{p k:Int}{r:Wp D}
theorem Lr(h:Tq d):Bd [F3 p k r,d] S=Gc ((.bl (AJ 0 (p-1) d)),S):=by
 simp[Bd,Hy,F3,Ck h]
theorem Qm(h:Tq d):Cd [F3 p k r,d] S=Gc ((.bl (AJ 0 (k-1) d)),S):=by
 simp[Cd,IZ,F3,Ck h]
theorem RX(h:Tq d):Bw [F3 p k r,d] S=Gc ((.bl (Ag 0 d)),S):=by
 simp[Bw,FX,F3,Iw h]
theorem Pw(h:Tq d):Bl [F3 p k r,d] S=Gc ((.bl (AJ 0 9 d)),S):=by
 simp[Bl,FI,F3,Ck h]
theorem Rl(h:Tq d):Cr [F3 p k r,d] S=Gc ((.bl (Ag 1 d)),S):=by
 simp[Cr,Hx,F3,Iw h]
noncomputable def IG(n:Int):D->sx
 | .tup ds=>decide ((ds.length:Int)=n) && ds.all (AJ 1 99)
 |_=>false
theorem Rc{ds:Wp D}(h:∀d∈ds,Tq d)(hl:ds.length<=1000):Bp [] (tNm 0) C1 (AF AQ [eV 0,eC (.int 1),eC (.int 99)]) ds [] [none] S=Gc (ds.map λd=>.bl (AJ 1 99 d),S):=by
 have:=comp_map (gs:=[]) (t:=tNm 0) (f:=AF AQ [eV 0,eC (.int 1),eC (.int 99)]) (C:=[]) (m:=1) (g:=λd=>.bl (AJ 1 99 d)) (S:=S) Aj (ds:=ds) (acc:=[]) (os:=[none]) rfl (AI (by simpa using hl)) (by
  intro d hd os ho
  match os,ho with
  | [a],_=>exact⟨[Gc d],rfl,by simp,by simp[Ck (h d hd)]⟩)
 simpa using this
theorem SK(h:Tq d)(n:Int):CT [d,.int n] S=Gc ((.bl (IG n d)),S):=by
 have t:=Gs (S:=S) h n
 rcases h.kd (S:=S)with⟨ds,g,l,rfl⟩|⟨⟨kk,q1,q2⟩,q3,q4⟩
 .replace h:=g
  by_cases c:(ds.length:Int)=n
  .have ct:B6 n (.tup ds)=true:=by simp[B6,c]
   have e:=Rc (S:=S) h l
   have b:=Lu (AJ 1 99) ds
   have am:=Kl (AJ 1 99) ds
   simp[CT,D3,t,ct,e,b,am,IG,c]
  .have ct:B6 n (.tup ds)=false:=by simp[B6,c]
   simp[CT,D3,t,ct,IG,c]
 .have z1:(IG n d)=false:=by cases d<;>first|rfl|exact absurd rfl (q4 _)
  have z2:B6 n d=false:=by cases d<;>first|rfl|exact absurd rfl (q4 _)
  simp[CT,D3,t,z2,q1,q2,q3,z1]
theorem RN(h:Tq d):Cs [F3 p k r,d] S=Gc ((.bl (IG (k+1) d)),S):=by
 simp[Cs,IF,F3,SK h]
noncomputable def KH:D->sx
 | .tup [.int t,.int b]=>B3 (.tup [.int t,.int b]) && (decide (0<t) && decide (b<=12))
 |_=>false
theorem OB{d:D}(h:B3 d=true):∃t b:Int,d=.tup [.int t,.int b]:=by
 cases ha:Ig d with
 |false=>rw[Kz ha]at h;cases h
 |true=>
  obtain⟨t,b,e,_⟩:=ML ha
  exact⟨t,b,e⟩
theorem PD{d:D}(h:B3 d=false):KH d=false:=by
 cases d with
 |tup ds=>
  match ds,h with
  | [.int t,.int b],h=>
    show(B3 (.tup [.int t,.int b]) && _)=false
    rw[h];rfl
  | [],_=>rfl
  | [x],_=>cases x<;>rfl
  |x::y::z::q,_=>cases x<;>(first|rfl|(cases y<;>rfl))
  | [.int t,.non],_=>rfl
  | [.int t,.bl _],_=>rfl
  | [.int t,.str _],_=>rfl
  | [.int t,.ty _],_=>rfl
  | [.int t,.tup _],_=>rfl
  | [.int t,.lst _],_=>rfl
  | [.int t,.dct _],_=>rfl
  | [.int t,.scr _],_=>rfl
  | [.int t,.ref _],_=>rfl
  | [.non,_],_=>rfl
  | [.bl _,_],_=>rfl
  | [.str _,_],_=>rfl
  | [.ty _,_],_=>rfl
  | [.tup _,_],_=>rfl
  | [.lst _,_],_=>rfl
  | [.dct _,_],_=>rfl
  | [.scr _,_],_=>rfl
  | [.ref _,_],_=>rfl
 |_=>rfl
theorem Xi(h:Tq d):Bj [F3 p k r,d] S=Gc ((.bl (KH d)),S):=by
 have s:=Oy (S:=S) h
 cases hs:B3 d with
 |true=>
  obtain⟨t,b,rfl⟩:=OB hs
  by_cases c:0<t<;>simp[Bj,Dq,s,hs,KH,c]
 |false=>simp[Bj,Dq,s,hs,PD hs]
theorem FA{tbl:Wp (Str×Fn)}{i j:Nat}{fs:Wp Ev}{E:En}{p:Str}{G:Fn}(h1:((at? E i).isNone && decide (i<E.length))=true)(h2:at? E j=Gc (.str p))(h3:tbl.lookup p=Gc G):fe tbl i j fs E S=Ah (AF G fs) E S:=by
 unfold fe
 rw[sZ h1,h2,BP]
 dsimp only
 rw[h3,BP]
@[simp] theorem Y4:List.lookup (Str.ofString "partner") EW=some Bd:=nr rfl
@[simp] theorem gH:List.lookup (Str.ofString "kind") EW=some Cd:=nr rfl
@[simp] theorem gn:List.lookup (Str.ofString "load") EW=some Bw:=nr rfl
@[simp] theorem bJ:List.lookup (Str.ofString "number") EW=some Bl:=nr rfl
@[simp] theorem b9:List.lookup (Str.ofString "pieces") EW=some Cr:=nr rfl
@[simp] theorem Zx:List.lookup (Str.ofString "worths") EW=some Cs:=nr rfl
@[simp] theorem cc:List.lookup (Str.ofString "share") EW=some Bj:=nr rfl
theorem GY(h:Tq d):Au [F3 p k r,.str "partner",d] S=Gc ((.bl (AJ 0 (p-1) d)),S):=by
 simp[Au,Cf,FA,Lr h]
theorem Jp(h:Tq d):Au [F3 p k r,.str "kind",d] S=Gc ((.bl (AJ 0 (k-1) d)),S):=by
 simp[Au,Cf,FA,Qm h]
theorem Eo(h:Tq d):Au [F3 p k r,.str "load",d] S=Gc ((.bl (Ag 0 d)),S):=by
 simp[Au,Cf,FA,RX h]
theorem Od(h:Tq d):Au [F3 p k r,.str "number",d] S=Gc ((.bl (AJ 0 9 d)),S):=by
 simp[Au,Cf,FA,Pw h]
theorem Cc(h:Tq d):Au [F3 p k r,.str "pieces",d] S=Gc ((.bl (Ag 1 d)),S):=by
 simp[Au,Cf,FA,Rl h]
theorem Ol(h:Tq d):Au [F3 p k r,.str "worths",d] S=Gc ((.bl (IG (k+1) d)),S):=by
 simp[Au,Cf,FA,RN h]
theorem QM(h:Tq d):Au [F3 p k r,.str "share",d] S=Gc ((.bl (KH d)),S):=by
 simp[Au,Cf,FA,Xi h]
end
end
section
variable{S:Sto}
noncomputable def Fg(p k:Int):D->sx
 | .tup [a,b,c]=>AJ 0 (k-1) a && (Ag 0 b && Fe p c)
 |_=>false
theorem Xv{d:D}{p k:Int}{r:Wp D}(h:Tq d)(hp:p<=20):BU [F3 p k r,d] S=Gc ((.bl (Fg p k d)),S):=by
 have t:=Gs (S:=S) h 3
 rcases h.kd (S:=S)with⟨ds,g,l,rfl⟩|⟨⟨kk,q1,q2⟩,q3,q4⟩
 .replace h:=g
  by_cases hl:ds.length=3
  .match ds,hl,h with
   | [x,y,z],_,h=>
     have k1:=Qm (S:=S) (p:=p) (k:=k) (r:=r) (h x (by simp))
     have k2:=Iw (S:=S) (h y (by simp)) 0
     have k3:=Mg (S:=S) (h z (by simp)) p hp
     have e:atI (D.int p::D.int k::r) 0=Gc (D.int p):=kO
     simp[F3]at k1
     simp[BU,Ey,t,B6,k1,Fg,F3]
     cases AJ 0 (k-1) x
     .simp
     .simp[k2]
      cases Ag 0 y<;>simp[k3]
  .have z1:Fg p k (.tup ds)=false:=by
    unfold Fg
    split
    .rename_i e
     cases e
     exact absurd rfl hl
    .rfl
   have z2:B6 3 (.tup ds)=false:=ue (by lia)
   simp[BU,Ey,t,z1,z2]
 .have z1:(Fg p k d)=false:=by cases d<;>first|rfl|exact absurd rfl (q4 _)
  have z2:B6 3 d=false:=by cases d<;>first|rfl|exact absurd rfl (q4 _)
  simp[BU,Ey,t,z2,q1,q2,q3,z1]
noncomputable def Y5(a b:D):sx:= !deq a b
noncomputable def IC(p k:Int)(w:Str)(xs:Wp D):sx:=
 if w="bring" then(match xs with| [a,b,c]=>AJ 0 (p-1) a && (AJ 0 (k-1) b && Ag 1 c)|_=>false)
 else if w="pool" then(match xs with| [a,b]=>Ag 0 a && (Ag 0 b && Y5 a b)|_=>false)
 else if w="swap" then(match xs with| [a,b,c,e]=>Ag 0 a && (Ag 1 b && (AJ 0 (k-1) c && Ag 1 e))|_=>false)
 else if w="trade" then(match xs with| [n,a,b,c,e]=>AJ 0 9 n && (Ag 0 a && (Ag 1 b && (AJ 0 (k-1) c && Ag 1 e)))|_=>false)
 else if w="spoil" then(match xs with| [a,b]=>Ag 0 a && Ag 1 b|_=>false)
 else if w="throw" then(match xs with| [a,b,c]=>Ag 0 a && (Ag 1 b && IG (k+1) c)|_=>false)
 else if w="sell" then(match xs with| [a,b,c]=>AJ 0 (p-1) a && (AJ 0 (p-1) b && (KH c && Y5 a b))|_=>false)
 else false
noncomputable def ET(p k:Int):D->sx
 | .tup (.str w::xs)=>IC p k w xs
 |_=>false
section
variable{p k:Int}{r:Wp D}
@[simp] theorem oj:dr S Gj=.val Gj:=nr rfl
@[simp] theorem cx{t:Tf}{c f:Ev}{acc:List D}{E:En}:Bp [] t c f [] acc E S=some (acc,S):=E5 Aj
def zcK(t:Tf)(f:Ev)(ds acc:Wp D)(E1:En)(c:Ev)(r:D×Sto):rW (Wp D×Sto):=match r.1 with
     | .bl true=>(f E1 r.2).bind λp=>Bp [] t c f ds (acc++[p.1]) E1 p.2
     | .bl false=>Bp [] t c f ds acc E1 r.2
     |_=>none
@[simp] theorem qq{t:Tf}{c f:Ev}{acc ds:List D}{E:En}:zcK t f ds acc E c (.bl true,S)=(f E S).bind λp=>Bp [] t c f ds (acc++[p.1]) E p.2:=nr rfl
@[simp] theorem pF{t:Tf}{c f:Ev}{acc ds:List D}{E:En}:zcK t f ds acc E c (.bl false,S)=Bp [] t c f ds acc E S:=nr rfl
@[simp] theorem ZZ{t:Tf}{c f:Ev}{acc ds:List D}{d:D}{E:En}:Bp [] t c f (d::ds) acc E S=if acc.length<sizeLine then(t d E S).bind λE1=>(c E1 S).bind (zcK t f ds acc E1 c)else none:=by
  by_cases h:acc.length<sizeLine
  .rw[Jk Aj h,sZ h];rfl
  .rw[Bp,sZ Aj,sg h,sg h]
@[simp] theorem pZ:(0:Nat)<sizeLine:=by decide
@[simp] theorem pV:(1:Nat)<sizeLine:=by decide
@[simp] theorem qB:(2:Nat)<sizeLine:=by decide
@[simp] theorem qm:(3:Nat)<sizeLine:=by decide
@[simp] theorem qC:(4:Nat)<sizeLine:=by decide
@[simp] theorem qH:(5:Nat)<sizeLine:=by decide
@[simp] theorem ku{b:Bool}:blD (.bl b)=some b:=nr rfl
@[simp] theorem jm:bls []=some []:=nr rfl
@[simp] theorem fV{b:Bool}{ds:List D}:bls (.bl b::ds)=(bls ds).map λbs=>b::bs:=by
  unfold bls
  rw[xJ]
  show(do let r<-Gc b;let rs<-List.mapM blD ds;pure (r::rs))=_
  cases List.mapM blD ds<;>rfl
@[simp] theorem gE{tbl:List (Str×D)}{k:Str}:du tbl (.val (.str k))=(tbl.lookup k).map .val:=nr rfl
@[simp] theorem bK{neg:Bool}{tbl:List (Str×D)}{k:Str}:Mt neg tbl (.val (.str k))=some (.val (.bl (if neg then !(tbl.lookup k).isSome else(tbl.lookup k).isSome))):=nr rfl
@[simp] theorem jK{neg:Bool}{a b:Wv}:wIn neg a b=(asS b).bind λds=>if(F7 (fz a) && ds.all F7)=true then some (.val (.bl (if neg then !inD (fz a) ds else inD (fz a) ds)))else none:=nr rfl
@[simp] theorem kE{i:Nat}:N2 i []=[]:=nr rfl
@[simp] theorem d6{i:Nat}{d:D}{ds:List D}:N2 i (d::ds)=.tup [.int i,d]::N2 (i+1) ds:=nr rfl
@[simp] theorem HB:List.lookup (Str.ofString "bring") CV=some (.tup [.str "partner",.str "kind",.str "pieces"]):=nr rfl
@[simp] theorem Ki:List.lookup (Str.ofString "pool") CV=some (.tup [.str "load",.str "load"]):=nr rfl
@[simp] theorem Hq:List.lookup (Str.ofString "swap") CV=some (.tup [.str "load",.str "pieces",.str "kind",.str "pieces"]):=nr rfl
@[simp] theorem FG:List.lookup (Str.ofString "trade") CV=some (.tup [.str "number",.str "load",.str "pieces",.str "kind",.str "pieces"]):=nr rfl
@[simp] theorem JU:List.lookup (Str.ofString "spoil") CV=some (.tup [.str "load",.str "pieces"]):=nr rfl
@[simp] theorem HJ:List.lookup (Str.ofString "throw") CV=some (.tup [.str "load",.str "pieces",.str "worths"]):=nr rfl
@[simp] theorem JM:List.lookup (Str.ofString "sell") CV=some (.tup [.str "partner",.str "partner",.str "share"]):=nr rfl
@[simp] theorem eU{x:Str}:F7 (.str x)=true:=nr rfl
@[simp] theorem lI:asS (.val Gj)=some [.str "pool",.str "sell"]:=nr rfl
@[simp] theorem dN:inD (.str (Str.ofString "bring")) [.str "pool",.str "sell"]=false:=nr rfl
@[simp] theorem ji:inD (.str (Str.ofString "pool")) [.str "pool",.str "sell"]=true:=nr rfl
@[simp] theorem kI:inD (.str (Str.ofString "swap")) [.str "pool",.str "sell"]=false:=nr rfl
@[simp] theorem fD:inD (.str (Str.ofString "trade")) [.str "pool",.str "sell"]=false:=nr rfl
@[simp] theorem gR:inD (.str (Str.ofString "spoil")) [.str "pool",.str "sell"]=false:=nr rfl
@[simp] theorem dJ:inD (.str (Str.ofString "throw")) [.str "pool",.str "sell"]=false:=nr rfl
@[simp] theorem jO:inD (.str (Str.ofString "sell")) [.str "pool",.str "sell"]=true:=nr rfl
def pT:Ex:=(AV (xIf (Di (eOp (o1 UP) [EA [0,1] 2 (Z0 (eV 3)) (tTp [tNm 2,tNm 3]) C1 (AF Au [eV 0,eV 3,eOp (o2 wIx) [eV 1,eOp (o2 CP) [eV 2,eC (.int 1)]]])])) (Ah (eC (.bl false))) Bo)
    (Ah (eOr (eOp (o2 (wIn true)) [eV 2,eC Gj]) (eOp (o2 wNe) [eOp (o2 wIx) [eV 1,eC (.int 1)],eOp (o2 wIx) [eV 1,eC (.int 2)]]))))
theorem E8{w:Str}{xs form:Wp D}(hf:uu w CV=Gc (.tup form))(hl:xs.length=form.length):AK [F3 p k r,.tup (.str w::xs)] S=(pT [Gc (F3 p k r),Gc (.tup (.str w::xs)),Gc (.str w),Gc (.tup form)] S).map λr=>(flD r.1,r.2.2):=by
 have h1:(((form.length:Nat):Int)+1==0)=false:=tO.mpr (by lia)
 have eb:DA=(AV (xIf (eOr (Di (eOp (o2 Lc) [eV 1,eC (.ty "tuple")])) (eOp (o2 wEq) [eOp (o1 F2) [eV 1],eC (.int 0)])) (Ah (eC (.bl false))) Bo)
  (AV (Bs 2 (eOp (o2 wIx) [eV 1,eC (.int 0)]))
  (AV (xIf (eOr (Di (eOp (o2 Lc) [eV 2,eC (.ty "str")])) (eOp (o1 (Mt true CV)) [eV 2])) (Ah (eC (.bl false))) Bo)
  (AV (Bs 3 (eOp (o1 (du CV)) [eV 2]))
  (AV (xIf (eOp (o2 wNe) [eOp (o1 F2) [eV 1],eOp (o2 CP) [eOp (o1 F2) [eV 3],eC (.int 1)]]) (Ah (eC (.bl false))) Bo)
  pT))))):=rfl
 generalize F3 p k r=T
 simp[AK,eb,St.Kd.isA,hf,h1,hl]
theorem Pl{a b c:D}(ha:Tq a)(hb:Tq b)(hc:Tq c):AK [F3 p k r,.tup [.str "bring",a,b,c]] S=Gc ((.bl (AJ 0 (p-1) a && (AJ 0 (k-1) b && Ag 1 c))),S):=by
 have h1:=GY (S:=S) (p:=p) (k:=k) (r:=r) ha
 have h2:=Jp (S:=S) (p:=p) (k:=k) (r:=r) hb
 have h3:=Cc (S:=S) (p:=p) (k:=k) (r:=r) hc
 rw[E8 (xs:=[a,b,c]) HB rfl]
 simp[pT,h1,h2,h3]
 simp only[<-yA]
 generalize (AJ 0 (p-1) a && (AJ 0 (k-1) b && Ag 1 c))=B
 cases B<;>simp
end
section
variable{p k:Int}{r:Wp D}
theorem Jq{lo:Int}{d:D}(h:Ag lo d=true):∃i,d=.int i:=by
 cases d<;>first|exact⟨_,rfl⟩|cases h
theorem EB{lo hi:Int}{d:D}(h:AJ lo hi d=true):∃i,d=.int i:=by
 cases d<;>first|exact⟨_,rfl⟩|cases h
theorem Rm{a b:D}(ha:Tq a)(hb:Tq b):AK [F3 p k r,.tup [.str "pool",a,b]] S=Gc ((.bl (Ag 0 a && (Ag 0 b && (Y5 a b)))),S):=by
 have h1:=Eo (S:=S) (p:=p) (k:=k) (r:=r) ha
 have h2:=Eo (S:=S) (p:=p) (k:=k) (r:=r) hb
 rw[E8 (xs:=[a,b]) Ki rfl]
 simp[pT,h1,h2]
 cases c1:Ag 0 a
 .simp
 .cases c2:Ag 0 b
  .simp
  .obtain⟨i,rfl⟩:=Jq c1
   obtain⟨j,rfl⟩:=Jq c2
   simp[Y5]
theorem SG{a b c d:D}(ha:Tq a)(hb:Tq b)(hc:Tq c)(hd:Tq d):AK [F3 p k r,.tup [.str "swap",a,b,c,d]] S=Gc ((.bl (Ag 0 a && (Ag 1 b && (AJ 0 (k-1) c && (Ag 1 d))))),S):=by
 have h1:=Eo (S:=S) (p:=p) (k:=k) (r:=r) ha
 have h2:=Cc (S:=S) (p:=p) (k:=k) (r:=r) hb
 have h3:=Jp (S:=S) (p:=p) (k:=k) (r:=r) hc
 have h4:=Cc (S:=S) (p:=p) (k:=k) (r:=r) hd
 rw[E8 (xs:=[a,b,c,d]) Hq rfl]
 simp[pT,h1,h2,h3,h4]
 simp only[<-yA]
 generalize (Ag 0 a && (Ag 1 b && (AJ 0 (k-1) c && Ag 1 d)))=B
 cases B<;>simp
theorem QG{a b c d e:D}(ha:Tq a)(hb:Tq b)(hc:Tq c)(hd:Tq d)(he:Tq e):AK [F3 p k r,.tup [.str "trade",a,b,c,d,e]] S=Gc ((.bl (AJ 0 9 a && (Ag 0 b && (Ag 1 c && (AJ 0 (k-1) d && (Ag 1 e)))))),S):=by
 have h1:=Od (S:=S) (p:=p) (k:=k) (r:=r) ha
 have h2:=Eo (S:=S) (p:=p) (k:=k) (r:=r) hb
 have h3:=Cc (S:=S) (p:=p) (k:=k) (r:=r) hc
 have h4:=Jp (S:=S) (p:=p) (k:=k) (r:=r) hd
 have h5:=Cc (S:=S) (p:=p) (k:=k) (r:=r) he
 rw[E8 (xs:=[a,b,c,d,e]) FG rfl]
 simp[pT,h1,h2,h3,h4,h5]
 simp only[<-yA]
 generalize (AJ 0 9 a && (Ag 0 b && (Ag 1 c && (AJ 0 (k-1) d && Ag 1 e))))=B
 cases B<;>simp
theorem Pk{a b:D}(ha:Tq a)(hb:Tq b):AK [F3 p k r,.tup [.str "spoil",a,b]] S=Gc ((.bl (Ag 0 a && (Ag 1 b))),S):=by
 have h1:=Eo (S:=S) (p:=p) (k:=k) (r:=r) ha
 have h2:=Cc (S:=S) (p:=p) (k:=k) (r:=r) hb
 rw[E8 (xs:=[a,b]) JU rfl]
 simp[pT,h1,h2]
 simp only[<-yA]
 generalize (Ag 0 a && Ag 1 b)=B
 cases B<;>simp
theorem P7{a b c:D}(ha:Tq a)(hb:Tq b)(hc:Tq c):AK [F3 p k r,.tup [.str "throw",a,b,c]] S=Gc ((.bl (Ag 0 a && (Ag 1 b && (IG (k+1) c)))),S):=by
 have h1:=Eo (S:=S) (p:=p) (k:=k) (r:=r) ha
 have h2:=Cc (S:=S) (p:=p) (k:=k) (r:=r) hb
 have h3:=Ol (S:=S) (p:=p) (k:=k) (r:=r) hc
 rw[E8 (xs:=[a,b,c]) HJ rfl]
 simp[pT,h1,h2,h3]
 simp only[<-yA]
 generalize (Ag 0 a && (Ag 1 b && IG (k+1) c))=B
 cases B<;>simp
theorem RZ{a b c:D}(ha:Tq a)(hb:Tq b)(hc:Tq c):AK [F3 p k r,.tup [.str "sell",a,b,c]] S=Gc ((.bl (AJ 0 (p-1) a && (AJ 0 (p-1) b && (KH c && (Y5 a b))))),S):=by
 have h1:=GY (S:=S) (p:=p) (k:=k) (r:=r) ha
 have h2:=GY (S:=S) (p:=p) (k:=k) (r:=r) hb
 have h3:=QM (S:=S) (p:=p) (k:=k) (r:=r) hc
 rw[E8 (xs:=[a,b,c]) JM rfl]
 simp[pT,h1,h2,h3]
 cases c1:AJ 0 (p-1) a
 .simp
 .cases c2:AJ 0 (p-1) b
  .simp
  .cases KH c
   .simp
   .obtain⟨i,rfl⟩:=EB c1
    obtain⟨j,rfl⟩:=EB c2
    simp[Y5]
end
section
variable{p k:Int}{r:Wp D}
theorem AZ{w:Str}{xs form:Wp D}(hf:uu w CV=Gc (.tup form))(hl:xs.length≠form.length):AK [F3 p k r,.tup (.str w::xs)] S=Gc ((.bl false),S):=by
 have h1:(((xs.length:Nat):Int)+1==0)=false:=tO.mpr (by lia)
 have h2:(((xs.length:Nat):Int)+1==((form.length:Nat):Int)+1)=false:=tO.mpr (by lia)
 simp[AK,DA,St.Kd.isA,hf,h1,h2]
theorem Oc{w:Str}{xs:Wp D}(hf:uu w CV=none):AK [F3 p k r,.tup (.str w::xs)] S=Gc ((.bl false),S):=by
 have h1:(((xs.length:Nat):Int)+1==0)=false:=tO.mpr (by lia)
 simp[AK,DA,St.Kd.isA,hf,h1]
theorem QN{x:D}{xs:Wp D}(h:Tq x)(hx:∀w,x≠.str w):AK [F3 p k r,.tup (x::xs)] S=Gc ((.bl false),S):=by
 have h1:(((xs.length:Nat):Int)+1==0)=false:=tO.mpr (by lia)
 obtain⟨kk,q1,q2,q3⟩:=h.ks (S:=S) hx
 simp[AK,DA,Yu,h1,q1,q2,q3]
theorem PB{w:Str}(h1:w≠ "bring")(h2:w≠ "pool")(h3:w≠ "swap")(h4:w≠ "trade")(h5:w≠ "spoil")(h6:w≠ "throw")(h7:w≠ "sell"):uu w CV=none:=by
 have e:∀{u:Str},w≠u->(w==u)=false:=λh=>tO.mpr h
 unfold CV
 simp only[tY,e h1,e h2,e h3,e h4,e h5,e h6,e h7,List.lookup_nil]
theorem Mx{d:D}(h:Tq d):AK [F3 p k r,d] S=Gc ((.bl (ET p k d)),S):=by
 rcases h.kd (S:=S)with⟨ds,g,l,rfl⟩|⟨⟨kk,q1,q2⟩,q3,q4⟩
 .replace h:=g
  match ds,h with
  | [],h=>simp[AK,DA,St.Kd.isA,ET]
  |x::xs,h=>
   by_cases hx:∃w,x=.str w
   .obtain⟨w,rfl⟩:=hx
    show AK _ _=Gc ((.bl (IC p k w xs)),_)
    have th:∀y∈xs,Tq y:=λy hy=>h y (rg _ hy)
    unfold IC
    by_cases h1:w="bring"
    .subst h1
     rw[sZ rfl]
     match xs,th with
     | [a,b,c],th=>exact Pl (th a (by simp)) (th b (by simp)) (th c (by simp))
     | [],_=>exact AZ HB (by simp)
     | [_],_=>exact AZ HB (by simp)
     | [_,_],_=>exact AZ HB (by simp)
     |_::_::_::_::_,_=>exact AZ HB (by simp)
    rw[sg h1]
    by_cases h2:w="pool"
    .subst h2
     rw[sZ rfl]
     match xs,th with
     | [a,b],th=>exact Rm (th a (by simp)) (th b (by simp))
     | [],_=>exact AZ Ki (by simp)
     | [_],_=>exact AZ Ki (by simp)
     |_::_::_::_,_=>exact AZ Ki (by simp)
    rw[sg h2]
    by_cases h3:w="swap"
    .subst h3
     rw[sZ rfl]
     match xs,th with
     | [a,b,c,e],th=>exact SG (th a (by simp)) (th b (by simp)) (th c (by simp)) (th e (by simp))
     | [],_=>exact AZ Hq (by simp)
     | [_],_=>exact AZ Hq (by simp)
     | [_,_],_=>exact AZ Hq (by simp)
     | [_,_,_],_=>exact AZ Hq (by simp)
     |_::_::_::_::_::_,_=>exact AZ Hq (by simp)
    rw[sg h3]
    by_cases h4:w="trade"
    .subst h4
     rw[sZ rfl]
     match xs,th with
     | [a,b,c,e,f],th=>exact QG (th a (by simp)) (th b (by simp)) (th c (by simp)) (th e (by simp)) (th f (by simp))
     | [],_=>exact AZ FG (by simp)
     | [_],_=>exact AZ FG (by simp)
     | [_,_],_=>exact AZ FG (by simp)
     | [_,_,_],_=>exact AZ FG (by simp)
     | [_,_,_,_],_=>exact AZ FG (by simp)
     |_::_::_::_::_::_::_,_=>exact AZ FG (by simp)
    rw[sg h4]
    by_cases h5:w="spoil"
    .subst h5
     rw[sZ rfl]
     match xs,th with
     | [a,b],th=>exact Pk (th a (by simp)) (th b (by simp))
     | [],_=>exact AZ JU (by simp)
     | [_],_=>exact AZ JU (by simp)
     |_::_::_::_,_=>exact AZ JU (by simp)
    rw[sg h5]
    by_cases h6:w="throw"
    .subst h6
     rw[sZ rfl]
     match xs,th with
     | [a,b,c],th=>exact P7 (th a (by simp)) (th b (by simp)) (th c (by simp))
     | [],_=>exact AZ HJ (by simp)
     | [_],_=>exact AZ HJ (by simp)
     | [_,_],_=>exact AZ HJ (by simp)
     |_::_::_::_::_,_=>exact AZ HJ (by simp)
    rw[sg h6]
    by_cases h7:w="sell"
    .subst h7
     rw[sZ rfl]
     match xs,th with
     | [a,b,c],th=>exact RZ (th a (by simp)) (th b (by simp)) (th c (by simp))
     | [],_=>exact AZ JM (by simp)
     | [_],_=>exact AZ JM (by simp)
     | [_,_],_=>exact AZ JM (by simp)
     |_::_::_::_::_,_=>exact AZ JM (by simp)
    rw[sg h7]
    exact Oc (PB h1 h2 h3 h4 h5 h6 h7)
   .have hx':∀w,x≠.str w:=λw e=>hx ⟨w,e⟩
    rw[QN (h x (by simp)) hx']
    have:ET p k (.tup (x::xs))=false:=by
     cases x<;>first|rfl|exact absurd rfl (hx' _)
    rw[this]
 .have z1:(ET p k d)=false:=by cases d<;>first|rfl|exact absurd rfl (q4 _)
  simp[AK,DA,q1,q2,q3,z1]
end
end
section
variable{S:Sto}
noncomputable def dj:D->D->sx
 | .int p,d=>Fe p d
 |_,_=>false
noncomputable def EL:D->sx
 | .tup [a,b,c,d,e,f]=>AJ 1 4 a && (AJ 1 5 b && (AJ 1 20 c && (dj a d && (AJ 0 9 e && AJ 0 9 f))))
 |_=>false
theorem Iv{x:D}(h:Tq x):An [x] S=Gc (.bl (EL x),S):=by
 have t:=Gs (S:=S) h 6
 rcases h.kd (S:=S)with⟨ds,g,l,rfl⟩|⟨⟨kk,q1,q2⟩,q3,q4⟩
 .replace h:=g
  by_cases hl:ds.length=6
  .match ds,hl,h with
   | [a,b,c,d,e,f],_,h=>
     have k1:=Ck (S:=S) (h a (by simp)) 1 4
     have k2:=Ck (S:=S) (h b (by simp)) 1 5
     have k3:=Ck (S:=S) (h c (by simp)) 1 20
     have k5:=Ck (S:=S) (h e (by simp)) 0 9
     have k6:=Ck (S:=S) (h f (by simp)) 0 9
     cases c1:AJ 1 4 a with
     |false=>simp[An,DH,t,B6,k1,c1,EL]
     |true=>
      obtain⟨p,rfl⟩:=EB c1
      have hp:p<=4:=by simp[AJ]at c1;exact c1.2
      have k4:=Mg (S:=S) (h d (by simp)) p (by lia)
      cases c2:AJ 1 5 b<;>cases c3:AJ 1 20 c<;>cases c4:Fe p d<;>cases c5:AJ 0 9 e<;>simp[An,DH,t,B6,k1,k2,k3,k4,k5,k6,c1,c2,c3,c4,c5,EL,dj]
  .have z1:EL (.tup ds)=false:=by
    unfold EL
    split
    .rename_i e
     cases e
     exact absurd rfl hl
    .rfl
   have z2:B6 6 (.tup ds)=false:=ue (by lia)
   simp[An,DH,t,z1,z2]
 .have z1:(EL x)=false:=by cases x<;>first|rfl|exact absurd rfl (q4 _)
  have z2:B6 6 x=false:=by cases x<;>first|rfl|exact absurd rfl (q4 _)
  simp[An,DH,t,z2,q1,q2,q3,z1]
theorem Vn{x:D}(h:EL x=true):∃p k r,x=F3 p k r/\p<=4:=by
 unfold EL at h
 split at h
 .rename_i a b c d e f
  simp only[sA]at h
  obtain⟨p,rfl⟩:=EB h.1
  obtain⟨k,rfl⟩:=EB h.2.1
  have:p<=4:=by have:=h.1;simp[AJ]at this;exact this.2
  exact⟨p,k,_,rfl,this⟩
 .cases h
noncomputable def RY:D->sx
 | .tup [_,.int n,_]=>decide (0<n)
 |_=>false
theorem P5{p k:Int}{x:D}(h:Fg p k x=true):∃a n c,x=.tup [a,.int n,c]:=by
 unfold Fg at h
 split at h
 .rename_i a b c
  simp only[sA]at h
  obtain⟨n,rfl⟩:=Jq h.2.1
  exact⟨a,n,c,rfl⟩
 .cases h
theorem aw{F:Fn}{p k:Int}{r:Wp D}{T:D}(hF:∀{d:D},Tq d->F [T,d] S=Gc (.bl (Fg p k d),S)){ds:Wp D}(h:∀d∈ds,Tq d)(hl:ds.length<=1000):Bp [] (tNm 1) C1 (D2 (AF F [eV 0,eV 1]) (eOp (o2 wGt) [eOp (o2 wIx) [eV 1,eC (.int 1)],eC (.int 0)])) ds [] [Gc T,none] S=Gc (ds.map λd=>.bl (Fg p k d && RY d),S):=by
 have:=comp_map (gs:=[]) (t:=tNm 1) (f:=D2 (AF F [eV 0,eV 1]) (eOp (o2 wGt) [eOp (o2 wIx) [eV 1,eC (.int 1)],eC (.int 0)])) (C:=[Gc T]) (m:=1) (g:=λd=>.bl (Fg p k d && RY d)) (S:=S) Aj (ds:=ds) (acc:=[]) (os:=[none]) rfl (AI (by simpa using hl)) (by
  intro d hd os ho
  match os,ho with
  | [a],_=>
  refine⟨[Gc d],rfl,by simp,?_⟩
  have e:=hF (h d hd)
  cases c:Fg p k d with
  |false=>rw[c]at e;simp[e]
  |true=>
   rw[c]at e
   obtain⟨x,n,z,rfl⟩:=P5 c
   simp[e,RY])
 simpa using this
noncomputable def Ik(p k:Int):D->sx
 | .tup ds=>decide (ds.length<=4) && ds.all λd=>Fg p k d && RY d
 |_=>false
theorem JW{p k:Int}{r:Wp D}{x:D}(h:Tq x)(hp:p<=20):Aq [F3 p k r,x] S=Gc (.bl (Ik p k x),S):=by
 have hk:dr S DL=.val (.int 4):=rfl
 rcases h.kd (S:=S)with⟨ds,g,l,rfl⟩|⟨⟨kk,q1,q2⟩,q3,q4⟩
 .replace h:=g
  have e:=aw (S:=S) (F:=BU) (p:=p) (k:=k) (r:=r) (T:=F3 p k r) (λhd=>Xv hd hp) h l
  have b:=Lu (λd=>Fg p k d && RY d) ds
  have am:=Kl (λd=>Fg p k d && RY d) ds
  by_cases c:ds.length<=4
  .have c':¬(4:Int)<ds.length:=by lia
   simp[Aq,Dh,St.Kd.isA,hk,c,c',RG,e,b,am,Ik]
  .have c':(4:Int)<ds.length:=by lia
   simp[Aq,Dh,St.Kd.isA,hk,c,c',Ik]
 .have z1:(Ik p k x)=false:=by cases x<;>first|rfl|exact absurd rfl (q4 _)
  simp[Aq,Dh,q1,q2,q3,z1]
end
section
variable{S:Sto}{p:Nat}
theorem PY{n:Nat}:Ao (n+1)=AW (Af 4 (Ie (Ao n))):=rfl
noncomputable def Jr:Wp D:=[.non,.bl true,.bl false,.int 0,.int 1,.int (-1),.int 9,.int (10^39),.str "",.str "a",.tup [],.lst []]
theorem RO:∀x∈Jr,Tq x:=by
 intro x hx
 simp only[Jr,rZ,sC,tF]at hx
 rcases hx with rfl|rfl|rfl|rfl|rfl|rfl|rfl|rfl|rfl|rfl|rfl|rfl
 .exact .non
 .exact .bl _
 .exact .bl _
 .exact .int (by decide)
 .exact .int (by decide)
 .exact .int (by decide)
 .exact .int (by decide)
 .exact .int (by decide)
 .exact .str _
 .exact .str _
 .exact .tup (λd hd=>by cases hd) (by decide)
 .exact .lst (λd hd=>by cases hd) (by decide)
def Pe:Ev:=(G3 [eC .non,eC (.bl true),eC (.bl false),eC (.int 0),eC (.int 1),eOp (o1 NA) [eC (.int 1)],eC (.int 9),eOp (o2 Vv) [eC (.int 10),eC (.int 39)],eC (.str ""),eC (.str "a"),Az [],G3 []])
theorem RW{E:En}:Pe E S=Gc (.lst Jr,S):=by
 have n1:NA (.val (.int 1))=Gc (.val (.int (-1))):=rfl
 have p1:Vv (.val (.int 10)) (.val (.int 39))=Gc (.val (.int (10^39))):=by with_unfolding_all rfl
 have sz:(12:Nat)<=sizeLine:=AI (by decide)
 simp[Pe,n1,p1,Jr,sz]
theorem HP:∀{n d:Nat},d<n->∀{S:Sto},C5 p S->∃X S',Ao n [.ref p,.int d] S=Gc (X,S')/\Tq X/\Pn p S S'
 |0,d,h,_,_=>absurd h (by lia)
 |n+1,d,h,S,hp=>by
  obtain⟨way,S1,e1,w0,w1,p1⟩:=Aa hp (n:=12) (by decide) (by decide)
  rw[PY]
  have eb:Ie (Ao n)=(AV (Bs 2 (AF AG [eV 0,eC (.int 12)]))
  (AV (xIf (eOr (eOp (o2 wLt) [eV 2,eC (.int 8)]) (eOp (o2 wEq) [eV 1,eC (.int 0)])) (Ah (eOp (o2 wIx) [Pe,AF AG [eV 0,eC (.int 12)]])) Bo)
  (AV (Bs 3 (EA [0,1] 1 (QZ [AF AG [eV 0,eC (.int 4)]]) (tNm 2) C1 (AF (Ao n) [eV 0,eOp (o2 NQ) [eV 1,eC (.int 1)]])))
  (AV (xIf (eOp (o2 wEq) [eV 2,eC (.int 8)]) (Ah (eV 3)) Bo)
  (AV (xIf (eOp (o2 wEq) [eV 2,eC (.int 9)]) (Ah (d8 [((eC (.str "a")),(eV 3))])) Bo)
  (Ah (eOp (o1 Fi) [eV 3]))))))):=rfl
  rw[eb]
  by_cases c:way<8\/d=0
  .obtain⟨r,S2,e2,r0,r1,p2⟩:=Aa p1.pen (n:=12) (by decide) (by decide)
   obtain⟨x,ax,hx⟩:=pick (xs:=Jr) r0 (by simpa[Jr]using r1)
   refine⟨x,S2,?_,RO x hx,p1.trans p2⟩
   have k:=λE=>RW (S:=S1) (E:=E)
   rcases Decidable.em (way<8)with c1|c1
   .simp[e1,c1,k,e2,ax]
   .have c2:d=0:=c.resolve_left c1
    subst c2
    simp[e1,c1,k,e2,ax]
  .have c1:¬way<8:=λz=>c (.inl z)
   have c2:¬d=0:=λz=>c (.inr z)
   obtain⟨r,S2,e2,r0,r1,p2⟩:=Aa p1.pen (n:=4) (by decide) (by decide)
   obtain⟨k,rfl⟩:=Gu r0
   have rk:Ka (k:Int)=true:=FZ (by lia) (by lia)
   obtain⟨ys,S3,e3,i3,l3,r3⟩:=Kf (gs:=[]) (t:=tNm 2) (f:=AF (Ao n) [eV 0,eOp (o2 NQ) [eV 1,eC (.int 1)]]) (C:=[Gc (.ref p),Gc (.int d)]) (m:=1) (I:=λT=>Pn p S2 T) (R:=λ_ y=>Tq y) (λ_ _=>Aj) (ds:=MT 0 k) (acc:=[]) (os:=[none]) (S:=S2) rfl (.refl p2.pen) (AI (by simp[Fh];lia)) (by
    intro dd hd os T ho hI
    match os,ho with
    | [a],_=>
    obtain⟨X,T',ex,hX,hP⟩:=HP (n:=n) (d:=d-1) (by lia) hI.pen
    refine⟨[Gc dd],X,T',rfl,by simp,?_,hI.trans hP,hX⟩
    have ec:(d:Int)-1=((d-1:Nat):Int):=by lia
    simp[ec,ex])
   have th:=Hr r3
   have ly:ys.length<=1000:=by rw[l3,Fh];lia
   have pn:=(p1.trans p2).trans i3
   simp only[uC,ua]at e3
   have c2':((d:Int)==0)=false:=by simpa using c2
   have tn:(k:Int).toNat=k:=by lia
   by_cases w8:way=8
   .subst w8
    refine⟨.lst ys,S3,?_,.lst th ly,pn⟩
    simp[e1,c2',e2,rk,RG,e3,tn]
   .have w8':(way==8)=false:=by simpa using w8
    by_cases w9:way=9
    .subst w9
     refine⟨.dct (MN [] [(.inr "a",.lst ys)]),S3,?_,.dct _,pn⟩
     simp[e1,c2',e2,rk,RG,e3,tn]
    .have w9':(way==9)=false:=by simpa using w9
     refine⟨.tup ys,S3,?_,.tup th ly,pn⟩
     simp[e1,c1,c2',e2,rk,RG,e3,tn,w8',w9']
inductive Sd:Nat->D->Prop
 |int {n:Nat} {i:Int} (h:i.natAbs<2^155):Sd n (.int i)
 |str {n:Nat} {x:Str} (h:x.length<=1000) (u:(wy x).length<=1000) (o:uW x=true):Sd n (.str x)
 |tup {n:Nat} {ds:Wp D} (h:∀d∈ds,Sd n d) (l:ds.length<=100):Sd (n+1) (.tup ds)
theorem Sd.tb:∀{n:Nat} {d:D},Sd n d->Tq d
 |_,_,.int h=>.int (rz h (tL (by decide) (by decide)))
 |_,_,.str _ _ _=>.str _
 |_,_,.tup h l=>.tup (λd hd=>Sd.tb (h d hd)) (by lia)
theorem Sd.lay:∀{n:Nat} {d:D},Sd n d->d.lay=true
 |_,_,.int h=>rfl
 |_,_,.str _ _ o=>o
 |_,_,.tup (ds:=ds) h l=>by
  show D.N3 ds=true
  have:=Nm (f:=id) (xs:=ds) λd hd=>Sd.lay (h d hd)
  simpa using this
theorem Sd.up:∀{n m:Nat} {d:D},Sd n d->n<=m->Sd m d
 |_,_,_,.int h,_=>.int h
 |_,_,_,.str a b c,_=>.str a b c
 |n+1,m,_,.tup h l,hm=>by
  obtain⟨m',rfl⟩:∃m',m=m'+1:=⟨m-1,by lia⟩
  exact .tup (λd hd=>(h d hd).up (by lia)) l
theorem Iz{α:Type}{xs:Wp α}{lo hi:rW Int}{x:α}(h:x∈ID xs lo hi):x∈xs:=by
 unfold ID at h
 exact List.mem_of_mem_drop (List.mem_of_mem_take h)
theorem Ee{α:Type}{xs:Wp α}{lo hi:rW Int}:(ID xs lo hi).length<=xs.length:=by
 unfold ID
 rw[xT,yt]
 lia
theorem Xc{xs:Wp D}{x:D}(h:x∈R1 xs):x∈xs:=by
 unfold R1 at h
 obtain⟨k,_,hk⟩:=yI.mp h
 exact sQ hk
theorem Xr{xs:Wp D}:(R1 xs).length<=xs.length:=by
 unfold R1
 refine sI (wc _ _) ?_
 rw[yf]
 exact sD _
@[simp] theorem gF{xs:List D}:gW (.val (.tup xs))=some (.val (.tup (R1 xs))):=nr rfl
@[simp] theorem jD{z:Str}:wUp (.val (.str z))=if(Txt.upper z).length<=sizeLine then some (.val (.str (Txt.upper z)))else none:=nr rfl
@[simp] theorem j0{z:Str}{lo hi:Option Int}:wSl lo hi (.val (.str z))=if z.length<=sizeLine then some (.val (.str (Txt.slice z lo hi)))else none:=nr rfl
@[simp] theorem gA{i:Int}:iR (.val (.int i))=if i.natAbs.log2<1920 then some (.val (.str (toString i)))else none:=nr rfl
@[simp] theorem oN:(Str.ofString "a").length=1:=nr rfl
@[simp] theorem nZ:(Str.ofString "1").length=1:=nr rfl
theorem TM{ds:Wp D}(h:D.N3 ds=true):KZ (.tup ds) (.tup [])=true:=by
 unfold KZ
 show(D.N3 ds && true && decide (min (D.tup ds).py.depth (D.tup []).py.depth<=60))=true
 rw[h]
 have:(D.tup []).py.depth<=60:=by decide
 rw[vK (by lia)]
 rfl
theorem YE{ds:Wp D}:deq (.tup ds) (.tup [])=ds.isEmpty:=by
 cases ds<;>rfl
theorem R7{i:Int}(h:i.natAbs<2^155):i.natAbs.log2<1920:=by
 by_cases h0:i.natAbs=0
 .rw[h0];decide
 .exact xy ((Nat.log2_lt h0).mpr h) (by decide)
theorem mC{r:Int}(h0:0<=r)(h1:r<4):r=0\/r=1\/r=2\/r=3:=by lia
theorem az{xs ys:Wp D}(hx:∀d∈xs,Tq d)(hy:∀d∈ys,Tq d)(l:xs.length+ys.length<=1000):Tq (.tup (xs++ys)):=.tup (λd hd=>(sX.mp hd).elim (hx d) (hy d)) (by simpa using l)
theorem YF{n:Nat}:Av (n+1)=AW (Af 4 (ED (Av n))):=rfl
def spT:Ex:=(AV (Bs 3 (AF AG [eV 0,eC (.int 8)]))
    (AV (xIf (D2 (eOp (o2 Lc) [eV 1,eC (.ty "tuple")]) (eOp (o2 wLt) [eV 3,eC (.int 4)])) (Ah (eOp (o2 wIx) [G3 [eOp (o2 CP) [eV 1,eOp (JZ true false) [eV 1,eOp (o1 NA) [eC (.int 1)]]],eOp (JZ false true) [eV 1,eOp (o1 NA) [eC (.int 1)]],eOp (o1 Lq) [eV 1],eOp (o1 gW) [eV 1]],eV 3])) Bo)
    (AV (xIf (D2 (eOp (o2 Lc) [eV 1,eC (.ty "int")]) (eOp (o2 wLt) [eV 3,eC (.int 4)])) (Ah (eOp (o2 wIx) [G3 [eOp (o2 CP) [eV 1,eC (.int 1)],eOp (o2 NQ) [eV 1,eC (.int 1)],eOp (o2 wGt) [eV 1,eC (.int 0)],eOp (o1 iR) [eV 1]],eV 3])) Bo)
    (AV (xIf (D2 (eOp (o2 Lc) [eV 1,eC (.ty "str")]) (eOp (o2 wLt) [eV 3,eC (.int 4)])) (Ah (eOp (o2 wIx) [G3 [eOp (o2 CP) [eV 1,eC (.str "a")],eOp (o1 wUp) [eV 1],eOp (JZ false true) [eV 1,eOp (o1 NA) [eC (.int 1)]],eOp (o2 CP) [eC (.str "1"),eV 1]],eV 3])) Bo)
    (Ah (AF (Ao 8) [eV 0,eC (.int 2)]))))))
theorem Ky{rec:Fn}:ED rec=(AV (xIf (D2 (eOp (o2 Lc) [eV 1,eC (.ty "tuple")]) (D2 (eOp (o2 wNe) [eV 1,Az []]) (eOp (o2 wGt) [AF AG [eV 0,eC (.int 6)],eC (.int 0)]))) (AV (Bs 2 (AF AG [eV 0,eOp (o1 F2) [eV 1]])) (Ah (eOp (o2 CP) [eOp (o2 CP) [eOp (JZ false true) [eV 1,eV 2],Az [AF rec [eV 0,eOp (o2 wIx) [eV 1,eV 2]]]],eOp (JZ true false) [eV 1,eOp (o2 CP) [eV 2,eC (.int 1)]]]))) Bo) spT):=rfl
theorem EG:∀(N k:Nat) {d:D} {S:Sto},k<N->Sd k d->C5 p S->∃X S',Av N [.ref p,d] S=Gc (X,S')/\Tq X/\Pn p S S'
 |0,k,d,S,h,_,_=>absurd h (zL _)
 |N+1,k,d,S,hk,sd,h=>by
  have rest:∀{T:Sto},C5 p T->∃X T',Ao 8 [.ref p,.int 2] T=Gc (X,T')/\Tq X/\Pn p T T':=λhq=>HP (n:=8) (d:=2) (by decide) hq
  have hl:=sd.lay
  have s4:(4:Nat)<=sizeLine:=AI (by decide)
  have n1:NA (.val (.int 1))=Gc (.val (.int (-1))):=rfl
  rw[YF]
  cases sd with
  | @int _ i hi=>
    obtain⟨r1,S1,e1,a1,b1,p1⟩:=Aa h (n:=8) (by decide) (by decide)
    by_cases c:r1<4
    .have lg:=R7 hi
     have q:(atI [D.int (i+1),.int (i-1),.bl (decide (0<i)),.str (toString i)] r1).map (λx=>(x,S1))=AW (Af 4 (ED (Av N))) [.ref p,.int i] S:=by
      simp[Ky,spT,St.Kd.isA,e1,c,lg,s4]
      generalize atI _ r1=o
      cases o<;>rfl
     rcases mC a1 c with rfl|rfl|rfl|rfl
     .exact⟨.int (i+1),S1,q.symm,.int (rz (show(i+1).natAbs<2^156 by lia) (tL (by decide) (by decide))),p1⟩
     .exact⟨.int (i-1),S1,q.symm,.int (rz (show(i-1).natAbs<2^156 by lia) (tL (by decide) (by decide))),p1⟩
     .exact⟨.bl (decide (0<i)),S1,q.symm,.bl _,p1⟩
     .exact⟨.str (toString i),S1,q.symm,.str _,p1⟩
    .obtain⟨w,q',ew,tw,pw⟩:=rest p1.pen
     exact⟨w,q',by simp[Ky,spT,St.Kd.isA,e1,c,ew],tw,p1.trans pw⟩
  | @str _ x hx ux _=>
    obtain⟨r1,S1,e1,a1,b1,p1⟩:=Aa h (n:=8) (by decide) (by decide)
    by_cases c:r1<4
    .have s1:x.length+1<=sizeLine:=sI (show x.length+1<=1001 by lia) (by decide)
     have s2:(wy x).length<=sizeLine:=AI ux
     have s3:x.length<=sizeLine:=AI hx
     have s5:1+x.length<=sizeLine:=by lia
     have q:(atI [D.str (x++(rh "a")),.str (wy x),.str (zq x none (Gc (-1))),.str ((rh "1")++x)] r1).map (λx=>(x,S1))=AW (Af 4 (ED (Av N))) [.ref p,.str x] S:=by
      simp[Ky,spT,St.Kd.isA,e1,c,s1,s2,s3,s4,s5,n1]
      generalize atI _ r1=o
      cases o<;>rfl
     rcases mC a1 c with rfl|rfl|rfl|rfl
     .exact⟨.str (x++(rh "a")),S1,q.symm,.str _,p1⟩
     .exact⟨.str (wy x),S1,q.symm,.str _,p1⟩
     .exact⟨.str (zq x none (Gc (-1))),S1,q.symm,.str _,p1⟩
     .exact⟨.str ((rh "1")++x),S1,q.symm,.str _,p1⟩
    .obtain⟨w,q',ew,tw,pw⟩:=rest p1.pen
     exact⟨w,q',by simp[Ky,spT,St.Kd.isA,e1,c,ew],tw,p1.trans pw⟩
  | @tup k' xs hx lx=>
    have tx:∀d∈xs,Tq d:=λd hd=>(hx d hd).tb
    have ways:∀{T:Sto},C5 p T->∃X T' r,AG [.ref p,.int 8] T=Gc (.int r,T')/\Pn p T T'/\Tq X/\((r<4/\atI [D.tup (xs++ID xs (Gc (-1)) none),.tup (ID xs none (Gc (-1))),.lst xs,.tup (R1 xs)] r=Gc X)\/(¬r<4/\∃T'',Ao 8 [.ref p,.int 2] T'=Gc (X,T'')/\Pn p T' T'')):=by
     intro T hq
     obtain⟨r1,d1,e1,a1,b1,p1⟩:=Aa hq (n:=8) (by decide) (by decide)
     by_cases c:r1<4
     .rcases mC a1 c with rfl|rfl|rfl|rfl
      .exact⟨_,d1,0,e1,p1,az tx (λd hd=>tx d (Iz hd)) (by have:=Ee (xs:=xs) (lo:=Gc (-1)) (hi:=none);lia),.inl ⟨by decide,rfl⟩⟩
      .exact⟨_,d1,1,e1,p1,.tup (λd hd=>tx d (Iz hd)) (by have:=Ee (xs:=xs) (lo:=none) (hi:=Gc (-1));lia),.inl ⟨by decide,rfl⟩⟩
      .exact⟨_,d1,2,e1,p1,.lst tx (by lia),.inl ⟨by decide,rfl⟩⟩
      .exact⟨_,d1,3,e1,p1,.tup (λd hd=>tx d (Xc hd)) (by have:=Xr (xs:=xs);lia),.inl ⟨by decide,rfl⟩⟩
     .obtain⟨w,q',ew,tw,pw⟩:=rest p1.pen
      exact⟨w,d1,r1,e1,p1,tw,.inr ⟨c,q',ew,pw⟩⟩
    have z1:xs.length+(ID xs (Gc (-1)) none).length<=sizeLine:=AI (by have:=Ee (xs:=xs) (lo:=Gc (-1)) (hi:=none);lia)
    have hlay:D.N3 xs=true:=hl
    have eo:=TM hlay
    have en:=YE (ds:=xs)
    have tl:∀{T:Sto},C5 p T->∃X T',(spT [Gc (.ref p),Gc (.tup xs),none,none] T).map (λr=>(flD r.1,r.2.2))=Gc (X,T')/\Tq X/\Pn p T T':=by
     intro T hq
     obtain⟨X,T',r,e1,p1,tw,alt⟩:=ways hq
     rcases alt with⟨c,ed⟩|⟨c,q'',ew,pw⟩
     .exact⟨X,T',by simp[spT,St.Kd.isA,e1,c,z1,ed,s4,n1],tw,p1⟩
     .exact⟨X,q'',by simp[spT,St.Kd.isA,e1,c,ew],tw,p1.trans pw⟩
    by_cases hemp:xs.isEmpty=true
    .obtain⟨X,T',e1,tw,p1⟩:=tl h
     exact⟨X,T',by simp[Ky,St.Kd.isA,eo,en,hemp,e1],tw,p1⟩
    .have hemp:xs.isEmpty=false:=by simpa using hemp
     have hpos:0<xs.length:=by
      cases xs with
      |nil=>cases hemp
      |cons a b=>simp
     obtain⟨r0,S0,e0,a0,b0,p0⟩:=Aa h (n:=6) (by decide) (by decide)
     by_cases c0:0<r0
     .obtain⟨r1,S1,e1,a1,b1,p1⟩:=Aa p0.pen (n:=(xs.length:Int)) (by lia) (by lia)
      obtain⟨y,ey,hy⟩:=pick (xs:=xs) (r:=r1) a1 b1
      obtain⟨X,S2,ew,tw,pw⟩:=EG N k' (by lia) (hx y hy) p1.pen
      have z2:(ID xs none (Gc r1)).length+1<=sizeLine:=AI (by have:=Ee (xs:=xs) (lo:=none) (hi:=Gc r1);lia)
      have z3:(ID xs none (Gc r1)).length+1+(ID xs (Gc (r1+1)) none).length<=sizeLine:=AI (by have:=Ee (xs:=xs) (lo:=none) (hi:=Gc r1);have:=Ee (xs:=xs) (lo:=Gc (r1+1)) (hi:=none);lia)
      have s1:(1:Nat)<=sizeLine:=AI (by decide)
      refine⟨.tup (ID xs none (Gc r1)++X::ID xs (Gc (r1+1)) none),S2,by simp[Ky,St.Kd.isA,eo,en,hemp,e0,c0,e1,ey,ew,z2,z3,s1],?_,(p0.trans p1).trans pw⟩
      refine .tup (λd hd=>?_) (by
       have:=Ee (xs:=xs) (lo:=none) (hi:=Gc r1)
       have:=Ee (xs:=xs) (lo:=Gc (r1+1)) (hi:=none)
       rw[tV,sk]
       lia)
      rcases sX.mp hd with hd|hd
      .exact tx d (Iz hd)
      .rcases rZ.mp hd with rfl|hd
       .exact tw
       .exact tx d (Iz hd)
     .obtain⟨X,T',e1,tw,p1⟩:=tl p0.pen
      exact⟨X,T',by simp[Ky,St.Kd.isA,eo,en,hemp,e0,c0,e1],tw,p0.trans p1⟩
end
section
variable{S:Sto}{p:Nat}{t:Tr}{ls:Wp Ld}{ds:Wp AX}{n:Nat}
theorem Dz{i:Int}(h0:0<=i)(h1:i<2^150):Sd n (.int i):=.int (by
 have:i.natAbs<2^150:=Jm h0 h1
 exact rz this (tL (by decide) (by decide)))
theorem m9:(1000:Int)<2^150:=by decide
theorem G6{i:Nat}(h:i<=1000):Sd n (.int (i:Int)):=Dz (by lia) (by have:=m9;lia)
theorem iE{r:Rat}(h:Sz 30 r):Sd (n+1) (aD r):=.tup (λd hd=>by
 simp only[rZ,sC,tF]at hd
 rcases hd with rfl|rfl
 .exact .int (rz h.1 (tL (by decide) (by decide)))
 .exact .int (rz (show((r.den:Int)).natAbs<2^30 by simpa using h.2) (tL (by decide) (by decide)))) (by simp)
theorem Zj{rs:Wp Rat}(h:∀r∈rs,Sz 30 r)(l:rs.length<=10):Sd (n+2) (shD rs):=.tup (λd hd=>by
 obtain⟨r,hr,rfl⟩:=uA.mp hd
 exact iE (h r hr)) (by simp;lia)
theorem Ss:uW (rh "bring")=true:=by decide+kernel
theorem Wm:uW (rh "pool")=true:=by decide+kernel
theorem WS:uW (rh "swap")=true:=by decide+kernel
theorem TH:uW (rh "trade")=true:=by decide+kernel
theorem Tv:uW (rh "spoil")=true:=by decide+kernel
theorem Ve:uW (rh "throw")=true:=by decide+kernel
theorem Wb:uW (rh "sell")=true:=by decide+kernel
theorem Q1:Sd n (.str (rh "bring")):=.str (by decide+kernel) (by decide+kernel) Ss
theorem VU:Sd n (.str (rh "pool")):=.str (by decide+kernel) (by decide+kernel) Wm
theorem bB:Sd n (.str (rh "swap")):=.str (by decide+kernel) (by decide+kernel) WS
theorem YJ:Sd n (.str (rh "trade")):=.str (by decide+kernel) (by decide+kernel) TH
theorem Wq:Sd n (.str (rh "spoil")):=.str (by decide+kernel) (by decide+kernel) Tv
theorem YA:Sd n (.str (rh "throw")):=.str (by decide+kernel) (by decide+kernel) Ve
theorem Vk:Sd n (.str (rh "sell")):=.str (by decide+kernel) (by decide+kernel) Wb
theorem VF{st:Stt}{k:Nat}{d:AX}(ht:KI t)(inv:Gz t k st)(hk:k<=16)(hc:Can t st d):Sd 2 d.d:=by
 obtain⟨t1,t2,t3,t4,t5,t6⟩:=ht
 have big:∀{x:Int},x<2^(131+k)->x<2^150:=λh=>va h (GI (by lia))
 have big2:∀{x:Int},x<2^131->x<2^150:=λh=>va h (GI (by lia))
 have pc:∀{i:Nat} {x:Int},i<st.AB.length->1<=x->x<=(AM st.AB i).n->Sd 1 (.int x):=λhi h1 h2=>Dz (by lia) (big (Int.lt_of_le_of_lt h2 (inv.pcs _ (BN hi)).2))
 have ix:∀{i:Nat},i<st.AB.length->Sd 1 (.int (i:Int)):=λhi=>G6 (by have:=inv.len;lia)
 cases d with
 |GX p kd n=>
  obtain⟨h1,h2,h3,h4⟩:=hc
  refine .tup (λx hx=>?_) (by simp)
  simp only[rZ,sC,tF]at hx
  rcases hx with rfl|rfl|rfl|rfl
  .exact Q1
  .exact G6 (by lia)
  .exact G6 (by lia)
  .exact Dz (by lia) (big2 h4)
 |Mz a b=>
  obtain⟨_,h1,h2,_⟩:=hc
  refine .tup (λx hx=>?_) (by simp)
  simp only[rZ,sC,tF]at hx
  rcases hx with rfl|rfl|rfl
  .exact VU
  .exact ix h1
  .exact ix h2
 |swap l g kd n=>
  obtain⟨h1,h2,h3,h4,h5,h6,h7⟩:=hc
  refine .tup (λx hx=>?_) (by simp)
  simp only[rZ,sC,tF]at hx
  rcases hx with rfl|rfl|rfl|rfl|rfl
  .exact bB
  .exact ix h1
  .exact pc h1 h2 h3
  .exact G6 (by lia)
  .exact Dz (by lia) (big2 h7)
 |FQ u l g kd n=>
  obtain⟨h1,h2,h3,h4,h5,h6,h7,h8,h9,h10⟩:=hc
  refine .tup (λx hx=>?_) (by simp)
  simp only[rZ,sC,tF]at hx
  rcases hx with rfl|rfl|rfl|rfl|rfl|rfl
  .exact YJ
  .exact Dz h9 (by have:=m9;lia)
  .exact ix h1
  .exact pc h1 h2 h3
  .exact G6 (by lia)
  .exact Dz (by lia) (big2 h7)
 |G4 l n=>
  obtain⟨h1,h2,h3⟩:=hc
  refine .tup (λx hx=>?_) (by simp)
  simp only[rZ,sC,tF]at hx
  rcases hx with rfl|rfl|rfl
  .exact Wq
  .exact ix h1
  .exact pc h1 h2 h3
 |thr l n ws=>
  obtain⟨h1,h2,h3,h4,h5⟩:=hc
  refine .tup (λx hx=>?_) (by simp)
  simp only[rZ,sC,tF]at hx
  rcases hx with rfl|rfl|rfl|rfl
  .exact YA
  .exact ix h1
  .exact pc h1 h2 h3
  .refine .tup (λy hy=>?_) (by simp;lia)
   obtain⟨w,hw,rfl⟩:=uA.mp hy
   have:=h5 w hw
   exact Dz (by lia) (by have:=m9;lia)
 |Kc a b x=>
  obtain⟨_,h1,h2,h3,h4,h5⟩:=hc
  refine .tup (λy hy=>?_) (by simp)
  simp only[rZ,sC,tF]at hy
  rcases hy with rfl|rfl|rfl|rfl
  .exact Vk
  .exact G6 (by lia)
  .exact G6 (by lia)
  .refine iE ⟨?_,?_⟩
   .have:(12:Nat)<2^30:=by decide
    lia
   .have:(12:Nat)<2^30:=by decide
    lia
theorem Q6(h:CB t ls ds)(hh:0<=t.h/\t.h<=9/\0<=t.l/\t.l<=9):Sd 3 t.d:=by
 obtain⟨t1,t2,t3,t4,t5,t6⟩:=h.tr
 have sz:=h.inv.sz.2
 have hl:t.ho.length=t.p:=h.inv.hold
 have k9:(1000:Int)<2^150:=by decide
 refine .tup (λx hx=>?_) (by simp)
 simp only[rZ,sC,tF]at hx
 rcases hx with rfl|rfl|rfl|rfl|rfl|rfl
 .exact G6 (by lia)
 .exact G6 (by lia)
 .exact G6 (by lia)
 .exact Zj sz (by lia)
 .exact Dz hh.1 (by lia)
 .exact Dz hh.2.2.1 (by lia)
theorem Qj(h:CB t ls ds):Sd 4 (.tup (ls.map Ld.d)):=by
 obtain⟨t1,t2,t3,t4,t5,t6⟩:=h.tr
 have sz:=h.inv.sz.1
 have ln:ls.length<=4:=h.inv.len
 refine .tup (λx hx=>?_) (by simp;lia)
 obtain⟨l,hl,rfl⟩:=uA.mp hx
 have kd:=h.inv.kind l hl
 have pc:=h.inv.pcs l hl
 have ow:l.ow.length=t.p:=h.inv.own l hl
 refine .tup (λy hy=>?_) (by simp)
 simp only[rZ,sC,tF]at hy
 rcases hy with rfl|rfl|rfl
 .exact G6 (by lia)
 .exact Dz pc.1 (va pc.2 (GI (by lia)))
 .exact Zj (sz l hl) (by lia)
theorem YH(h:CB t ls ds)(hl:ds.length<=10):Sd 3 (.tup (ds.map AX.d)):=by
 refine .tup (λx hx=>?_) (by simp;lia)
 obtain⟨d,hd,rfl⟩:=uA.mp hx
 obtain⟨i,hi⟩:=xj hd
 exact VF h.tr (h.at i) (by simp;lia) (Kh h.good hi)
theorem YQ(h:CB t ls ds)(hl:ds.length<=10){d:AX}(hd:d∈ds):Sd 2 d.d:=by
 obtain⟨i,hi⟩:=xj hd
 exact VF h.tr (h.at i) (by simp;lia) (Kh h.good hi)
theorem cZ(x:Rat):JY x.num x.den=1:=by
 have:=x.reduced
 unfold JY
 unfold Nat.Coprime at this
 simp[this]
theorem QR{a b:Int}:deq (.int a) (.int b)=decide (a=b):=by
 have:deq (.int a) (.int b)=(a==b):=rfl
 rw[this]
 by_cases c:a=b<;>simp[c]
theorem RP{st:Stt}{d:AX}(hc:Can t st d):ET t.p t.k d.d=true:=by
 cases d with
 |GX a b n=>
  obtain⟨h1,h2,h3,_⟩:=hc
  have:(a:Int)<=(t.p:Int)-1:=by lia
  have:(b:Int)<=(t.k:Int)-1:=by lia
  simp+decide [*,AX.d,ET,IC,AJ,Ag]
 |Mz a b=>
  obtain⟨h1,_⟩:=hc
  have:¬((a:Int)=(b:Int)):=by lia
  simp+decide [*,AX.d,ET,IC,Ag,Y5,QR]
 |swap l g k n=>
  obtain⟨h1,h2,h3,h4,h5,h6,h7⟩:=hc
  have:(k:Int)<=(t.k:Int)-1:=by lia
  simp+decide [*,AX.d,ET,IC,AJ,Ag]
 |FQ u l g k n=>
  obtain⟨h1,h2,h3,h4,h5,h6,h7,h8,h9,h10⟩:=hc
  have:(k:Int)<=(t.k:Int)-1:=by lia
  simp+decide [*,AX.d,ET,IC,AJ,Ag]
 |G4 l n=>
  obtain⟨h1,h2,_⟩:=hc
  simp+decide [*,AX.d,ET,IC,Ag]
 |thr l n ws=>
  obtain⟨h1,h2,h3,h4,h5⟩:=hc
  have hw:(ws.map D.int).all (AJ 1 99)=true:=by
   simp only[List.all_map,List.all_eq_true]
   intro w hw
   have:=h5 w hw
   simp[*,AJ]
  have hl:((ws.map D.int).length:Int)=(t.k:Int)+1:=by simp[h4]
  simp only[AX.d,ET,IC,IG,hl,hw]
  simp+decide [*,Ag]
 |Kc a b x=>
  obtain⟨h0,h1,h2,h3,h4,h5⟩:=hc
  have i1:(a:Int)<=(t.p:Int)-1:=by lia
  have i2:(b:Int)<=(t.p:Int)-1:=by lia
  have i3:(1:Int)<=(x.den:Int):=by have:=x.den_pos;lia
  have i4:(x.den:Int)<=12:=by exact_mod_cast h5
  have i5:(0:Int)<=x.num:=by lia
  have i6:¬((a:Int)=(b:Int)):=by lia
  have i7:=cZ x
  simp+decide [*,AX.d,ET,IC,AJ,KH,B3,aD,Y5,QR]
end
noncomputable def kN:Wp Str:=["NoDeed","NotDone","TooMany","NoNext","NothingDone","NoPartner","NoFirst","NoTrain"]
def hdN:Tg->Ex:=gOr kN "NoDeed" (Ah (Az [eC (.str "!deed"),eC .non])) (gOr kN "NotDone" B0 (gOr kN "TooMany" (Ah (Az [eC (.str "!many"),eC .non])) (gOr kN "NoNext" (Ah (Az [eC (.str "!next"),eC .non])) (gOr kN "NothingDone" (Ah (Az [eC (.str "!nothing"),eC .non])) (gOr kN "NoPartner" (Ah (Az [eC (.str "!partner"),eC .non])) (gOr kN "NoFirst" (Ah (Az [eC (.str "!first"),eC .non])) (gOr kN "NoTrain" (Ah (Az [eC (.str "!train"),eC .non])) gNo)))))))
def mkE:Ev:=LJ "told" "_law_made_so" [0,1] (Ke "Leader" AY [eV 0,eV 1]) (Ri "Leader" A5 [eV 0,eV 1]) 1 hdN
def soT(M:Ev):Ex:=Ah (eOp (o2 wEq) [eIx M (eI 0),eV 2])
theorem cB:JL=(AV (Bs 2 (eC (.str "!train"))) (AV (xIf (AF An [eV 0]) (Bs 2 (eIx (G3 [eC (.str "!first"),eC (.str "told")]) (eOp (o1 WV) [AF CS [eV 0,eV 1]]))) Bo) (soT mkE))):=rfl
theorem WL:hdN ⟨"NoDeed",none⟩=Ah (Az [eC (.str "!deed"),eC .non]):=by
 simp[hdN,kN,gOr]
theorem Tu:hdN ⟨"NoTrain",none⟩=Ah (Az [eC (.str "!train"),eC .non]):=by
 have n1:(rh "NoTrain")≠rh "NoDeed":=by decide
 have n2:(rh "NoTrain")≠rh "NotDone":=by decide
 have n3:(rh "NoTrain")≠rh "TooMany":=by decide
 have n4:(rh "NoTrain")≠rh "NoNext":=by decide
 have n5:(rh "NoTrain")≠rh "NothingDone":=by decide
 have n6:(rh "NoTrain")≠rh "NoPartner":=by decide
 have n7:(rh "NoTrain")≠rh "NoFirst":=by decide
 simp[hdN,kN,gOr,n1,n2,n3,n4,n5,n6,n7]
theorem TN:hdN ⟨"NoFirst",none⟩=Ah (Az [eC (.str "!first"),eC .non]):=by
 have n1:(rh "NoFirst")≠rh "NoDeed":=by decide
 have n2:(rh "NoFirst")≠rh "NotDone":=by decide
 have n3:(rh "NoFirst")≠rh "TooMany":=by decide
 have n4:(rh "NoFirst")≠rh "NoNext":=by decide
 have n5:(rh "NoFirst")≠rh "NothingDone":=by decide
 have n6:(rh "NoFirst")≠rh "NoPartner":=by decide
 simp[hdN,kN,gOr,n1,n2,n3,n4,n5,n6]
theorem Po:hdN ⟨"NoPartner",none⟩=Ah (Az [eC (.str "!partner"),eC .non]):=by
 have n1:(rh "NoPartner")≠rh "NoDeed":=by decide
 have n2:(rh "NoPartner")≠rh "NotDone":=by decide
 have n3:(rh "NoPartner")≠rh "TooMany":=by decide
 have n4:(rh "NoPartner")≠rh "NoNext":=by decide
 have n5:(rh "NoPartner")≠rh "NothingDone":=by decide
 simp[hdN,kN,gOr,n1,n2,n3,n4,n5]
theorem Ll:CS=Aq:=rfl
section
variable{S:Sto}{T X:D}{n:Nat}
noncomputable def BK(T X:D):D:=.tup [T,X,.tup []]
theorem ZW(ht:An [T] S=Gc (.bl false,S)):AY [.ref n,T,X] S=none/\A5 [.ref n,T,X] S=Gc (⟨"NoTrain",none⟩,S):=by
 constructor
 .simp[AY,D1,ht,Hk]
 .simp[A5,F0,cR,ht,JT,Lo,YD,Hl]
theorem cY(ht:An [T] S=Gc (.bl true,S))(hf:Aq [T,X] S=Gc (.bl false,S)):AY [.ref n,T,X] S=none/\A5 [.ref n,T,X] S=Gc (⟨"NoFirst",none⟩,S):=by
 constructor
 .simp[AY,D1,ht,hf,Hk]
 .simp[A5,F0,cR,ht,hf,JT,Lo,YD,dP,Na,Ui,Hl]
theorem TZ(ht:An [T] (S++[.ins "Leader" []])=Gc (.bl true,S++[.ins "Leader" []]))(hf:Aq [T,X] (S++[.ins "Leader" []])=Gc (.bl true,S++[.ins "Leader" []])){E:En}{f g:Ev}(ef:∀S,f E S=Gc (T,S))(eg:∀S,g E S=Gc (X,S)):∃S',Ke "Leader" AY [f,g] E S=Gc (.ref S.length,S')/\LAt S' S.length (S.length+1) (BK T X) 0/\Ed [] S S':=by
 have o1:(S++[Cl.ins "Leader" []])[S.length]?=Gc (.ins "Leader" []):=sU
 have s3:1+1+1<=sizeLine:=AI (by decide)
 have s0:0<=sizeLine:=vv _
 have x1:=Pd (d:=BK T X) (n:=S.length) (f:="kept") (E:=[Gc (.ref S.length),Gc T,Gc X]) (o:=eV 0) (v:=Az [eV 1,eV 2,Az []]) (S:=S++[Cl.ins "Leader" []]) (S1:=S++[Cl.ins "Leader" []]) (S2:=S++[Cl.ins "Leader" []]) (C:="Leader") (by simp[BK,s3]) (by simp) o1 (by decide)
 have e1:(S++[Cl.ins "Leader" []]).set S.length (.ins "Leader" (Lb "kept" (BK T X) []))=S++[Cl.ins "Leader" [("kept",BK T X)]]:=by simp[Lb]
 rw[e1]at x1
 have x2:=Pd (d:=.ref (S.length+1)) (n:=S.length) (f:="earlier") (E:=[Gc (.ref S.length),Gc T,Gc X]) (o:=eV 0) (v:=Jd []) (S:=S++[Cl.ins "Leader" [("kept",BK T X)]]) (S1:=(S++[Cl.ins "Leader" [("kept",BK T X)]])++[.lst []]) (S2:=(S++[Cl.ins "Leader" [("kept",BK T X)]])++[.lst []]) (C:="Leader") (as:=[("kept",BK T X)]) (by simp[s0]) (by simp) (by simp) (by simp)
 have e2:((S++[Cl.ins "Leader" [("kept",BK T X)]])++[Cl.lst []]).set S.length (.ins "Leader" (Lb "earlier" (.ref (S.length+1)) [("kept",BK T X)]))=S++[lead (BK T X) (S.length+1),.lst []]:=by
  have:Lb (rh "earlier") (.ref (S.length+1)) [(rh "kept",BK T X)]=lds (BK T X) (S.length+1):=nr rfl
  rw[this]
  simp[lead]
 rw[e2]at x2
 refine⟨S++[lead (BK T X) (S.length+1),.lst []],?_,⟨by simp,[],by simp,sD _⟩,.app⟩
 have nw:AY [.ref S.length,T,X] (S++[.ins "Leader" []])=Gc (.non,S++[lead (BK T X) (S.length+1),.lst []]):=by
  generalize hz1:Xd "Leader" "kept" (eV 0) (Az [eV 1,eV 2,Az []])=Z1 at x1
  generalize hz2:Xd "Leader" "earlier" (eV 0) (Jd [])=Z2 at x2
  have eb:D1=(AV (xIf (Di (AF An [eV 1])) B0 Bo)
  (AV (xIf (Di (AF Aq [eV 1,eV 2])) B0 Bo)
  (AV Z1 Z2))):=by rw[<-hz1,<-hz2];rfl
  generalize BK T X=bk at*
  generalize S++[lead bk (S.length+1),.lst []]=S9 at*
  generalize S++[Cl.ins "Leader" [("kept",bk)]]=S8 at*
  generalize S++[Cl.ins "Leader" []]=S7 at*
  simp[AY,eb,ht,hf,x1,x2]
 unfold Ke
 generalize BK T X=bk at*
 simp[ef,eg,nw]
theorem fL{x:Str}(hF:∀n S,AY [.ref n,T,X] S=none/\A5 [.ref n,T,X] S=Gc (⟨x,none⟩,S)):Ke "Leader" AY [eV 0,eV 1] [Gc T,Gc X] S=none/\Ri "Leader" A5 [eV 0,eV 1] [Gc T,Gc X] S=Gc (⟨x,none⟩,[Gc T,Gc X],S++[.ins "Leader" []]):=by
 unfold Ke Ri
 simp[(hF _ _).1,(hF _ _).2]
theorem gB (hT : Tq T) (hX : Tq X) (hs : S.any (Lp "_law_made_so") = true) {o : rW D} : (EL T = false -> ∃ S', mkE [Gc T, Gc X, o] S = Gc (.tup [.str "!train", .non], S') /\ Ed [] S S') /\ (∀ p k r, EL T = true -> T = F3 p k r -> p ≤ 4 -> Ik p k X = false -> ∃ S', mkE [Gc T, Gc X, o] S = Gc (.tup [.str "!first", .non], S') /\ Ed [] S S') /\ (∀ p k r, EL T = true -> T = F3 p k r -> p ≤ 4 -> Ik p k X = true -> ∃ S', mkE [Gc T, Gc X, o] S = Gc (.tup [.str "told", .ref S.length], S') /\ LAt S' S.length (S.length + 1) (BK T X) 0 /\ Ed [] S S') := by
  have s2 : 1 + 1 ≤ sizeLine := AI (by decide)
  have cp : Py [0, 1] [Gc T, Gc X, o] = [Gc T, Gc X] := rfl
  have run : ∀ {z : rW (D × Sto)}, (match Ke "Leader" AY [(eV 0), (eV 1)] [Gc T, Gc X] S with
      | some q => Gc (D.tup [.str "told", q.1], q.2)
      | none => (Ri "Leader" A5 [(eV 0), (eV 1)] [Gc T, Gc X] S).bind fun q => (hdN q.1 (none :: sH 1 none) q.2.2).bind fun z => match z.1 with | .ret d => Gc (d, z.2.2) | .nx => none) = z -> mkE [Gc T, Gc X, o] S = z := fun {z} e => by
    unfold mkE LJ
    rw [sZ hs, cp]
    exact e
  refine ⟨fun c => ?_, fun p k r c e hp g => ?_, fun p k r c e hp g => ?_⟩
  · obtain ⟨m1, m2⟩ := fL (S := S) (T := T) (X := X) (x := "NoTrain") fun n S => ZW (by rw [Iv hT, c])
    refine ⟨S ++ [.ins "Leader" []], run ?_, .app⟩
    rw [m1, m2]
    simp [Tu, s2]
  · obtain ⟨m1, m2⟩ := fL (S := S) (T := T) (X := X) (x := "NoFirst") fun n S => cY (by rw [Iv hT, c]) (by rw [e, JW hX (by lia), g])
    refine ⟨S ++ [.ins "Leader" []], run ?_, .app⟩
    rw [m1, m2]
    simp [TN, s2]
  · obtain ⟨S', m1, m2, m3⟩ := TZ (S := S) (T := T) (X := X) (by rw [Iv hT, c]) (by rw [e, JW hX (by lia), g]) (E := [Gc T, Gc X]) (f := eV 0) (g := eV 1) (fun _ => by simp) (fun _ => by simp)
    refine ⟨S', run ?_, m2, m3⟩
    rw [m1]
theorem J6(hT:Tq T)(hX:Tq X)(hs:S.any (Lp "_law_made_so")=true):∃S',BY [T,X] S=Gc (.bl true,S')/\Ed [] S S':=by
 have hk:=λo=>gB hT hX hs (o:=o)
 have t1:=Iv (S:=S) hT
 have s2:1+1<=sizeLine:=AI (by decide)
 have q1:KZ (.str "!train") (.str "!train")=true:=by decide+kernel
 have q2:KZ (.str "!first") (.str "!first")=true:=by decide+kernel
 have q3:KZ (.str "told") (.str "told")=true:=by decide+kernel
 unfold BY
 rw[cB]
 generalize mkE=M at*
 cases c:EL T with
 |false=>
  rw[c]at t1
  obtain⟨S',e,s⟩:=(hk (Gc (.str "!train"))).1 c
  refine⟨S',?_,s⟩
  simp[soT,t1,e,q1]
 |true=>
  rw[c]at t1
  obtain⟨p,k,r,e0,hp⟩:=Vn c
  cases g:Ik p k X with
  |false=>
   have f1:CS [T,X] S=Gc (.bl false,S):=by rw[Ll,e0,JW hX (by lia),g]
   obtain⟨S',e,s⟩:=(hk (Gc (.str "!first"))).2.1 p k r c e0 hp g
   refine⟨S',?_,s⟩
   simp[soT,t1,f1,e,q2,s2]
  |true=>
   have f1:CS [T,X] S=Gc (.bl true,S):=by rw[Ll,e0,JW hX (by lia),g]
   obtain⟨S',e,_,s⟩:=(hk (Gc (.str "told"))).2.2 p k r c e0 hp g
   refine⟨S',?_,s⟩
   simp[soT,t1,f1,e,q3,s2]
end
section
variable{S:Sto}{t:Tr}{d:AX}{ls:Wp Ld}{ds:Wp AX}{L q m:Nat}{X:D}
theorem LO(h:CB t ls ds)(hl:ds.length<=10)(hd:d∈ds):AK [t.d,d.d] S=Gc (.bl true,S):=by
 have sd:=(YQ h hl hd).tb
 obtain⟨i,hi⟩:=xj hd
 have e:=Mx (S:=S) (p:=t.p) (k:=t.k) (r:=[.int t.b,shD t.ho,.int t.h,.int t.l]) sd
 rw[RP (Kh h.good hi)]at e
 exact e
theorem Xf(hL:LAt S L q (AO t ls ds) m)(hm:m<1000)(bok:CB t ls (ds++[d]))(hl:(ds++[d]).length<=10)(h3:VE (ds++[d])<=3):∃x S',BI [.ref L,d.d] S=Gc (x,S')/\LAt S' L q (AO t ls (ds++[d])) (m+1)/\Ed [L,q] S S':=by
 obtain⟨r1,r2⟩:=Yp hL (X:=d.d)
 have i:=LO (S:=S) bok hl (d:=d) (by simp)
 have bk:bkE [Gc (.ref L),Gc d.d,Gc t.d,Gc (.tup (ls.map Ld.d)),Gc (.tup (ds.map AX.d)),none] S=Gc (AO t ls (ds++[d]),S):=by
  have sz:ds.length+1<=sizeLine:=AI (by simp at hl;lia)
  have s3:1+1+1<=sizeLine:=AI (by decide)
  simp[bkE,sz,AO,s3]
 have b2:atI [t.d,.tup (ls.map Ld.d),.tup ((ds++[d]).map AX.d)] 2=Gc (.tup ((ds++[d]).map AX.d)):=nr rfl
 have u1:=LN (S:=S) bok
 have ad:=Ow (S:=S) (t:=t) (ds:=ds++[d]) (λx hx=>LO bok hl hx) (by lia)
 have af:(decide ((ds++[d]).length<=20) && decide (VE (ds++[d])<=3))=true:=by
  rw[sA]
  exact⟨by simp at hl ⊢; lia,by simpa using h3⟩
 rw[af]at ad
 obtain⟨S',e1,l1,s1⟩:=Zv hL hm (b':=AO t ls (ds++[d]))
 have mb:=Pq (S:=S') bok (m:=ds.length) (d:=d) (by simp)
 rw[take_snoc]at mb
 generalize bkE=Z at*
 refine⟨if makes d=true then .int (cnt ls ds)else .non,S',?_,l1,s1⟩
 rw[r1]
 have db:dr S (AO t ls (ds++[d]))=.val (AO t ls (ds++[d])):=rfl
 have ib:asS (.val (AO t ls (ds++[d])))=Gc [t.d,.tup (ls.map Ld.d),.tup ((ds++[d]).map AX.d)]:=rfl
 have hi:=hL.ins
 generalize AO t ls (ds++[d])=BK at*
 generalize (ds++[d]).map AX.d=DD at*
 have lt:(lds (AO t ls ds) q).lookup (rh "turn_to")=none:=nr rfl
 simp[doB,i,bk,u1,db,ib,b2,ad,hi,lt,e1,mb]
theorem iG(hL:LAt S L q (AO t ls ds) m)(hX:Tq X)(c:ET t.p t.k X=false):BI [.ref L,X] S=none/\CG [.ref L,X] S=Gc (⟨"NoDeed",none⟩,S):=by
 obtain⟨r1,r2⟩:=Yp hL (X:=X)
 have i:AK [t.d,X] S=Gc (.bl false,S):=by
  have e:=Mx (S:=S) (p:=t.p) (k:=t.k) (r:=[.int t.b,shD t.ho,.int t.h,.int t.l]) hX
  rw[c]at e
  exact e
 rw[r1,r2]
 constructor
 .simp[doB,i,Hk]
 .simp[doR,i,JT,Lo,YD,Hl]
theorem TC(hL:LAt S L q (AO t ls ds) m)(h:CB t ls ds)(hX:Tq X)(c:AJ 0 (t.p-1) X=false):Bf [.ref L,X] S=none/\Bg [.ref L,X] S=Gc (⟨"NoPartner",none⟩,S):=by
 have u1:=LN (S:=S) h
 have i:Bd [t.d,X] S=Gc (.bl false,S):=by
  have e:=Lr (S:=S) (p:=t.p) (k:=t.k) (r:=[.int t.b,shD t.ho,.int t.h,.int t.l]) hX
  rw[c]at e
  exact e
 have hi:=hL.ins
 have n1:BL [AO t ls ds,X] S=none/\Bt [AO t ls ds,X] S=Gc (⟨"NoPartner",none⟩,S):=by
  constructor
  .simp[BL,D8,AO,i,Hk]
  .simp[Bt,D9,cR,AO,i,Lo,YD,Hl]
 have w:AQ [.int (ds.length:Int),.int 0,.int (ds.length:Int)] S=Gc (.bl true,S):=by
  have:=within_int (S:=S) (i:=(ds.length:Int)) (j:=0) (k:=(ds.length:Int))
  simpa using this
 have n2:BW [AO t ls ds,.int (ds.length:Int)] S=Gc (.non,S)/\B2 [AO t ls ds,.int (ds.length:Int)] S=none:=by
  constructor
  .simp[BW,EO,AO,w]
  .simp[B2,ER,cR,AO,w,Lo,dP,Na]
 have b1:EZ [AO t ls ds,.int (ds.length:Int),X] S=none/\Ec [AO t ls ds,.int (ds.length:Int),X] S=Gc (⟨"NoPartner",none⟩,S):=by
  generalize AO t ls ds=BK at*
  constructor
  .simp[EZ,JE,u1,n2.1,n1.1]
  .simp[Ec,JR,cR,JT,Ox,Na,u1,n2.1,n2.2,n1.1,n1.2,Ui]
 have bl:asS (dr S (AO t ls ds))=Gc [t.d,.tup (ls.map Ld.d),.tup (ds.map AX.d)]:=rfl
 have b2:atI [t.d,.tup (ls.map Ld.d),.tup (ds.map AX.d)] 2=Gc (.tup (ds.map AX.d)):=nr rfl
 constructor
 .generalize AO t ls ds=BK at*
  simp[Bf,GB,hi,bl,b2,b1.1]
 .generalize AO t ls ds=BK at*
  simp[Bg,F4,cR,Ox,hi,bl,b2,b1.2]
end
structure Wk(S:Sto)(p:Nat):Prop where
 pen:C5 p S
 t0:S[0]?=Gc (Cl.tab "_law_made_so")
 t1:S[1]?=Gc (Cl.tab "law")
 p2:2<=p
theorem tab_of{S:Sto}{x:Str}{n:Nat}(h:S[n]?=Gc (Cl.tab x)):S.any (Lp x)=true:=List.any_eq_true.mpr ⟨_,sQ h,by unfold Lp;simp⟩
section
variable{S S':Sto}{p:Nat}{T F LD:D}{a0 a5 a6 a7 a8 a9 a10 a11 a12:rW D}
theorem Wk.pn(w:Wk S p)(h:Pn p S S'):Wk S' p:=⟨h.pen,h.get w.t0 (by have:=w.p2;lia),h.get w.t1 (by have:=w.p2;lia),w.p2⟩
theorem Wk.same(w:Wk S p){A:Wp Nat}(h:Ed A S S')(hA:∀n∈A,2<=n/\n≠p):Wk S' p:=
 ⟨by
   obtain⟨ds,e,q⟩:=w.pen
   exact⟨ds,h.get e λz=>(hA p z).2 rfl,q⟩,h.get w.t0 λz=>by have:=(hA 0 z).1;lia,h.get w.t1 λz=>by have:=(hA 1 z).1;lia,w.p2⟩
theorem VS(h:C5 p S):∃X S',Ao 8 [.ref p,.int 2] S=Gc (X,S')/\Tq X/\Pn p S S':=HP (n:=8) (d:=2) (by decide) h
theorem Qi{xs:Wp D}{n:Int}(w:Wk S p)(hn:n=xs.length)(h0:0<n)(h1:n<1000)(hx:∀x∈xs,Tq x):∃r x S',AG [.ref p,.int n] S=Gc (.int r,S')/\atI xs r=Gc x/\Tq x/\Wk S' p:=by
 obtain⟨r,S1,e1,x1,y1,p1⟩:=Aa w.pen (n:=n) h0 (by lia)
 obtain⟨x,ax,mx⟩:=pick (xs:=xs) (r:=r) x1 (by lia)
 exact⟨r,x,S1,e1,ax,hx x mx,w.pn p1⟩
def tA6:Ex:=(Bs 6 (eIx (G3 [eV 2,AF (Av 8) [eV 1,eV 2],AF (Ao 8) [eV 1,eI 2]]) (AF AG [eV 1,eI 3])))
def tA7:Ex:=(Bs 7 (eIx (G3 [eV 3,AF (Av 8) [eV 1,eV 3],Az [AF (Av 8) [eV 1,eV 4]],AF (Ao 8) [eV 1,eI 2]]) (AF AG [eV 1,eI 4])))
def tAI:Ex:=(xIf (Di (AF BY [eV 6,eV 7])) (Ah (eC (.bl false))) Bo)
theorem lC(w:Wk S p)(hT:Sd 4 T):∃x S',tA6 [a0,Gc (.ref p),Gc T,Gc F,Gc LD,a5,a6,a7,a8,a9,a10,a11,a12] S=Gc (.nx,[a0,Gc (.ref p),Gc T,Gc F,Gc LD,a5,Gc x,a7,a8,a9,a10,a11,a12],S')/\Tq x/\Wk S' p:=by
 obtain⟨X1,S1,e1,h1,p1⟩:=EG 8 4 (by decide) hT w.pen
 obtain⟨X2,S2,e2,h2,p2⟩:=VS p1.pen
 obtain⟨r,x,S3,e3,e4,h3,w3⟩:=Qi (xs:=[T,X1,X2]) (n:=3) ((w.pn p1).pn p2) rfl (by decide) (by decide) (by
  intro x hx
  simp only[rZ,sC,tF]at hx
  rcases hx with rfl|rfl|rfl
  .exact hT.tb
  .exact h1
  .exact h2)
 have s3:1+1+1<=sizeLine:=AI (by decide)
 exact⟨x,S3,by simp[tA6,e1,e2,e3,e4,s3],h3,w3⟩
theorem lQ(w:Wk S p)(hF:Sd 4 F)(hL:Sd 4 LD):∃x S',tA7 [a0,Gc (.ref p),Gc T,Gc F,Gc LD,a5,a6,a7,a8,a9,a10,a11,a12] S=Gc (.nx,[a0,Gc (.ref p),Gc T,Gc F,Gc LD,a5,a6,Gc x,a8,a9,a10,a11,a12],S')/\Tq x/\Wk S' p:=by
 obtain⟨X1,S1,e1,h1,p1⟩:=EG 8 4 (by decide) hF w.pen
 obtain⟨X2,S2,e2,h2,p2⟩:=EG 8 4 (by decide) hL p1.pen
 obtain⟨X3,S3,e3,h3,p3⟩:=VS p2.pen
 obtain⟨r,x,S4,e4,e5,h4,w4⟩:=Qi (xs:=[F,X1,.tup [X2],X3]) (n:=4) (((w.pn p1).pn p2).pn p3) rfl (by decide) (by decide) (by
  intro x hx
  simp only[rZ,sC,tF]at hx
  rcases hx with rfl|rfl|rfl|rfl
  .exact hF.tb
  .exact h1
  .exact .tup (λd hd=>by rw[sj.mp hd];exact h2) (by simp)
  .exact h3)
 have s4:1+1+1+1<=sizeLine:=AI (by decide)
 have s1:1<=sizeLine:=AI (by decide)
 exact⟨x,S4,by simp[tA7,e1,e2,e3,e4,e5,s4,s1],h4,w4⟩
def UK:Ex:=AV tA6 (AV tA7 tAI)
theorem Wg(w:Wk S p)(hT:Sd 4 T)(hF:Sd 4 F)(hL:Sd 4 LD):∃x y S',UK [a0,Gc (.ref p),Gc T,Gc F,Gc LD,a5,a6,a7,a8,a9,a10,a11,a12] S=Gc (.nx,[a0,Gc (.ref p),Gc T,Gc F,Gc LD,a5,Gc x,Gc y,a8,a9,a10,a11,a12],S')/\Wk S' p:=by
 obtain⟨x,S1,e1,h1,w1⟩:=lC (F:=F) (LD:=LD) (a0:=a0) (a5:=a5) (a6:=a6) (a7:=a7) (a8:=a8) (a9:=a9) (a10:=a10) (a11:=a11) (a12:=a12) w hT
 obtain⟨y,S2,e2,h2,w2⟩:=lQ (T:=T) (a0:=a0) (a5:=a5) (a6:=Gc x) (a7:=a7) (a8:=a8) (a9:=a9) (a10:=a10) (a11:=a11) (a12:=a12) w1 hF hL
 obtain⟨S3,e3,s3⟩:=J6 h1 h2 (tab_of w2.t0)
 refine⟨x,y,S3,?_,w2.same s3 (by simp)⟩
 unfold UK
 generalize tA6=A6 at*
 generalize tA7=A7 at*
 simp[e1,e2,tAI,e3]
def VO:Ex:=(xIf (eOr (Di (AF BY [eV 2,eV 7])) (Di (AF BY [eC .non,eV 7]))) (Ah (eC (.bl false))) Bo)
theorem WM(w:Wk S p)(hT:Tq T){X:D}(hX:Tq X):∃S',VO [a0,Gc (.ref p),Gc T,Gc F,Gc LD,a5,a6,Gc X,a8,a9,a10,a11,a12] S=Gc (.nx,[a0,Gc (.ref p),Gc T,Gc F,Gc LD,a5,a6,Gc X,a8,a9,a10,a11,a12],S')/\Wk S' p:=by
 obtain⟨S1,e1,s1⟩:=J6 hT hX (tab_of w.t0)
 have w1:=w.same s1 (by simp)
 obtain⟨S2,e2,s2⟩:=J6 .non hX (tab_of w1.t0)
 exact⟨S2,by simp[VO,e1,e2],w1.same s2 (by simp)⟩
theorem UH{d:D}{k:Nat}{i:Int}(e:i=k)(h1:1<=k)(h2:k<=100):Dx (.val (.tup [d])) (.val (.int i))=Gc (.val (.tup (sH k d))):=by
 subst e
 have hz:k<=sizeLine:=sI h2 (AI (by decide))
 have e1:¬(k:Int)<=0:=by lia
 have e2:(1:Int)<=k:=by lia
 rw[W9,sg (by simp;lia),sZ (by simp[hz];lia),xF,List.flatten_replicate_singleton]
def jn:Ev:=(Az [eOp (o2 Dx) [Az [eV 4],eI 4],eOp (o2 Dx) [Az [eV 4],eI 5],Az [Az [eI 0,eI 0,eIx (eV 2) (eI 3)]],G3 [eV 4],Az [eV 4,eC .non],Az []])
theorem bG{H:D}{tt:Wp D}(hT:T=.tup tt)(h3:atI tt 3=Gc H)(hH:Tq H)(hL:Tq LD):∃xs,jn [a0,Gc (.ref p),Gc T,Gc F,Gc LD,a5,a6,a7,a8,a9,a10,a11,a12] S=Gc (.tup xs,S)/\∀x∈xs,Tq x:=by
 subst hT
 have s6:1+1+1+1+1+1<=sizeLine:=AI (by decide)
 have s3:1+1+1<=sizeLine:=AI (by decide)
 have s2:1+1<=sizeLine:=AI (by decide)
 have s1:1<=sizeLine:=AI (by decide)
 have r4:=UH (d:=LD) (k:=4) (i:=4) rfl (by decide) (by decide)
 have r5:=UH (d:=LD) (k:=5) (i:=5) rfl (by decide) (by decide)
 have one:∀{x:D},Tq x->Tq (.tup [x]):=λh=>.tup (λd hd=>by rw[sj.mp hd];exact h) (by simp)
 refine⟨[.tup (sH 4 LD),.tup (sH 5 LD),.tup [.tup [.int 0,.int 0,H]],.lst [LD],.tup [LD,.non],.tup []],?_,λx hx=>?_⟩
 .generalize sH 4 LD=R4 at*
  generalize sH 5 LD=R5 at*
  simp[jn,r4,r5,h3,s6,s3,s2,s1]
 .simp only[rZ,sC,tF]at hx
  rcases hx with rfl|rfl|rfl|rfl|rfl|rfl
  .exact .tup (λd hd=>by rw[yq hd];exact hL) (by simp)
  .exact .tup (λd hd=>by rw[yq hd];exact hL) (by simp)
  .refine one (.tup (λd hd=>?_) (by simp))
   simp only[rZ,sC,tF]at hd
   rcases hd with rfl|rfl|rfl
   .exact .int (by decide)
   .exact .int (by decide)
   .exact hH
  .exact .lst (λd hd=>by rw[sj.mp hd];exact hL) (by simp)
  .refine .tup (λd hd=>?_) (by simp)
   simp only[rZ,sC,tF]at hd
   rcases hd with rfl|rfl
   .exact hL
   .exact .non
  .exact .tup (λd hd=>by cases hd) (by simp)
end
def gw:Ev:=(LJ "told" "law" [9,11] (GU "Leader" "do" BI (eV 0) [eV 1]) (Nu "Leader" "do" CG (eV 0) [eV 1]) 1 hdN)
def kF:Ev:=(LJ "told" "law" [9,12] (GU "Leader" "theirs" Bf (eV 0) [eV 1]) (Nu "Leader" "theirs" Bg (eV 0) [eV 1]) 1 hdN)
section
variable{S S':Sto}{p L q m:Nat}{t:Tr}{ls:Wp Ld}{ds:Wp AX}{X:D}{a0 a2 a3 a4 a5 a6 a7 a8 a10 a11 a12:rW D}
theorem aX(w:S.any (Lp "law")=true)(hL:LAt S L q (AO t ls ds) m)(hX:Tq X)(c:ET t.p t.k X=false){a1:rW D}:gw [a0,a1,a2,a3,a4,a5,a6,a7,a8,Gc (.ref L),a10,Gc X,a12] S=Gc (.tup [.str "!deed",.non],S):=by
 obtain⟨f1,f2⟩:=iG hL hX c
 have s2:1+1<=sizeLine:=AI (by decide)
 have hi:=hL.ins
 have lt:(lds (AO t ls ds) q).lookup (rh "do")=none:=nr rfl
 have fF:(GU "Leader" "do" BI (eV 0) [eV 1]) [Gc (.ref L),Gc X] S=none:=by
  generalize AO t ls ds=bk at*
  simp[hi,lt,f1]
 have fR:(Nu "Leader" "do" CG (eV 0) [eV 1]) [Gc (.ref L),Gc X] S=Gc (⟨"NoDeed",none⟩,[Gc (.ref L),Gc X],S):=by
  rw[O3]
  generalize AO t ls ds=bk at*
  simp[hi,lt,f2]
 have cp:Py [9,11] [a0,a1,a2,a3,a4,a5,a6,a7,a8,Gc (D.ref L),a10,Gc X,a12]=[Gc (.ref L),Gc X]:=rfl
 unfold gw LJ
 rw[sZ w,cp,fF,fR]
 simp[WL,s2]
theorem Zz(w:S.any (Lp "law")=true)(hL:LAt S L q (AO t ls ds) m)(h:CB t ls ds)(hX:Tq X)(c:AJ 0 (t.p-1) X=false){a1:rW D}:kF [a0,a1,a2,a3,a4,a5,a6,a7,a8,Gc (.ref L),a10,a11,Gc X] S=Gc (.tup [.str "!partner",.non],S):=by
 obtain⟨f1,f2⟩:=TC hL h hX c
 have s2:1+1<=sizeLine:=AI (by decide)
 have hi:=hL.ins
 have lt:(lds (AO t ls ds) q).lookup (rh "theirs")=none:=nr rfl
 have fF:(GU "Leader" "theirs" Bf (eV 0) [eV 1]) [Gc (.ref L),Gc X] S=none:=by
  generalize AO t ls ds=bk at*
  simp[hi,lt,f1]
 have fR:(Nu "Leader" "theirs" Bg (eV 0) [eV 1]) [Gc (.ref L),Gc X] S=Gc (⟨"NoPartner",none⟩,[Gc (.ref L),Gc X],S):=by
  rw[O3]
  generalize AO t ls ds=bk at*
  simp[hi,lt,f2]
 have cp:Py [9,12] [a0,a1,a2,a3,a4,a5,a6,a7,a8,Gc (D.ref L),a10,a11,Gc X]=[Gc (.ref L),Gc X]:=rfl
 unfold kF LJ
 rw[sZ w,cp,fF,fR]
 simp[Po,s2]
def RK:Ex:=(xIf (D2 (Di (AF AK [eIx (eV 8) (eI 0),eV 11])) (eOp (o2 wNe) [gw,Az [eC (.str "!deed"),eC .non]])) (Ah (eC (.bl false))) Bo)
theorem Ug:KZ (.tup [.str "!deed",.non]) (.tup [.str "!deed",.non])=true/\deq (.tup [.str "!deed",.non]) (.tup [.str "!deed",.non])=true/\KZ (.tup [.str "!partner",.non]) (.tup [.str "!partner",.non])=true/\deq (.tup [.str "!partner",.non]) (.tup [.str "!partner",.non])=true:=by decide+kernel
theorem WG(w:S.any (Lp "law")=true)(hL:LAt S L q (AO t ls ds) m)(hX:Tq X){a1:rW D}:RK [a0,a1,a2,a3,a4,a5,a6,a7,Gc (AO t ls ds),Gc (.ref L),a10,Gc X,a12] S=Gc (.nx,[a0,a1,a2,a3,a4,a5,a6,a7,Gc (AO t ls ds),Gc (.ref L),a10,Gc X,a12],S):=by
 have e:AK [t.d,X] S=Gc (.bl (ET t.p t.k X),S):=Mx (S:=S) (p:=t.p) (k:=t.k) (r:=[.int t.b,shD t.ho,.int t.h,.int t.l]) hX
 have s2:1+1<=sizeLine:=AI (by decide)
 obtain⟨k1,k2,_⟩:=Ug
 have ib:asS (dr S (AO t ls ds))=Gc [t.d,.tup (ls.map Ld.d),.tup (ds.map AX.d)]:=rfl
 have b0:atI [t.d,.tup (ls.map Ld.d),.tup (ds.map AX.d)] 0=Gc t.d:=nr rfl
 cases c:ET t.p t.k X with
 |true=>
  rw[c]at e
  unfold RK
  generalize gw=LL at*
  generalize AO t ls ds=bk at*
  generalize t.d=T at*
  simp[ib,b0,e]
 |false=>
  rw[c]at e
  have l:=aX w hL hX c (a0:=a0) (a1:=a1) (a2:=a2) (a3:=a3) (a4:=a4) (a5:=a5) (a6:=a6) (a7:=a7) (a8:=Gc (AO t ls ds)) (a10:=a10) (a12:=a12)
  unfold RK
  generalize gw=LL at*
  generalize AO t ls ds=bk at*
  generalize t.d=T at*
  have dd:dr S (.tup [.str "!deed",.non])=.val (.tup [.str "!deed",.non]):=rfl
  simp[ib,b0,e,l,s2,k1,k2,dd]
def VI:Ex:=(xIf (eOp (o2 wNe) [kF,Az [eC (.str "!partner"),eC .non]]) (Ah (eC (.bl false))) Bo)
theorem X6(w:S.any (Lp "law")=true)(hL:LAt S L q (AO t ls ds) m)(h:CB t ls ds)(hX:Tq X)(c:AJ 0 (t.p-1) X=false){a1:rW D}:VI [a0,a1,a2,a3,a4,a5,a6,a7,a8,Gc (.ref L),a10,a11,Gc X] S=Gc (.nx,[a0,a1,a2,a3,a4,a5,a6,a7,a8,Gc (.ref L),a10,a11,Gc X],S):=by
 have s2:1+1<=sizeLine:=AI (by decide)
 obtain⟨_,_,k1,k2⟩:=Ug
 have l:=Zz w hL h hX c (a0:=a0) (a1:=a1) (a2:=a2) (a3:=a3) (a4:=a4) (a5:=a5) (a6:=a6) (a7:=a7) (a8:=a8) (a10:=a10) (a11:=a11)
 unfold VI
 generalize kF=LL at*
 simp[l,s2,k1,k2]
def Wz:Ev:=(Az [AF (Av 8) [eV 1,eV 10],eOp (o1 Lq) [eV 10],eOp (JZ false true) [eV 10,eI 2],eOp (o2 CP) [eV 10,Az [eI 0]],AF (Ao 8) [eV 1,eI 2]])
theorem Xb{ys:Wp D}(w:Wk S p)(hd:Sd 2 (.tup ys)){a9:rW D}:∃xs S',Wz [a0,Gc (.ref p),a2,a3,a4,a5,a6,a7,a8,a9,Gc (.tup ys),a11,a12] S=Gc (.tup xs,S')/\(∀x∈xs,Tq x)/\Pn p S S':=by
 obtain⟨X1,S1,e1,h1,p1⟩:=EG 8 2 (by decide) hd w.pen
 obtain⟨X2,S2,e2,h2,p2⟩:=VS p1.pen
 have tb:=hd.tb
 have ly:ys.length<=100:=by cases hd with|tup _ l=>exact l
 have ty:∀d∈ys,Tq d:=by cases hd with|tup h _=>exact λd hd=>(h d hd).tb
 have s5:1+1+1+1+1<=sizeLine:=AI (by decide)
 have s1:1<=sizeLine:=AI (by decide)
 have s2:ys.length+1<=sizeLine:=AI (by lia)
 refine⟨[X1,.lst ys,.tup (ID ys none (Gc 2)),.tup (ys++[.int 0]),X2],S2,?_,λx hx=>?_,p1.trans p2⟩
 .simp[Wz,e1,e2,s5,s1,s2]
 .simp only[rZ,sC,tF]at hx
  rcases hx with rfl|rfl|rfl|rfl|rfl
  .exact h1
  .exact .lst ty (by lia)
  .exact .tup (λd hd=>ty d (Iz hd)) (by have:=Ee (xs:=ys) (lo:=none) (hi:=Gc 2);lia)
  .refine .tup (λd hd=>?_) (by simp;lia)
   rcases sX.mp hd with hd|hd
   .exact ty d hd
   .rw[sj.mp hd];exact .int (by decide)
  .exact h2
def UQ:Ex:=(Lw (IH Wz) (tNm 11) RK)
theorem Xq{ys:Wp D}(w:Wk S p)(hL:LAt S L q (AO t ls ds) m)(hp:p≠L/\p≠q)(hd:Sd 2 (.tup ys)):∃b11 S',UQ [a0,Gc (.ref p),a2,a3,a4,a5,a6,a7,Gc (AO t ls ds),Gc (.ref L),Gc (.tup ys),a11,a12] S=Gc (.nx,[a0,Gc (.ref p),a2,a3,a4,a5,a6,a7,Gc (AO t ls ds),Gc (.ref L),Gc (.tup ys),b11,a12],S')/\Wk S' p/\LAt S' L q (AO t ls ds) m:=by
 obtain⟨xs,S1,e1,hx,p1⟩:=Xb (a0:=a0) (a2:=a2) (a3:=a3) (a4:=a4) (a5:=a5) (a6:=a6) (a7:=a7) (a8:=Gc (AO t ls ds)) (a9:=Gc (.ref L)) (a11:=a11) (a12:=a12) w hd
 have w1:=w.pn p1
 have L1:LAt S1 L q (AO t ls ds) m:=⟨p1.get hL.ob (by lia),let⟨es,e,l⟩:=hL.er;⟨es,p1.get e (by lia),l⟩⟩
 have wt:=tab_of w1.t1
 obtain⟨E',S',ef,b,_,hE,hS⟩:=E7 (gs:=[]) (t:=tNm 11) (b:=RK)
  (I:=λrs E T=>∃(b:rW D),(∀x∈rs,Tq x)/\E=[a0,Gc (.ref p),a2,a3,a4,a5,a6,a7,Gc (AO t ls ds),Gc (.ref L),Gc (.tup ys),b,a12]/\T=S1)
  (λ_ _ _ _=>Aj) (ds:=xs) (E:=[a0,Gc (.ref p),a2,a3,a4,a5,a6,a7,Gc (AO t ls ds),Gc (.ref L),Gc (.tup ys),a11,a12]) (S:=S1)
  ⟨a11,hx,rfl,rfl⟩ (by
    rintro x rs E T ⟨b,i1,rfl,rfl⟩
    exact⟨_,_,T,by simp<;>rfl,WG wt L1 (i1 x sN),Gc x,λy hy=>i1 y (rg _ hy),rfl,rfl⟩)
 rw[hE,hS]at ef
 refine⟨b,S1,?_,w1,L1⟩
 unfold UQ
 generalize Wz=FF at*
 generalize RK=TT at*
 generalize AO t ls ds=bk at*
 simp[e1,ef]
end
section
variable{S S':Sto}{p L q m:Nat}{t:Tr}{ls:Wp Ld}{ds:Wp AX}{X:D}{a0 a2 a3 a4 a5 a6 a7 a8 a9 a10 a11 a12:rW D}
theorem g9{a b:Wp AX}(h:CB t ls (a++b)):CB t ls a:=⟨h.tr,h.inv,by have:=J4 (i:=a.length) h.good;simpa using this,by have:=h.len;simp at this;lia⟩
theorem YL{a b:Wp AX}(h:VE (a++b)<=3):VE a<=3:=by
 unfold VE at*
 rw[AAN,tV]at h
 lia
def VL:Ex:=(CM (GU "Leader" "do" BI (eV 9) [eV 10]))
theorem XA{d:AX}(hL:LAt S L q (AO t ls ds) m)(hm:m<1000)(bok:CB t ls (ds++[d]))(hl:(ds++[d]).length<=10)(h3:VE (ds++[d])<=3){a1:rW D}:∃S',VL [a0,a1,a2,a3,a4,a5,a6,a7,a8,Gc (.ref L),Gc d.d,a11,a12] S=Gc (.nx,[a0,a1,a2,a3,a4,a5,a6,a7,a8,Gc (.ref L),Gc d.d,a11,a12],S')/\LAt S' L q (AO t ls (ds++[d])) (m+1)/\Ed [L,q] S S':=by
 obtain⟨x,S',e,l,s⟩:=Xf hL hm bok hl h3
 have hi:=hL.ins
 have lt:(lds (AO t ls ds) q).lookup (rh "do")=none:=nr rfl
 refine⟨S',?_,l,s⟩
 generalize AO t ls ds=bk at*
 simp[VL,hi,lt,e]
def Wu:Ex:=(Lw (IH (eIx (eV 8) (eI 2))) (tNm 10) VL)
theorem V8(w:Wk S p)(hL:LAt S L q (AO t ls []) 0)(hp:p≠L/\p≠q/\2<=L/\2<=q)(bok:CB t ls ds)(hl:ds.length<=6)(h3:VE ds<=3):∃b10 S',Wu [a0,Gc (.ref p),a2,a3,a4,a5,a6,a7,Gc (AO t ls ds),Gc (.ref L),a10,a11,a12] S=Gc (.nx,[a0,Gc (.ref p),a2,a3,a4,a5,a6,a7,Gc (AO t ls ds),Gc (.ref L),b10,a11,a12],S')/\Wk S' p/\LAt S' L q (AO t ls ds) ds.length:=by
 obtain⟨E',S',ef,a,b,i,i1,i2,i3,i4,i5⟩:=E7 (gs:=[]) (t:=tNm 10) (b:=VL)
  (I:=λrs E T=>∃(a b:Wp AX) (o:rW D),a++b=ds/\rs=b.map AX.d/\E=[a0,Gc (.ref p),a2,a3,a4,a5,a6,a7,Gc (AO t ls ds),Gc (.ref L),o,a11,a12]/\Wk T p/\LAt T L q (AO t ls a) a.length)
  (λ_ _ _ _=>Aj) (ds:=ds.map AX.d) (E:=[a0,Gc (.ref p),a2,a3,a4,a5,a6,a7,Gc (AO t ls ds),Gc (.ref L),a10,a11,a12]) (S:=S)
  ⟨[],ds,a10,rfl,rfl,rfl,w,hL⟩ (by
    rintro x rs E T ⟨a,b,o,i1,i2,rfl,i4,i5⟩
    match b,i2 with
    |d::b,i2=>
    simp only[sV,List.cons.injEq]at i2
    obtain⟨rfl,rfl⟩:=i2
    have i1':(a++[d])++b=ds:=by simpa using i1
    have bk1:CB t ls (a++[d]):=g9 (b:=b) (by rw[i1'];exact bok)
    have th1:VE (a++[d])<=3:=YL (b:=b) (by rw[i1'];exact h3)
    have l1:(a++[d]).length<=6:=by rw[<-i1']at hl;simp at hl ⊢; lia
    obtain⟨T',e,l,s⟩:=XA i5 (by simp at l1;lia) bk1 (by lia) th1 (a0:=a0) (a1:=Gc (.ref p)) (a2:=a2) (a3:=a3) (a4:=a4) (a5:=a5) (a6:=a6) (a7:=a7) (a8:=Gc (AO t ls ds)) (a11:=a11) (a12:=a12)
    refine⟨_,_,T',by simp<;>rfl,e,a++[d],b,Gc d.d,i1',rfl,rfl,i4.same s ?_,?_⟩
    .intro n hn
     simp only[rZ,sC,tF]at hn
     rcases hn with rfl|rfl<;>lia
    .rw[tV];exact l)
 have hb:b=[]:=by cases b with
  |nil=>rfl
  |cons x b=>cases i2
 subst hb
 rw[uB]at i1
 subst i1
 refine⟨i,S',?_,i4,i5⟩
 have ib:asS (dr S (AO t ls a))=Gc [t.d,.tup (ls.map Ld.d),.tup (a.map AX.d)]:=rfl
 have b2:atI [t.d,.tup (ls.map Ld.d),.tup (a.map AX.d)] 2=Gc (.tup (a.map AX.d)):=nr rfl
 unfold Wu
 generalize VL=TT at*
 generalize AO t ls a=bk at*
 generalize a.map AX.d=DD at*
 subst i3
 simp[ib,b2,ef]
def jz:Ev:=(eOp (o2 CP) [eIx (eV 8) (eI 2),Az [Az [eC (.str "bring"),eI 0,eI 0,eI 1],Az [eC (.str "pool"),eI 0,eI 1],Az [eC (.str "sell"),eI 0,eI 1,Az [eI 1,eI 2]]]])
theorem HI{n:Nat}{i:Int}(h:i.natAbs<1000):Sd n (.int i):=.int (xy h (by decide))
theorem br(bok:CB t ls ds)(hl:ds.length<=6){a1:rW D}:∃xs,jz [a0,a1,a2,a3,a4,a5,a6,a7,Gc (AO t ls ds),a9,a10,a11,a12] S=Gc (.tup xs,S)/\∀x∈xs,∃ys,x=.tup ys/\Sd 2 (.tup ys):=by
 have s4:1+1+1+1<=sizeLine:=AI (by decide)
 have s3:1+1+1<=sizeLine:=AI (by decide)
 have s2:1+1<=sizeLine:=AI (by decide)
 have sz:ds.length+1+1+1<=sizeLine:=AI (by lia)
 have sz':ds.length+(1+1+1)<=sizeLine:=AI (by lia)
 have ib:asS (dr S (AO t ls ds))=Gc [t.d,.tup (ls.map Ld.d),.tup (ds.map AX.d)]:=rfl
 have b2:atI [t.d,.tup (ls.map Ld.d),.tup (ds.map AX.d)] 2=Gc (.tup (ds.map AX.d)):=nr rfl
 refine⟨ds.map AX.d++[.tup [.str "bring",.int 0,.int 0,.int 1],.tup [.str "pool",.int 0,.int 1],.tup [.str "sell",.int 0,.int 1,.tup [.int 1,.int 2]]],?_,λx hx=>?_⟩
 .have ln:(ds.map AX.d).length=ds.length:=by simp
  generalize AO t ls ds=bk at*
  generalize ds.map AX.d=DD at*
  simp[jz,ib,b2,s4,s3,s2,ln,sz,sz']
 .rcases sX.mp hx with hx|hx
  .obtain⟨d,hd,rfl⟩:=uA.mp hx
   obtain⟨r,e⟩:=Sk d
   exact⟨_,e,by rw[<-e];exact YQ bok (by lia) hd⟩
  .simp only[rZ,sC,tF]at hx
   rcases hx with rfl|rfl|rfl
   .refine⟨_,rfl,.tup (λy hy=>?_) (by simp)⟩
    simp only[rZ,sC,tF]at hy
    rcases hy with rfl|rfl|rfl|rfl
    .exact Q1
    .exact HI (by decide)
    .exact HI (by decide)
    .exact HI (by decide)
   .refine⟨_,rfl,.tup (λy hy=>?_) (by simp)⟩
    simp only[rZ,sC,tF]at hy
    rcases hy with rfl|rfl|rfl
    .exact VU
    .exact HI (by decide)
    .exact HI (by decide)
   .refine⟨_,rfl,.tup (λy hy=>?_) (by simp)⟩
    simp only[rZ,sC,tF]at hy
    rcases hy with rfl|rfl|rfl|rfl
    .exact Vk
    .exact HI (by decide)
    .exact HI (by decide)
    .refine .tup (λy hy=>?_) (by simp)
     simp only[rZ,sC,tF]at hy
     rcases hy with rfl|rfl
     .exact HI (by decide)
     .exact HI (by decide)
def XE:Ex:=(Lw (IH jz) (tNm 10) UQ)
theorem W4(w:Wk S p)(hL:LAt S L q (AO t ls ds) m)(hp:p≠L/\p≠q)(bok:CB t ls ds)(hl:ds.length<=6):∃b10 b11 S',XE [a0,Gc (.ref p),a2,a3,a4,a5,a6,a7,Gc (AO t ls ds),Gc (.ref L),a10,a11,a12] S=Gc (.nx,[a0,Gc (.ref p),a2,a3,a4,a5,a6,a7,Gc (AO t ls ds),Gc (.ref L),b10,b11,a12],S')/\Wk S' p/\LAt S' L q (AO t ls ds) m:=by
 obtain⟨xs,e1,hx⟩:=br (S:=S) bok hl (a0:=a0) (a1:=Gc (.ref p)) (a2:=a2) (a3:=a3) (a4:=a4) (a5:=a5) (a6:=a6) (a7:=a7) (a9:=Gc (.ref L)) (a10:=a10) (a11:=a11) (a12:=a12)
 obtain⟨E',S',ef,o,o',_,i2,i3,i4⟩:=E7 (gs:=[]) (t:=tNm 10) (b:=UQ)
  (I:=λrs E T=>∃(o o':rW D),(∀x∈rs,∃ys,x=.tup ys/\Sd 2 (.tup ys))/\E=[a0,Gc (.ref p),a2,a3,a4,a5,a6,a7,Gc (AO t ls ds),Gc (.ref L),o,o',a12]/\Wk T p/\LAt T L q (AO t ls ds) m)
  (λ_ _ _ _=>Aj) (ds:=xs) (E:=[a0,Gc (.ref p),a2,a3,a4,a5,a6,a7,Gc (AO t ls ds),Gc (.ref L),a10,a11,a12]) (S:=S)
  ⟨a10,a11,hx,rfl,w,hL⟩ (by
    rintro x rs E T ⟨o,o',i1,rfl,i3,i4⟩
    obtain⟨ys,rfl,sd⟩:=i1 x sN
    obtain⟨b11,T',e,w',l'⟩:=Xq i3 i4 hp sd (a0:=a0) (a2:=a2) (a3:=a3) (a4:=a4) (a5:=a5) (a6:=a6) (a7:=a7) (a11:=o') (a12:=a12)
    exact⟨_,_,T',by simp<;>rfl,e,Gc (.tup ys),b11,λy hy=>i1 y (rg _ hy),rfl,w',l'⟩)
 refine⟨o,o',S',?_,i3,i4⟩
 rw[i2]at ef
 unfold XE
 generalize jz=FF at*
 generalize UQ=TT at*
 generalize AO t ls ds=bk at*
 simp[e1,ef]
def lstP:Ev:=(Az [eIx (eIx (eV 8) (eI 0)) (eI 0),eOp (o1 NA) [eI 1],eC (.bl true),eC .non,eC (.str "0"),Az [eI 0],eOp (o2 Vv) [eI 10,eI 39]])
def XD:Ex:=(Lw (IH lstP) (tNm 12) VI)
theorem W5(w:S.any (Lp "law")=true)(hL:LAt S L q (AO t ls ds) m)(bok:CB t ls ds){a1:rW D}:∃b12,XD [a0,a1,a2,a3,a4,a5,a6,a7,Gc (AO t ls ds),Gc (.ref L),a10,a11,a12] S=Gc (.nx,[a0,a1,a2,a3,a4,a5,a6,a7,Gc (AO t ls ds),Gc (.ref L),a10,a11,b12],S):=by
 have h4:t.p<=4:=by obtain⟨t1,t2,t3,t4,t5,t6⟩:=bok.tr;lia
 have n1:NA (.val (.int 1))=Gc (.val (.int (-1))):=rfl
 have p1:Vv (.val (.int 10)) (.val (.int 39))=Gc (.val (.int (10^39))):=by with_unfolding_all rfl
 have s7:1+1+1+1+1+1+1<=sizeLine:=AI (by decide)
 have s1:1<=sizeLine:=AI (by decide)
 have ib:asS (dr S (AO t ls ds))=Gc [t.d,.tup (ls.map Ld.d),.tup (ds.map AX.d)]:=rfl
 have b0:atI [t.d,.tup (ls.map Ld.d),.tup (ds.map AX.d)] 0=Gc t.d:=nr rfl
 have it:asS (dr S t.d)=Gc [.int t.p,.int t.k,.int t.b,shD t.ho,.int t.h,.int t.l]:=rfl
 have c0:atI [D.int t.p,.int t.k,.int t.b,shD t.ho,.int t.h,.int t.l] 0=Gc (.int t.p):=nr rfl
 have e1:lstP [a0,a1,a2,a3,a4,a5,a6,a7,Gc (AO t ls ds),Gc (.ref L),a10,a11,a12] S=Gc (.tup [.int t.p,.int (-1),.bl true,.non,.str "0",.tup [.int 0],.int (10^39)],S):=by
  generalize AO t ls ds=bk at*
  generalize t.d=T at*
  simp[lstP,ib,b0,it,c0,n1,p1,s7,s1]
 have hx:∀x∈ [D.int t.p,.int (-1),.bl true,.non,.str "0",.tup [.int 0],.int (10^39)],Tq x/\AJ 0 (t.p-1) x=false:=by
  intro x hx
  simp only[rZ,sC,tF]at hx
  rcases hx with rfl|rfl|rfl|rfl|rfl|rfl|rfl
  .refine⟨.int (su (show _<=4 by simpa using h4) (by decide)),?_⟩
   have:¬((t.p:Int)<=(t.p:Int)-1):=by lia
   simp[AJ,this]
  .exact⟨.int (by decide),rfl⟩
  .exact⟨.bl _,rfl⟩
  .exact⟨.non,rfl⟩
  .exact⟨.str _,rfl⟩
  .exact⟨.tup (λd hd=>by rw[sj.mp hd];exact .int (by decide)) (by simp),rfl⟩
  .refine⟨.int (by decide),?_⟩
   have:¬((10^39:Int)<=(t.p:Int)-1):=by
    have:(4:Int)<10^39:=by decide
    lia
   simp only[AJ,ue this,yQ]
 obtain⟨E',S',ef,o,_,i2,i3⟩:=E7 (gs:=[]) (t:=tNm 12) (b:=VI)
  (I:=λrs E T=>∃(o:rW D),(∀x∈rs,Tq x/\AJ 0 (t.p-1) x=false)/\E=[a0,a1,a2,a3,a4,a5,a6,a7,Gc (AO t ls ds),Gc (.ref L),a10,a11,o]/\T=S)
  (λ_ _ _ _=>Aj) (ds:=[.int t.p,.int (-1),.bl true,.non,.str "0",.tup [.int 0],.int (10^39)]) (E:=[a0,a1,a2,a3,a4,a5,a6,a7,Gc (AO t ls ds),Gc (.ref L),a10,a11,a12]) (S:=S)
  ⟨a12,hx,rfl,rfl⟩ (by
    rintro x rs E T ⟨o,i1,rfl,rfl⟩
    obtain⟨h1,h2⟩:=i1 x sN
    exact⟨_,_,T,by simp<;>rfl,X6 w hL bok h1 h2,Gc x,λy hy=>i1 y (rg _ hy),rfl,rfl⟩)
 refine⟨o,?_⟩
 rw[i2,i3]at ef
 unfold XD
 generalize lstP=FF at*
 generalize VI=TT at*
 generalize (D.int (10^39))=BB at e1 ef⊢
 generalize AO t ls ds=bk at*
 simp[e1,ef]
end
theorem YR:∀{n:Nat} {d:D},Sd n d->d.py.depth<=n+1
 |_,_,.int _=>mq
 |_,_,.str _ _ _=>by simp only[D.py,PyData.depth];lia
 |n+1,_,.tup h _=>sI (mV (n:=n+1) λe he=>YR (h e he)) (sD _)
section
variable{t:Tr}{ls:Wp Ld}{ds:Wp AX}
theorem cN(h:CB t ls ds)(hl:ds.length<=10)(hh:kC t):Sd 5 (AO t ls ds):=by
 refine .tup (λx hx=>?_) (by simp)
 simp only[rZ,sC,tF]at hx
 rcases hx with rfl|rfl|rfl
 .exact(Q6 h hh).up (by decide)
 .exact Qj h
 .exact(YH h hl).up (by decide)
end
section
variable{S:Sto}{t:Tr}{ls:Wp Ld}{ds:Wp AX}{L q m p:Nat}{b:D}
theorem QF(ht:KI t)(hh:t.ho.length=t.p/\t.ho.sum=1)(hr:kC t){G:Nat}(g0:0<G)(g1:G<=32)(g2:∀r∈t.ho,Ok G G r):An [t.d] S=Gc (.bl true,S):=by
 obtain⟨t1,t2,t3,t4,t5,t6⟩:=ht
 obtain⟨r1,r2,r3,r4⟩:=hr
 have O:=Oz (S:=S) (K:=10) hh.1 t2 g0 (su g1 (by decide)) (by decide) g2 (su (z7 4 g1) (by decide)) hh.2
 have k3:St.Kd.tup.isA "tuple"=true:=by decide
 have it:Ad [t.d,.int 6] S=Gc (.bl true,S):=by
  simp[Ad,B8,Tr.d,kdW,k3]
 have w1:=within_int (S:=S) (i:=t.p) (j:=1) (k:=4)
 have w2:=within_int (S:=S) (i:=t.k) (j:=1) (k:=5)
 have w3:=within_int (S:=S) (i:=t.b) (j:=1) (k:=20)
 have w4:=within_int (S:=S) (i:=t.h) (j:=0) (k:=9)
 have w5:=within_int (S:=S) (i:=t.l) (j:=0) (k:=9)
 have q1:(decide ((1:Int)<=t.p) && decide ((t.p:Int)<=4))=true:=by simp;lia
 have q2:(decide ((1:Int)<=t.k) && decide ((t.k:Int)<=5))=true:=by simp;lia
 have q3:(decide ((1:Int)<=t.b) && decide ((t.b:Int)<=20))=true:=by simp;lia
 have q4:(decide ((0:Int)<=t.h) && decide (t.h<=9))=true:=by simp;lia
 have q5:(decide ((0:Int)<=t.l) && decide (t.l<=9))=true:=by simp;lia
 rw[q1]at w1
 rw[q2]at w2
 rw[q3]at w3
 rw[q4]at w4
 rw[q5]at w5
 have td:t.d=.tup [.int t.p,.int t.k,.int t.b,shD t.ho,.int t.h,.int t.l]:=rfl
 rw[td]at it⊢
 generalize shD t.ho=ho at*
 simp[An,DH,it,w1,w2,w3,w4,w5,O]
theorem OL(ht:KI t)(hf:Ew t ls)(hl:ls.length<=4):Aq [t.d,.tup (ls.map Ld.d)] S=Gc (.bl true,S):=by
 obtain⟨ha,G,G0,G1,G2⟩:=hf
 have hG:G<=32^4:=sI G1 (tL (by decide) hl)
 have hG:G<=1048576:=hG
 have k3:St.Kd.tup.isA "tuple"=true:=by decide
 have d1:dr S DL=.val (.int 4):=rfl
 obtain⟨bs,e1,e2⟩:=mI (S:=S) (f:=D2 (AF BU [eV 0,eV 1]) (eOp (o2 wGt) [eIx (eV 1) (eI 1),eI 0])) (e:=Ld.d) (C:=[Gc t.d]) (os:=[none]) (xs:=ls) (gs:=[]) (t:=tNm 1) Aj (by lia) rfl (by
  intro x hx os ho
  obtain⟨a,rfl⟩:=Ru ho
  obtain⟨h1,h2,h3,h4,h5⟩:=ha x hx
  have e:=SM (S:=S) (K:=30) ht h1 (by lia) h4 G0 (su hG (by decide)) (by decide) (G2 x hx) (su (z7 4 hG) (by decide)) h5
  have n0:(0:Int)<x.n:=by lia
  have ix:asS (dr S x.d)=Gc [.int x.k,.int x.n,shD x.ow]:=rfl
  refine⟨[Gc x.d],rfl,by simp,?_⟩
  generalize x.d=X at*
  generalize t.d=T at*
  simp[e,ix,n0])
 obtain⟨b',e3,e4⟩:=vy.mp e2
 have c1:¬(4:Int)<ls.length:=by lia
 generalize t.d=T at*
 generalize hz:D2 (AF BU [eV 0,eV 1]) (eOp (o2 wGt) [eIx (eV 1) (eI 1),eI 0])=Z at e1
 have eb:Dh=(AV (xIf (eOr (Di (eOp (o2 Lc) [eV 1,eC (.ty "tuple")])) (eOp (o2 wGt) [eOp (o1 F2) [eV 1],eC DL])) (Ah (eC (.bl false))) Bo)
  (Ah (eOp (o1 UP) [EA [0] 1 (IH (eV 1)) (tNm 1) C1 Z]))):=by rw[<-hz];rfl
 simp only[ua,uC]at e1
 simp[Aq,eb,kdW,k3,d1,c1,RG,e1,e3,e4]
end
section
variable{t:Tr}{ls:Wp Ld}{ds:Wp AX}
theorem ZO(h:CB t ls ds):Sd 4 (.tup [.int 0,.int 3,shD t.ho]):=.tup (λx hx=>by
 have sz:=h.inv.sz.2
 have hl:t.ho.length=t.p:=h.inv.hold
 obtain⟨t1,t2,t3,t4,t5,t6⟩:=h.tr
 simp only[rZ,sC,tF]at hx
 rcases hx with rfl|rfl|rfl
 .exact HI (by decide)
 .exact HI (by decide)
 .exact(Zj (n:=1) sz (by lia))) (by simp)
def pB(LA LB LC LG LP:Ex):Ex:=(AV (Bs 1 (AF HN [AF Cj [eV 0,eI 0]]))
    (AV (Mj (tTp [tNm 2,tNm 3]) (AF Et [eV 1]))
    (AV (Bs 4 (Az [eI 0,eI 3,eIx (eV 2) (eI 3)]))
    (AV LA (AV LB
    (AV (Bs 8 (AF Ek [eV 1,eI 6]))
    (AV (Bs 9 (Ke "Leader" AY [eIx (eV 8) (eI 0),eIx (eV 8) (eI 1)]))
    (AV LC (AV LG (AV LP
    (Ah (eOp (o2 wEq) [GU "Leader" "book" Cb (eV 9) [],eV 8]))))))))))))
def X4:Ex:=(Lw (QZ [eI 10]) (tNm 5) UK)
def Xt:Ex:=(Lw (IH jn) (tNm 7) VO)
theorem iC:Tw=pB X4 Xt Wu XE XD:=rfl
section
variable{S:Sto}{p:Nat}{T F LD:D}{a0 a5 a6 a7 a8 a9 a10 a11 a12:rW D}
theorem XN(w:Wk S p)(hT:Sd 4 T)(hF:Sd 4 F)(hL:Sd 4 LD):∃b5 b6 b7 S',X4 [a0,Gc (.ref p),Gc T,Gc F,Gc LD,a5,a6,a7,a8,a9,a10,a11,a12] S=Gc (.nx,[a0,Gc (.ref p),Gc T,Gc F,Gc LD,b5,b6,b7,a8,a9,a10,a11,a12],S')/\Wk S' p:=by
 obtain⟨E',S',ef,b5,b6,b7,i1,i2⟩:=E7 (gs:=[]) (t:=tNm 5) (b:=UK)
  (I:=λrs E S'=>∃b5 b6 b7,E=[a0,Gc (.ref p),Gc T,Gc F,Gc LD,b5,b6,b7,a8,a9,a10,a11,a12]/\Wk S' p)
  (λ_ _ _ _=>Aj) (ds:=MT 0 10) (E:=[a0,Gc (.ref p),Gc T,Gc F,Gc LD,a5,a6,a7,a8,a9,a10,a11,a12]) (S:=S)
  ⟨a5,a6,a7,rfl,w⟩ (by
    rintro dd rs E T ⟨b5,b6,b7,rfl,i2⟩
    obtain⟨x,y,T',e,w'⟩:=Wg i2 hT hF hL (a0:=a0) (a5:=Gc dd) (a6:=b6) (a7:=b7) (a8:=a8) (a9:=a9) (a10:=a10) (a11:=a11) (a12:=a12)
    exact⟨_,_,T',by simp<;>rfl,e,Gc dd,Gc x,Gc y,rfl,w'⟩)
 rw[i1]at ef
 have rk:Ka 10=true:=FZ (by decide) (by decide)
 have tn:(10:Int).toNat=10:=rfl
 refine⟨b5,b6,b7,S',?_,i2⟩
 unfold X4
 generalize UK=TT at*
 simp[rk,tn,ef]
theorem XW(w:Wk S p)(hT:Tq T){H:D}{tt:Wp D}(eT:T=.tup tt)(h3:atI tt 3=Gc H)(hH:Tq H)(hL:Tq LD):∃b7 S',Xt [a0,Gc (.ref p),Gc T,Gc F,Gc LD,a5,a6,a7,a8,a9,a10,a11,a12] S=Gc (.nx,[a0,Gc (.ref p),Gc T,Gc F,Gc LD,a5,a6,b7,a8,a9,a10,a11,a12],S')/\Wk S' p:=by
 obtain⟨xs,e1,hx⟩:=bG (S:=S) eT h3 hH hL (F:=F) (a0:=a0) (p:=p) (a5:=a5) (a6:=a6) (a7:=a7) (a8:=a8) (a9:=a9) (a10:=a10) (a11:=a11) (a12:=a12)
 obtain⟨E',S',ef,b7,_,i1,i2⟩:=E7 (gs:=[]) (t:=tNm 7) (b:=VO)
  (I:=λrs E S'=>∃b7,(∀x∈rs,Tq x)/\E=[a0,Gc (.ref p),Gc T,Gc F,Gc LD,a5,a6,b7,a8,a9,a10,a11,a12]/\Wk S' p)
  (λ_ _ _ _=>Aj) (ds:=xs) (E:=[a0,Gc (.ref p),Gc T,Gc F,Gc LD,a5,a6,a7,a8,a9,a10,a11,a12]) (S:=S)
  ⟨a7,hx,rfl,w⟩ (by
    rintro dd rs E T1 ⟨b7,i1,rfl,i2⟩
    obtain⟨T',e,w'⟩:=WM i2 hT (i1 dd sN) (F:=F) (LD:=LD) (a0:=a0) (a5:=a5) (a6:=a6) (a8:=a8) (a9:=a9) (a10:=a10) (a11:=a11) (a12:=a12)
    exact⟨_,_,T',by simp<;>rfl,e,Gc dd,λy hy=>i1 y (rg _ hy),rfl,w'⟩)
 rw[i1]at ef
 refine⟨b7,S',?_,i2⟩
 unfold Xt
 generalize VO=TT at*
 generalize jn=BB at*
 simp[e1,ef]
end
theorem dq (ns : Wp Int) (h : ns.length ≤ 63) : ∃ S', Nl [.scr ns] [Cl.tab "_law_made_so", Cl.tab "law"] = Gc (.bl true, S') := by
  obtain ⟨c, e0⟩ := bA (S := [Cl.tab "_law_made_so", Cl.tab "law"]) (ns := ns) (k := 0)
  obtain ⟨p, S1, e1, hp1, s1, lp⟩ := dW (S := [Cl.tab "_law_made_so", Cl.tab "law"]) c
  have w1 : Wk S1 p := ⟨hp1, s1.get rfl (by simp), s1.get rfl (by simp), by simpa using lp⟩
  obtain ⟨t, S2, e2, p2, ht, ⟨hh, hr⟩, G, g0, g1, g2⟩ := OD hp1
  obtain ⟨ls, S3, e3, p3, hf, hl⟩ := Qz p2.pen ht
  have w3 : Wk S3 p := (w1.pn p2).pn p3
  have eg : Et [.ref p] S1 = Gc (.tup [t.d, .tup (ls.map Ld.d)], S3) := by
    have s2 : 1 + 1 ≤ sizeLine := AI (by decide)
    simp [Et, K4, e2, e3, s2]
  have bk0 : CB t ls [] := ⟨ht, OU hf hl hh.1 g0 g1 g2, trivial, by simp⟩
  have sT : Sd 4 t.d := (Q6 bk0 hr).up (by decide)
  have sL := ZO bk0
  have aT : asS (dr S3 t.d) = Gc [.int t.p, .int t.k, .int t.b, shD t.ho, .int t.h, .int t.l] := rfl
  have cT : atI [D.int t.p, .int t.k, .int t.b, shD t.ho, .int t.h, .int t.l] 3 = Gc (shD t.ho) := nr rfl
  have tH : Tq (shD t.ho) := by
    cases sL.tb with
    | tup h _ => exact h _ (by simp)
  obtain ⟨b5, b6, b7, S4, eA, w4⟩ := XN w3 sT (Qj bk0) sL (a0 := Gc (.scr ns)) (a5 := none) (a6 := none) (a7 := none) (a8 := none) (a9 := none) (a10 := none) (a11 := none) (a12 := none)
  obtain ⟨c7, S5, eB, w5⟩ := XW w4 sT.tb (H := shD t.ho) (tt := [.int t.p, .int t.k, .int t.b, shD t.ho, .int t.h, .int t.l]) rfl cT tH sL.tb (F := .tup (ls.map Ld.d)) (a0 := Gc (.scr ns)) (a5 := b5) (a6 := b6) (a7 := b7) (a8 := none) (a9 := none) (a10 := none) (a11 := none) (a12 := none)
  obtain ⟨t', ls', ds', S6, e6, ⟨bok, lds', _, hr', th, hf', hl', G', g0', g1', g2'⟩, ⟨hs1, hs2⟩, pen6, keep6⟩ := WA (M := 6) (by decide) w5.pen
  have e6 : Ek [.ref p, .int 6] S5 = Gc (AO t' ls' ds', S6) := e6
  have w6 : Wk S6 p := ⟨pen6, keep6 _ _ w5.t0 (by have := w5.p2; lia), keep6 _ _ w5.t1 (by have := w5.p2; lia), w5.p2⟩
  have bl : asS (.val (AO t' ls' ds')) = Gc [t'.d, .tup (ls'.map Ld.d), .tup (ds'.map AX.d)] := rfl
  have i0 : atI [t'.d, .tup (ls'.map Ld.d), .tup (ds'.map AX.d)] 0 = Gc t'.d := nr rfl
  have i1 : atI [t'.d, .tup (ls'.map Ld.d), .tup (ds'.map AX.d)] 1 = Gc (.tup (ls'.map Ld.d)) := nr rfl
  have db : ∀ S : Sto, dr S (AO t' ls' ds') = .val (AO t' ls' ds') := fun _ => rfl
  obtain ⟨S7, e7, L7, s7⟩ := TZ (S := S6) (T := t'.d) (X := .tup (ls'.map Ld.d)) (QF bok.tr ⟨bok.inv.hold, hs2⟩ hr' g0' g1' g2') (OL bok.tr hf' hl')
    (E := [Gc (.scr ns), Gc (.ref p), Gc t.d, Gc (.tup (ls.map Ld.d)), Gc (.tup [.int 0, .int 3, shD t.ho]), b5, b6, c7, Gc (AO t' ls' ds'), none, none, none, none]) (f := eIx (eV 8) (eI 0)) (g := eIx (eV 8) (eI 1)) (fun S => by
      generalize AO t' ls' ds' = bk at *
      simp [db, bl, i0]) (fun S => by
      generalize AO t' ls' ds' = bk at *
      simp [db, bl, i1])
  have L7 : LAt S7 S6.length (S6.length + 1) (AO t' ls' []) 0 := L7
  have w7 := w6.same s7 (by simp)
  have lt6 := pen6.lt
  have := w6.p2
  obtain ⟨c10, S8, e8, w8, L8⟩ := V8 w7 L7 (by lia) bok lds' th (a0 := Gc (.scr ns)) (a2 := Gc t.d) (a3 := Gc (.tup (ls.map Ld.d))) (a4 := Gc (.tup [.int 0, .int 3, shD t.ho])) (a5 := b5) (a6 := b6) (a7 := c7) (a10 := none) (a11 := none) (a12 := none)
  obtain ⟨d10, d11, S9, e9, w9, L9⟩ := W4 w8 L8 (by lia) bok lds' (a0 := Gc (.scr ns)) (a2 := Gc t.d) (a3 := Gc (.tup (ls.map Ld.d))) (a4 := Gc (.tup [.int 0, .int 3, shD t.ho])) (a5 := b5) (a6 := b6) (a7 := c7) (a10 := c10) (a11 := none) (a12 := none)
  obtain ⟨f12, eP⟩ := W5 (tab_of w9.t1) L9 bok (a0 := Gc (.scr ns)) (a1 := Gc (.ref p)) (a2 := Gc t.d) (a3 := Gc (.tup (ls.map Ld.d))) (a4 := Gc (.tup [.int 0, .int 3, shD t.ho])) (a5 := b5) (a6 := b6) (a7 := c7) (a10 := d10) (a11 := d11) (a12 := none)
  have sb := cN bok (by lia) hr'
  have k1 : KZ (AO t' ls' ds') (AO t' ls' ds') = true := TL sb.lay (sI (YR sb) (by decide))
  have k2 := Xy sb.lay
  have ebk := Zi L9
  have hi := L9.ins
  have ltk : (lds (AO t' ls' ds') (S6.length + 1)).lookup (rh "book") = none := nr rfl
  refine ⟨S9, ?_⟩
  have db9 := db S9
  simp at e0
  have s3 : 1 + 1 + 1 ≤ sizeLine := AI (by decide)
  unfold Nl
  rw [iC]
  generalize X4 = LA at *
  generalize Xt = LB at *
  generalize Wu = LC at *
  generalize XE = LG at *
  generalize XD = LP at *
  generalize hz2 : (Ke "Leader" AY [(eIx (eV 8) (eI 0)), (eIx (eV 8) (eI 1))]) = Z2 at e7
  unfold pB
  rw [hz2]
  generalize AO t' ls' ds' = bk at *
  generalize t.d = T at *
  generalize shD t.ho = HH at *
  simp [e0, e1, eg, aT, cT, s3, eA, eB, e6, e7, e8, e9, eP, hi, ltk, ebk, db9, k1, k2]
end
open PyProof.Rows (boot_isinstance boot_int boot_bool boot_tuple boot_str boot_list boot_abs boot_all boot_any boot_sum boot_max boot_min boot_range boot_enumerate boot_zip boot_sorted boot_set boot_divmod)
theorem eZ{K:W1}{h:tT}{mg:Str->rW rS}{xs:Wp Str}{y:Str}{C':rY}(X:K.In h)(G:h.Ns mainGlobals mg)(e:tS K mainGlobals y=Gc (Gc (.ref C')))(t:∀x∈xs,∃C b,tS K mainGlobals x=Gc (Gc (.ref C))/\wL K (.ref C) (.ref C')=Gc b/\(x==y)=b):XmD K mg xs y:=kl X G e λx hx=>by
 obtain⟨C,b,h1,h2,h3⟩:=t x hx
 exact⟨C,h1,by rw[h3];exact h2⟩
theorem fX{K:W1}{xs:Wp Str}{x y:Str}{C C':rY}{b:sx}(h1:tS K mainGlobals x=Gc (Gc (.ref C)))(h2:wL K (.ref C) (.ref C')=Gc b)(h3:(x==y)=b)(t:∀z∈xs,∃C b,tS K mainGlobals z=Gc (Gc (.ref C))/\wL K (.ref C) (.ref C')=Gc b/\(z==y)=b):∀z∈x::xs,∃C b,tS K mainGlobals z=Gc (Gc (.ref C))/\wL K (.ref C) (.ref C')=Gc b/\(z==y)=b:=λz m=>by
 rcases rZ.mp m with e|m
 .rw[e];exact⟨C,b,h1,h2,h3⟩
 .exact t z m
section
variable{P:sf}{w:tU}{K:W1}{mg:Str->rW rS}{base:tT}
theorem CI:Ar ["_law_script","_law_pen_here","_law_train_here","_law_first_here","_law_load","_law_turn_here","_law_one","_law_other","_law_book_here","_law_leader","_law_deed_here","_law_thing_here","_law_partner"] ["_law_script"] (AD Gh):=scM
theorem RV:Hm ["_law_script","_law_pen_here","_law_train_here","_law_first_here","_law_load","_law_turn_here","_law_one","_law_other","_law_book_here","_law_leader","_law_deed_here","_law_thing_here","_law_partner"] (AD Gh) ["_law_leader","_law_thing_here"] [9,11] (mH Gh 0):=lsM
theorem Rr:Hm ["_law_script","_law_pen_here","_law_train_here","_law_first_here","_law_load","_law_turn_here","_law_one","_law_other","_law_book_here","_law_leader","_law_deed_here","_law_thing_here","_law_partner"] (AD Gh) ["_law_leader","_law_partner"] [9,12] (mH Gh 1):=lsM
theorem dY{f:rY}{fd:uf}(F:Fun K "law" "law" Gh f fd)(hm:mg "law"=Gc (.ref f))(bm:BmB mg base)(T:All w K mg):KR P w K mg base CX0 21 f fd ["_law_script"] (spD K 1 Nl):=by
 have B:=T.bt
 have S_law_said:=T.GF
 have Bz:=Bz P base bm T
 have CU:=CU P base bm T
 have EX:=EX P base bm T
 have FO:=FO P base bm T
 have Dp:=Dp P base bm T
 have Ls:=Ls P base bm T
 have Gb:=Gb P base bm T
 have BR:=BR P base bm T
 have Ij:=Ij P base bm T
 have Bk:=Bk P base bm T 8 (by decide)
 have Bv:=Bv P base bm T 8 (by decide)
 have DP:=DP P base bm T
 have Jx:=Jx P base bm T
 have EV:=T.EV
 have DV:=T.DV
 have Ea:=T.Ea
 have CN:=T.CN
 have De:=T.De
 have DO:=T.DO
 have Ba:=T.Ba
 have DZ:=T.DZ
 have Gm:=Gm P base bm T
 have Dr:=Dr P base bm T
 refine fnL (k:=20) F hm CI rfl λci hr hu=>?_
 exact(AS (FL 1 (deM Ls hr (AA (deM Gb hr (AA (AH 0) (AA AN AE))) AE)) CI.nd)
      (AS (VM (deM Ij hr (AA (AH 1) AE)) (WR rfl (Dy (Hd 2 CI.nd) (Dy (Hd 3 CI.nd) My))))
      (AS (FL 4 (Ap (AA AN (AA AN (AA (DN Iq (AH 2) AN) AE)))) CI.nd)
      (AS (Mr v9 rfl (VA rfl B.range (AA AN AE)) (Hd 5 CI.nd) (AS (FL 6 (DN Iq (Hv (AA (AH 2) (AA (deM Bv hr (AA (AH 1) (AA (AH 2) AE))) (AA (deM Bk hr (AA (AH 1) (AA AN AE))) AE)))) (deM BR hr (AA (AH 1) (AA AN AE)))) CI.nd)
      (AS (FL 7 (DN Iq (Hv (AA (AH 3) (AA (deM Bv hr (AA (AH 1) (AA (AH 3) AE))) (AA (Ap (AA (deM Bv hr (AA (AH 1) (AA (AH 4) AE))) AE)) (AA (deM Bk hr (AA (AH 1) (AA AN AE))) AE))))) (deM BR hr (AA (AH 1) (AA AN AE)))) CI.nd)
      (AL (Eb (DX (CW (deM DP hr (AA (AH 6) (AA (AH 7) AE))))) (AL (Ax K3)) BZ)))))
      (AS (Mr v9 rfl (O4 (Ap (AA (GP QU (Ap (AA (AH 4) AE)) AN) (AA (GP QU (Ap (AA (AH 4) AE)) AN) (AA (Ap (AA (Ap (AA AN (AA AN (AA (DN Iq (AH 2) AN) AE)))) AE)) (AA (Hv (AA (AH 4) AE)) (AA (Ap (AA (AH 4) (AA B9 AE))) (AA (Ap AE) AE)))))))) (Hd 7 CI.nd) (AL (Eb (DW.dt (YI (DX (CW (deM DP hr (AA (AH 2) (AA (AH 7) AE))))) (QY (DX (CW (deM DP hr (AA B9 (AA (AH 7) AE)))))))) (AL (Ax K3)) BZ)))
      (AS (FL 8 (deM Jx hr (AA (AH 1) (AA AN AE))) CI.nd)
      (AS (FL 9 (Qw CU hr rfl (AA (DN Iq (AH 8) AN) (AA (DN Iq (AH 8) AN) AE))) CI.nd)
      (AS (Mr v9 rfl (O4 (DN Iq (AH 8) AN)) (Hd 10 CI.nd) (AL (GQ (JP EX hr (AH 9) (AA (AH 10) AE)))))
      (AS (Mr v9 rfl (O4 (GP Dm (DN Iq (AH 8) AN) (Ap (AA (Ap (AA BE (AA AN (AA AN (AA AN AE))))) (AA (Ap (AA BE (AA AN (AA AN AE)))) (AA (Ap (AA BE (AA AN (AA AN (AA (Ap (AA AN (AA AN AE))) AE))))) AE)))))) (Hd 10 CI.nd) (AL (Mr v9 rfl (O4 (Ap (AA (deM Bv hr (AA (AH 1) (AA (AH 10) AE))) (AA (HE Mw rfl B.list boot_list (AA (AH 10) AE)) (AA (NT (AH 10) AN) (AA (GP Dm (AH 10) (Ap (AA AN AE))) (AA (deM Bk hr (AA (AH 1) (AA AN AE))) AE))))))) (Hd 11 CI.nd) (AL (Eb (DW.dt (MK (DX (CW (deM Bz hr (AA (DN Iq (AH 8) AN) (AA (AH 11) AE))))) (Lk (F5 (N7 hu) (QK (k:=9) S_law_said Ii RV ci bm (hr.mono (by decide)) rfl (λf c' clos A outer s H hr=>(JP EX hr (AH 0) (AA (AH 1) AE))) (λf c' clos A outer s H hr=>(Qt Gm hr (AH 0) (AA (AH 1) AE))) (λ_ _ _ _ _ _=>(By EV rfl (λ_=>AL (Ax (Ap (AA BE (AA B9 AE))))) (Pu DO rfl (By DZ rfl (λ_=>AL (Ax (Ap (AA BE (AA B9 AE))))) (By Ea rfl (λ_=>AL (Ax (Ap (AA BE (AA B9 AE))))) (By Ba rfl (λ_=>AL (Ax (Ap (AA BE (AA B9 AE))))) (By CN rfl (λ_=>AL (Ax (Ap (AA BE (AA B9 AE))))) (By DV rfl (λ_=>AL (Ax (Ap (AA BE (AA B9 AE))))) (By De rfl (λ_=>AL (Ax (Ap (AA BE (AA B9 AE))))) TF)))))))))) (Ap (AA BE (AA B9 AE))))))) (AL (Ax K3)) BZ)))))
      (AS (Mr v9 rfl (O4 (Ap (AA (DN Iq (DN Iq (AH 8) AN) AN) (AA (UM LH AN) (AA K3 (AA B9 (AA BE (AA (Ap (AA AN AE)) (AA (GP T9 AN AN) AE))))))))) (Hd 12 CI.nd) (AL (Eb (F5 (N7 hu) (QK (k:=7) S_law_said Ii Rr ci bm (hr.mono (by decide)) rfl (λf c' clos A outer s H hr=>(JP Dp hr (AH 0) (AA (AH 1) AE))) (λf c' clos A outer s H hr=>(Qt Dr hr (AH 0) (AA (AH 1) AE))) (λ_ _ _ _ _ _=>(By EV rfl (λ_=>AL (Ax (Ap (AA BE (AA B9 AE))))) (Pu DO rfl (By DZ rfl (λ_=>AL (Ax (Ap (AA BE (AA B9 AE))))) (By Ea rfl (λ_=>AL (Ax (Ap (AA BE (AA B9 AE))))) (By Ba rfl (λ_=>AL (Ax (Ap (AA BE (AA B9 AE))))) (By CN rfl (λ_=>AL (Ax (Ap (AA BE (AA B9 AE))))) (By DV rfl (λ_=>AL (Ax (Ap (AA BE (AA B9 AE))))) (By De rfl (λ_=>AL (Ax (Ap (AA BE (AA B9 AE))))) TF)))))))))) (Ap (AA BE (AA B9 AE)))) (AL (Ax K3)) BZ)))
      (AL (Ax (PL (Mh hu) (Um FO hr (AH 9)) (AH 8))))))))))))))
end
theorem eY{K:W1}{x:Str}{P f c:rY}{oc oc2:rS}{od od2:rW rY}{osl osl2:uE (rW rS)}{fd:uf}{vs:uE rS}{file:Str}{tf tg tt:Tok}{flags text:Int}{inF:sx}(e1:tS K mainGlobals x=Gc (Gc (.ref f)))(e2:K.lookup f=Gc ⟨oc,od,.func fd,osl⟩)(e3:fd.code=.ref c)(e4:K.lookup c=Gc ⟨oc2,od2,.fields vs,osl2⟩)(h0:oc2=.type "code")(h11:vs[11]?=Gc (.ref P))(h11':vs.getD 11 tP=.ref P)(h18:vs.getD 18 tP=.str file tf)(h7:vs.getD 7 tP=.int flags tg)(h9:vs.getD 9 tP=.bool inF)(h10:vs.getD 10 tP=.int text tt)(ne:c≠P):TabAt K x P:=
 ⟨f,oc,od,fd,osl,c,e1,e2,e3,_,vs,file,tf,flags,tg,inF,text,tt,e4,h0,rfl,h11,h11',h18,h7,h9,h10,ne⟩
theorem Tj{P:rY}:∀{K:W1},P∉K.map (·.1)->K.lookup P=none
 | [],_=>rfl
 |(a,o)::K,h=>by
  rw[sV,rZ,ze]at h
  have:(P==a)=false:=by simpa using h.1
  rw[tY,this]
  exact Tj h.2
theorem walk{l:yy}{q:sf}{loose:Wp Str}{XP:(Str->rW rS)->tT->Prop}{d:DefRec}{K:Params->W1}{as:Wp rY}{ea:∀(P:Params),as=List.map (λx=>x.fst) (K P)}{ts:Wp rY}(hn:l.most=Gc 63)(hdf:d.params.defaults=[])(na:∀P∈ts,P∉as)(nd:(((["_law_made_so","law"]:Wp Str).zip ts).map (·.2)).Nodup)(hl:RJ ((["_law_made_so","law"]:Wp Str).zip ts)=[Cl.tab "_law_made_so",Cl.tab "law"])(hd:d.name="law")(F:∀(w:tU) (mg:Str->rW rS) (h:tT),(K w.params).In h->h.Ns mainGlobals mg->(∀z∈(["_law_made_so","law"]:Wp Str).zip ts,TabAt (K w.params) z.1 z.2)/\All w (K w.params) mg):PySem.W.WalkO q loose XP (PySem.W.kmHook K as ea ts).says l.row.toRowW d [] (λf vs=>PySem.call f vs):=by
 refine mh (x:="_law_script") (k:=21) (Fn0:=Nl) ((["_law_made_so","law"]:Wp Str).zip ts) hn hdf ⟨rfl,by decide,by decide⟩ (λw h Y=>⟨Y.1,λz hz=>Y.2 _ (vP hz).2⟩) nd (λw mg fa h KX G hmg=>?_) λns hns=>by rw[hl];exact dq ns hns
 obtain⟨hT,T⟩:=F w mg h KX G
 refine⟨λz hz=>⟨hT z hz,Tj (by rw[<-ea];exact na _ (vP hz).2)⟩,?_⟩
 obtain⟨f,fd,F,hm⟩:=T.Gh.ex
 rw[hd]at hmg
 have e:=hmg.symm.trans hm
 cases e
 refine⟨fd,λs v=>?_,λbase _ _ bm=>dY (P:=l.prog) (w:=w) (base:=base) F hm bm T⟩
 obtain⟨oc,od,kV,doc,pm,an,cdv,ct,osl,hfd,_⟩:=F.ex
 subst hfd
 exact .of_eq rfl
end Mi
end
noncomputable section
structure PySem.W.Fast:Prop where
 (tw14440553900502963837 tw10367402993707714112 tw11263173497902994530 tw16098929240601797803 tw13812652471083201035 tw4738546720102828354 tw1888839607835172037 tw14491264898864449289 tw3600740900995220012 tw18148489602107224626 tw6162468786237996863 tw16249689369075009012 tw11587045271897488689 tw7768460268077647746 tw2312309966491692254 tw6298137245034840245 tw14019094765327022779 tw3304548443676379370 tw4754699974668963658 tw936672553500540111 tw2036447805404508024 tw11542179765711074663 tw5925045766690304179 tw17411667604004575813 tw6585386738729039571 tw4360646685964741442 tw18160653867457014775 tw14590122887578890900 tw18215611154637358608 tw17255602544335023128 tw11145659018983597468 tw3234175800246660276 tw6783289221365884458 tw1636247269451382093 tw7885337211832678664 tw13831275661485991058 tw8439207414999625698 tw16424841460073652119 tw4857366790922419167 tw7964541096916705149 tw2989049330781433191 tw13827098462236347246 tw7002896709440275959 tw16936403427028026665 tw12183099359774389272 tw7701273967487149361 tw4796115998943737226 tw9285242496657894197 tw14929517508052180322 tw8426122898850285354 tw8665918007504812470 tw4529853473860517357 tw12952021179858504567 tw8612548417767791456 tw5141790769580705298 tw8683431611833986505 tw15393429213476022839 tw18309636030454885697 tw17517477190960113438 tw11056364189694843493 tw17841683542271344271 tw1304839596263308309 tw17064002777801943967 tw3465161053278489249 tw11310793844738609547 tw12509885068639989664 tw3151469751475809568 tw6305836743040266680 tw14510658256175008915 tw18444695761552252741 tw13843276477075583010 tw8100978390561583809 tw10961167091496819450 tw9777070092486861554 tw13775780299981965284 tw4888039791032068045 tw6735508133366080955 tw3960279200251087712 tw206606207585741486 tw12323197869270743747 tw9914091666852893304 tw10377825428439647639 tw14899169049135768151 tw8842191142424260222 tw11791360263414733047 tw5644774056004741774 tw9214711067876155066 tw16278587423215392612 tw16617851912370645301 tw1964918047210882230 tw14745454670124952738 tw7666528670270956317 tw16733415580871165575 tw10467385940165956753 tw3047897411484014597 tw1506440655612995283 tw16658323497057905749 tw9383981595730235744 tw7009646015151494372 tw13641102923345509545 tw15876777265690681833 tw16647585358407513237 tw9470664878835974612 tw288507597828309329 tw2492976617545069415 tw10952841875680257741 tw12083194261804847926 tw5697399422022607062 tw5614969642063263699 tw6314873768311790954 tw256203815047592225 tw11234997577874018048 tw14542212238984049442 tw9581181305352650706 tw12682721558833029359 tw1894614889182268125 tw15492754259252162493 tw9733706146454963759 tw12753061050978069299 tw14836135092691169021 tw4341336232512091645 tw9613078935147681275 tw7733931045993959608 tw2729849908450842403 tw1666376366355509325 tw15403542968987005030 tw9066932307097831456 tw8913946461855009605 tw1756612667977408159 tw6563884178955111191 tw10015601609555087679 tw5570398856769893585 tw15588652934636399135 tw16188059198196126158
 tw9136134315581960035 tw9692319364442296758 tw8282308447388109982 tw16278109784980561892 tw8199857231180286258 tw4492099024019543213 tw9183362779605629783 tw7291161448916303588 tw1700963485681631148 tw14618005370167862970 tw16433922380863820223 tw5492070682299584770 tw12127236990511590654 tw6910395968847932852 tw6184389097168918944 tw789926165389200430 tw18087509849305905164 tw13136211627008014417 tw14698537293255287252 tw7140159792106905048 tw1184398354347104260 tw14604762756612913373 tw2635839489283306259 tw3388719015505275984 tw14884148413751020730 tw7714663407396066877 tw1664309852422298336 tw1204961076375185919 tw7039134819767878101 tw3329983088138326792 tw8578212000139915314 tw11241405001198271215 tw4109950574782676524 tw3469913369072490889 tw1970962696392591508 tw6403893691986500537 tw5544614701344632368 tw15031698009628740054 tw16460572042177732473 tw14980424731820058545 tw1552058223059451964 tw8869339082428146302 tw3367328489031599006 tw12882552066068798139 tw13519778731905228781 tw16467414448690974738 tw3339974334010570904 tw13426755500628722699 tw15358624800277173547 tw8846098314262108725 tw9516299360775800091 tw8794213026353827495 tw18342585976964498352 tw15087819611768603238 tw7836710705947096512 tw6838082050215350691 tw3356445050301413719 tw15054422160366386976 tw17851326498623049379 tw1333841882811302182 tw3231379014136441008 tw11712789076539012853 tw9568518850631979777 tw5288127030188158838 tw16568919659304878009 tw17695772718395421762 tw13868223443421705084 tw6439902363177236773 tw8759109085502079574 tw12073382193796037183 tw3327265545654788487 tw17144885207710195065 tw6857776515566616714 tw5629320786388120084 tw11768847422751816435 tw11679124359153892821 tw18354490861686271149 tw5092541126583542269 tw8682473495061542445 tw11530912796437977406 tw880389223332832249 tw1102168272908354485 tw16955647368660209769 tw6366056012744345864 tw10604511904417220046 tw14183984002679902192 tw5116406300692467200 tw9843659138537319996 tw12230209710866904273 tw18022559362371920144 tw12847221388639328916 tw9083901974892818134 tw8947684779779331595 tw1258638846684706100 tw6840325685098701778 tw9810443168371148806 tw14817423338342693700 tw10170188244818569920 tw9265502097880166260 tw12477446087070437648 tw18087221416100473371 tw13390840759851457251 tw230264746004899821 tw11917685286598091820 tw12884395547056634246 tw17227999809757149291 tw536618803262859900 tw10716510198886030909 tw13735137533185505772 tw6037184735104654913 tw7434636393195147125 tw7856297812326655196 tw2123479566480112007 tw15331845232640073934 tw7119126559912993857 tw7069360011046941667 tw6235010340871653077 tw6928924297658288092 tw1687039815775377259 tw1751826283493369380 tw7820060518023913282 tw7817499161018573656 tw1037306691545707365 tw10048420371462393167 tw231216921353927702 tw167565418203978598 tw5928473810743201582 tw4274248066270647305 tw14458469064626167273 tw9615993701566384123 tw13109025369448717668 tw3085521144142599633 tw6643156057560124921 tw5008688761508798754 tw1852121118702974564
 tw5639658578633091968 tw7743712893632674462 tw11451434786647774617 tw13171544566465449730 tw1172022112179762999 tw4444404976568505851 tw13819759679717005931 tw8993680769212616277 tw8962540795837667514 tw14674427835343620862 tw13755406670709876538 tw10870849787674206939 tw7166484222364042939 tw9562311320181861198 tw4687456107791721714 tw13122709526293947346 tw5255669816643757883 tw11882921336597422516 tw11114195227636029032 tw13456252159253891152 tw13133302321744743776 tw2726406640379509939 tw8822661309611940168 tw1553030488785605289 tw13897993427915816840 tw14687976912702024055 tw8590664099119384521 tw16312214004711199186 tw15388443711859987985 tw10545471808468478564 tw6825709068465579488 tw9468798805585552076 tw16937108022139264140 tw14858430395517386081 tw5243880759088391477 tw11205538656482047604 tw7417079771289384273 tw1563247879274959856 tw16534485846735992458 tw13417942353486550482 tw1411554278580320118 tw1738696230489129741 tw17352509306012165571 tw16859865013109979904 tw8427731428321857242 tw17071669080919706921 tw5051063101106145774 tw15273250465991086561 tw12725450038227617213 tw10696030957440690879 tw8164044288292452303 tw8664902688954613541 tw3566557393401271041 tw11079059452914243534 tw15607527659618894975 tw1589348359857000271 tw8993443001888920664 tw18261883877621743803 tw681278357647825081 tw11097482577186966781 tw1650325326019512181 tw2902728717350132947 tw1601014376882965058 tw1288051333312511956 tw15055820040084135395 tw15904854512943655409 tw18336579433483454611 tw4260160239523128004 tw4148240671424598539 tw14480838810827734146 tw14006126704907227120 tw8547587191409160485 tw6014433090726907340 tw9220302461892320339 tw5081313811103553106 tw4594751178562347455 tw9339972809028261725 tw3526595050360606436 tw13530956038020488376 tw7166294352490333300 tw5176216278251060283 tw5206662468993464683 tw15844818583149285547 tw8393637253394080154 tw14018600124569305103 tw11982054137259925131 tw4855469471877305627 tw11769509640334929435 tw5886005523499739041 tw18316246699952147433 tw9066827607188182369 tw11399586555120077249 tw8163726989734698418 tw18093058547000883123 tw2302039070477397177 tw6500368724485616505 tw13419966068182340844 tw7533445099097249565 tw14635789024150444035 tw9480913203422668215 tw1045290370009544643 tw1093754145603000158 tw2925845508027627181 tw5522957239193635754 tw8442565570039088481 tw4665833218374615650 tw13866512439682159364 tw15951194350270727711 tw11903489403571602851 tw15702025699345565185 tw1032942499120819685 tw1285194459329281012 tw2656528278052482682 tw10251663538131878933 tw2119566226090839431 tw6183701724202544775 tw3451088708377050330 tw13650565210866673238 tw13421374911299217861 tw16895583692596544848 tw17564248472245110791 tw15542905926432178287 tw4351158733019570019 tw1898522599327379351 tw16028452589159607803 tw6091259673595803576 tw13038833188971149128 tw16177489974904376423 tw8463960197914209877 tw2545979298692751453 tw13991653473287462665 tw11452380064004007028 tw2490147355825077095 tw8667809463583978260
 tw7298362901398328019 tw6293892118150976952 tw4257706957501507541 tw1207024546183985101 tw15000263222403979634 tw5106191873736734889 tw14239521637302725234 tw4172151813891916110 tw10482929252113450453 tw3004483938703794547 tw17869789452935305243 tw6754874048483656333 tw2504137109013068630 tw16080095214335626324 tw8494103988167609461 tw14464865087916724890 tw12413972384782554756 tw3705709803534590587 tw103944055295690641 tw5194926798849936688 tw15110009268205758892 tw14184069715795666455 tw8102201007486765584 tw3674038268547414947 tw707382786375608195 tw4428791843574115954 tw14519038013139861809 tw6885547581747101616 tw7975046041330575895 tw2738072170341836887 tw3294312433594340872 tw16847221690371825182 tw17515143336642380988 tw2731984758154193663 tw12589799333416655543 tw17252407665807849014 tw16850015908131775061 tw13260648589970499887 tw1923177448413091418 tw2115471145967785291 tw16549314183606465774 tw8374731826820914108 tw11111683738879868048 tw11558771481610964228 tw5474988215017427112 tw2590421655352819312 tw772345615696279874 tw1106881827206974545 tw16160002794457574029 tw13831301939963679950 tw10338611664086712214 tw5817946544253306592 tw16674302143731939772 tw1790462488358830201 tw1004526443368105938 tw12162953510948476902 tw1786782773651133576 tw8203822742360054327 tw10048419652864813398 tw17836452945366009798 tw11902005191641049062 tw7054639933394810104 tw1316865844751566830 tw6875790586475344432 tw5415509822442292707 tw13614379855568194068 tw8262499075437363652 tw17251725575777873500 tw13926673128800831049 tw6720595444678717065 tw9428845820050781284 tw10564227831328133849 tw14739387854578737268 tw1486405450794979561 tw1680233251546661742 tw11510278693242593112 tw18011323383959937213 tw3178342509112725963 tw4059779554471939503 tw15053835147557579302 tw5637879724301825552 tw8209406566068458150 tw9959250232369791916 tw17845302282705999673 tw17314066756058263770 tw6817915485330741630 tw1838112891266717872 tw13481329211754599728 tw8430861314539971006 tw17954966416195169660 tw9099814660127209857 tw4007275757958621248 tw14868995456646304829 tw11049753561536316972 tw1693475873647933893 tw13236898563889381594 tw14415150239626488766 tw9828928202996934518 tw17336918126654203319 tw13736387385375098230 tw407067547501577555 tw12278844452766352836 tw987933581081419589 tw1686513995943292024 tw3592174121300644784 tw1567546005661767872 tw10541419528132883367 tw15323794801795584680 tw861551098590868974 tw5865716900621602526 tw17442017600248017666 tw12340778342255148964 tw18442526699130072454 tw4740308801911577245 tw4201624754229367872 tw5835034452668984650 tw4914399545755693608 tw15782360235097600554 tw9731927658441159538 tw16053344684389064737 tw6442162063274306646 tw17470418990865211401 tw9921567131538327308 tw1758539645728972436 tw13946451408051714240 tw1367040347216138784 tw6212305967643009044 tw8540033394157548550 tw15119025773635383324 tw6949676533123143710 tw13178291611418604551 tw306249283023519853 tw14058262826569365459 tw5196167938476092586 tw1789078021413685674
 tw7732351489949914717 tw7418787898392437557 tw17656697749992901069 tw15174641394328741109 tw5242548848372599045 tw326960022467190981 tw6962089160039617760 tw7889658567120308355 tw9376311964762167795 tw13253348374472378172 tw17157069583913519020 tw460446145109715433 tw13879637690759797286 tw15355950012243333535 tw6978765110929193824 tw14183500836626035570 tw2640602587999401920 tw17171938866748775101 tw12056297729838123596 tw350352613681866540 tw16671984614059367742 tw8187170306853126409 tw7892494513669473456 tw7454440723180437506 tw5758341122283124450 tw15043103095975974014 tw12485015382672928092 tw13546212726006733450 tw5997353406661316540 tw14312182536889984111 tw13333769444959177652 tw13995395900017895883 tw154304641647832181 tw4036271805705942338 tw5890543833818752258 tw12959891123369831901 tw3362836584449917786 tw17730499862816613173 tw13183482565735720430 tw14194183015314732680 tw15336432927689795560 tw10468252102066595080 tw10114128267622260218 tw7635451004311910445 tw6626733959306029068 tw516699292116894369 tw9214731635122400339 tw13887311561846300288 tw18215376071313068017 tw3878436409529515066 tw16574754529607675115 tw17042315126852506993 tw12562427536762216815 tw1942712567766071772 tw8113772844073929300 tw14030126722518291610 tw5002154332538448628 tw10881613064058935287 tw15150532812856400371 tw13425091221087998939 tw16296297932615387341 tw12614288609259134640 tw4326668527405552998 tw15443284672475849178 tw10414420173020388528 tw2013098633740438138 tw4779019219828045664 tw14356911704912293320 tw10418285114835334884 tw8752406183453083320 tw8406290555038611598 tw8835668655084799883 tw773411883520038821 tw13570910100373572531 tw17962891949696851921 tw9255317171602074601 tw11013315871341785779 tw11298932765144241216 tw17764093447813577442 tw13719831701185392853 tw6267124424619291079 tw5689296754165708494 tw7993936380163277988 tw2274891622691644914 tw4282440810204986364 tw3483190099518605815 tw847655221469434620 tw64842652210309086 tw6011800506681620767 tw12708010310671083072 tw14471340697124328553 tw16438020362384904649 tw12783241698795586302 tw241903997961982756 tw1442174472187326541 tw17636674173496010604 tw8607697823672185480 tw1318153958635064270 tw8203265602552102039 tw7751644842238531759 tw12289167652071709535 tw2658088389751582324 tw14784753274775414843 tw2189529309868831708 tw9794333184273607269 tw16339127203299547566 tw13799734622394446329 tw1901712779615344272 tw5921021618995407240 tw4101437994948414147 tw16086188513567606382 tw5149721706616283993 tw5885521395056308775 tw7616989702982272646 tw15210913860685983583 tw10799094584923631317 tw11193000530361932584 tw10122977661075688146 tw4805055848069699978 tw102595168067971421 tw1669913675730307173 tw6122830735167245400 tw30107473694086521 tw4517117730041311311 tw13161008013482099984 tw11430357849563435611 tw3572023874855866158 tw6322795559989825826 tw10892276716023777396 tw16403003121427720608 tw143229110067673714 tw14361215439694538018 tw4977225608534168412 tw796445858321807903 tw4525962387743159900
 tw14233113322793885395 tw12585679026475384666 tw14382784066089273712 tw8426525388741212317 tw4910796825096441333 tw17085363474474308241 tw7126146169343183540 tw15433570936999900107 tw8504280059645547384 tw14313910026629516014 tw8570934295471755619 tw169768195513999484 tw17738386041357186578 tw6484049145815497429 tw6504100095816207798 tw15482842055051991035 tw9763104398882960140 tw5063352272784790183 tw3378794165288349535 tw12140733005669270576 tw15151912750925557883 tw17549865335795813272 tw7670481341018663905 tw10815576531841963659 tw14800672083108971395 tw8159712183355305594 tw8355791520859915821 tw5754074188904996942 tw1618272248551994019 tw9019820044535343619 tw9978253036819349515 tw16355775454256518691 tw5041802225991664140 tw660061556794318853 tw1461399991198244744 tw12397748131171154846 tw1396326229584257167 tw13085391905628630824 tw7045722066721267944 tw1514746420171019491 tw1935824127828755859 tw15262731150710046643 tw5414990807548735999 tw1772727063658139541 tw17871850594036452767 tw11559174616189280498 tw7600560356898142962 tw1542364679827389981 tw12210986460912401710 tw14767558939211651071 tw3345671930427292354 tw13212451077023731733 tw16708061900701903075 tw8474191215660853578 tw6699416199478082507 tw15399833611332271817 tw1615545633266284087 tw236476293475533940 tw14523367172445128639 tw18273658822804540196 tw361458875890386195 tw8091194881530658133 tw5564751284441998734 tw7245635749346384951 tw16353809478295281229 tw12984899826174939979 tw16181084222159791839 tw4576433222722527573 tw13287177666717669820 tw10795393620210745974 tw7756014012664823160 tw675316775684423565 tw15512835869181907871 tw1324321461349288950 tw4399699462823857773 tw3247967726702911502 tw6369470570725425334 tw2251249096320820069 tw17664791634429392478 tw7707866761148442389 tw5277566392336410274 tw2470818903389683572 tw10972027771037521323 tw5723415467215926747 tw9127593622638933235 tw6233025212943519674 tw815091086269978583 tw10103493422223813557 tw14182721655064793294 tw11430610024126776083 tw3856566478344747479 tw3159310985668834939 tw8143794648124413527 tw589314703093447872 tw6165570211403038472 tw18077290030639497101 tw17270376254321099907 tw5823054466819780514 tw4895426793676445754 tw12802102573120938023:yk)
open PySem PySem.W PyProof.Rows
local macro_rules| `(tactic|walk_at $s)=>do
 let x:=y9 `KX
 let g:=y9 `G
 match s.getString with
 | "t"=> `(tactic|repeat' first|exact Mi.Zp|exact Mi.Zf|exact Mi.gM|exact Mi.bE|exact Paired.nil|refine' Paired.cons ⟨⟨_,rfl⟩,?_⟩ ?_|refine' Paired.cons ?_ ?_|(refine' Mi.aN ?l ?z ?_;(case l=>k_is);(case z=>decide)))
 | "k"=> `(tactic|(dsimp only[L2.KOf];refine' Mi.iF $x $g ?e ?r;(case e=>k_is);(case r=>walk_at "t")))
 | "h"=> `(tactic|repeat (first|exact vw|refine' And.intro ⟨_,_,rfl,rfl⟩ ?_))
 | "p"=> `(tactic|(dsimp only[L2.KOf];refine' Mi.aq $x $g ?e ?l ?hk ?hne ?hp;(case e=>k_is);(case l=>k_is);(case hk=>walk_at "h");(case hne=>decide);(case hp=>walk_at "t")))
 | "f"=> `(tactic|(dsimp only[L2.KOf];refine' Mi.bp $x $g ?e ?l ?hk ?hne ?hp;(case e=>k_is);(case l=>k_is);(case hk=>walk_at "h");(case hne=>decide);(case hp=>(repeat (refine' Paired.cons ⟨⟨_,rfl⟩,_,rfl,?q⟩ ?_;(case q=>k_is)));exact Paired.nil)))
 | "x"=> `(tactic|(dsimp only[L2.KOf];refine' Mi.lq $x $g ?e ?q;(case e=>k_is);(case q=>k_exc)))
 | "m"=> `(tactic|(dsimp only[L2.KOf];refine' Mi.eZ $x $g ?e ?t;(case e=>k_is);(case t=>(repeat (refine' Mi.fX ?a ?b ?c ?_;(case a=>k_is);(case b=>kts_exm);(case c=>decide)));exact Mi.all_nil)))
 | "z"=> `(tactic|(refine' PySem.W.mg_none_of $x $g ?z;(case z=>k_is)))
 | "a"=> `(tactic|(refine' Mi.eY ?t1 ?t2 ?t3 ?t4 ?t5 ?t6 ?t7 ?t8 ?t9 ?u1 ?u2 ?u3;(case t1=>k_is);(case t2=>k_is);(case t3=>rfl);(case t4=>k_is);(case t5=>rfl);(case t6=>rfl);(case t7=>rfl);(case t8=>rfl);(case t9=>rfl);(case u1=>rfl);(case u2=>rfl);(case u3=>decide)))
 |w=> `(tactic|case $(y9 w.toName):ident=>k_is)
set_option maxRecDepth 100000 in
set_option maxHeartbeats 0 in
theorem PySem.Challenge.cw_sharetrail_k73_leaders_refused_holds : PySem.Challenge.rw_sharetrail_k73_leaders_refused.Holds := by
 w_on;o_law;k_head;(case hw=>w_witness2)
 k_fill
 refine Mi.walk (l:=PySem.Challenge.rw_sharetrail_k73_leaders_refused) rfl rfl (by decide) (by decide) rfl rfl ?F
 case F=>
  intro w mg h KX G
  refine⟨?T,?_⟩
  case T=>
   intro z hz
   rcases List.mem_cons.mp hz with e|hz
   .subst e
    walk_at "a"
   rcases List.mem_cons.mp hz with e|hz
   .subst e
    walk_at "a"
   cases hz
  have gm:Mi.PV (L2.KOf KX) mg "ALL" Mi.N9:=by walk_at "k"
  have Q9:Mi.PV (L2.KOf KX) mg "MAKERS" Mi.Cy:=by walk_at "k"
  have KP:Mi.PV (L2.KOf KX) mg "MOST_DEEDS" Mi.FY:=by walk_at "k"
  have J8:Mi.PV (L2.KOf KX) mg "MOST_FIRST" Mi.DL:=by walk_at "k"
  have Ir:Mi.PV (L2.KOf KX) mg "MOST_THROWS" Mi.Ef:=by walk_at "k"
  have Oh:Mi.PV (L2.KOf KX) mg "NOTHING" Mi.Hc:=by walk_at "k"
  have JX:Mi.PV (L2.KOf KX) mg "UNLIKE" Mi.Gj:=by walk_at "k"
  have Jg:Mi.gd (L2.KOf KX) w mg "FORMS" Mi.CV:=by walk_at "p"
  have Pm:Mi.ju w (L2.KOf KX) mg "PARTS" [("partner","is_partner"),("kind","is_kind"),("load","is_load_number"),("number","is_trade_number"),("pieces","are_pieces"),("worths","are_worths"),("share","is_sold_share")]:=by walk_at "f"
  have JK:Mi.XcD (L2.KOf KX) mg "NoDeed":=by walk_at "x"
  have G9:Mi.XcD (L2.KOf KX) mg "NoFirst":=by walk_at "x"
  have Mm:Mi.XcD (L2.KOf KX) mg "NoNumber":=by walk_at "x"
  have Le:Mi.XcD (L2.KOf KX) mg "NoPartner":=by walk_at "x"
  have Hg:Mi.XcD (L2.KOf KX) mg "NoTrain":=by walk_at "x"
  have Hb:Mi.XcD (L2.KOf KX) mg "TooMany":=by walk_at "x"
  have EV:Mi.XmD (L2.KOf KX) mg ["NoDeed","NotDone","TooMany","NoNext","NothingDone","NoPartner","NoFirst","NoTrain"] "NoDeed":=by walk_at "m"
  have DV:Mi.XmD (L2.KOf KX) mg ["NoDeed","NotDone","TooMany","NoNext","NothingDone","NoPartner","NoFirst","NoTrain"] "NoFirst":=by walk_at "m"
  have Ea:Mi.XmD (L2.KOf KX) mg ["NoDeed","NotDone","TooMany","NoNext","NothingDone","NoPartner","NoFirst","NoTrain"] "NoNext":=by walk_at "m"
  have CN:Mi.XmD (L2.KOf KX) mg ["NoDeed","NotDone","TooMany","NoNext","NothingDone","NoPartner","NoFirst","NoTrain"] "NoPartner":=by walk_at "m"
  have De:Mi.XmD (L2.KOf KX) mg ["NoDeed","NotDone","TooMany","NoNext","NothingDone","NoPartner","NoFirst","NoTrain"] "NoTrain":=by walk_at "m"
  have DO:Mi.XmD (L2.KOf KX) mg ["NoDeed","NotDone","TooMany","NoNext","NothingDone","NoPartner","NoFirst","NoTrain"] "NotDone":=by walk_at "m"
  have Ba:Mi.XmD (L2.KOf KX) mg ["NoDeed","NotDone","TooMany","NoNext","NothingDone","NoPartner","NoFirst","NoTrain"] "NothingDone":=by walk_at "m"
  have DZ:Mi.XmD (L2.KOf KX) mg ["NoDeed","NotDone","TooMany","NoNext","NothingDone","NoPartner","NoFirst","NoTrain"] "TooMany":=by walk_at "m"
  have Ai:Mi.ClD (L2.KOf KX) "Leader" ["kept","earlier"]:=by
   dsimp only[L2.KOf]
   refine' Mi.fS ?oa ?ob ?oc ?od ?oe ?on
   walk_at "oa"
   walk_at "ob"
   walk_at "oc"
   walk_at "od"
   walk_at "oe"
   case on=>
    refine' Mi.Tp ?nh ?nt
    (case nh=>k_is)
    case nt=>
     refine' Mi.Tp ?nh ?nt
     (case nh=>k_is)
     case nt=>
      exact Mi.iN
  have Bc:Mi.MkS (L2.KOf KX) mg "Leader" "Leader.__init__" Mi.Bc:=by
   dsimp only[L2.KOf]
   refine' Mi.fJ KX G ?ma ?mb ?mc ?md ?me ?ml ?mo ?mk
   walk_at "ma"
   walk_at "mb"
   walk_at "mc"
   walk_at "md"
   walk_at "me"
   walk_at "ml"
   walk_at "mo"
   walk_at "mk"
  have BC:Mi.MeS (L2.KOf KX) "Leader" "turn_to" "Leader.turn_to" Mi.BC:=by
   dsimp only[L2.KOf]
   refine' Mi.QS Ai ?ma ?mb ?mc ?ml ?mo ?mk
   walk_at "ma"
   walk_at "mb"
   walk_at "mc"
   walk_at "ml"
   walk_at "mo"
   walk_at "mk"
  have Bx:Mi.MeS (L2.KOf KX) "Leader" "do" "Leader.do" Mi.Bx:=by
   dsimp only[L2.KOf]
   refine' Mi.QS Ai ?ma ?mb ?mc ?ml ?mo ?mk
   walk_at "ma"
   walk_at "mb"
   walk_at "mc"
   walk_at "ml"
   walk_at "mo"
   walk_at "mk"
  have Bn:Mi.MeS (L2.KOf KX) "Leader" "book" "Leader.book" Mi.Bn:=by
   dsimp only[L2.KOf]
   refine' Mi.QS Ai ?ma ?mb ?mc ?ml ?mo ?mk
   walk_at "ma"
   walk_at "mb"
   walk_at "mc"
   walk_at "ml"
   walk_at "mo"
   walk_at "mk"
  have A1:Mi.MeS (L2.KOf KX) "Leader" "theirs" "Leader.theirs" Mi.A1:=by
   dsimp only[L2.KOf]
   refine' Mi.QS Ai ?ma ?mb ?mc ?ml ?mo ?mk
   walk_at "ma"
   walk_at "mb"
   walk_at "mc"
   walk_at "ml"
   walk_at "mo"
   walk_at "mk"
  have z_abs:mg "abs"=none:=by walk_at "z"
  have z_all:mg "all"=none:=by walk_at "z"
  have z_bool:mg "bool"=none:=by walk_at "z"
  have z_enumerate:mg "enumerate"=none:=by walk_at "z"
  have z_int:mg "int"=none:=by walk_at "z"
  have z_isinstance:mg "isinstance"=none:=by walk_at "z"
  have z_len:mg "len"=none:=by walk_at "z"
  have z_list:mg "list"=none:=by walk_at "z"
  have z_min:mg "min"=none:=by walk_at "z"
  have z_range:mg "range"=none:=by walk_at "z"
  have z_str:mg "str"=none:=by walk_at "z"
  have z_sum:mg "sum"=none:=by walk_at "z"
  have z_tuple:mg "tuple"=none:=by walk_at "z"
  have z_zip:mg "zip"=none:=by walk_at "z"
  refine⟨⟨z_abs,z_all,z_bool,z_enumerate,z_int,z_isinstance,z_len,z_list,z_min,z_range,z_str,z_sum,z_tuple,z_zip⟩,gm,Q9,KP,J8,Ir,Oh,JX,Jg,Pm,JK,G9,Mm,Le,Hg,Hb,EV,DV,Ea,CN,De,DO,Ba,DZ,Ai,Bc,BC,Bx,Bn,A1,?_,?_,?_,?_,?_,?_,?_,?_,?_,?_,?_,?_,?_,?_,?_,?_,?_,?_,?_,?_,?_,?_,?_,?_,?_,?_,?_,?_,?_,?_,?_,?_,?_,?_,?_,?_,?_,?_,?_,?_,?_,?_,?_,?_,?_,?_,?_,?_,?_,?_,?_,?_,?_,?_,?_,?_,?_,?_,?_,?_,?_,?_,?_,?_,?_,?_,?_,?_,?_,?_⟩
  all_goals (refine' Mi.gh KX G ?a ?l ?c ?k;(case a=>k_is);(case l=>k_is);(case c=>k_is);(case k=>k_is))
end
